/- morton.Cmp; indentureref05.Less. -/
import Derived.Test.YtcekcoekbgdkaaaMorBit
import Derived.Test.YtcekcoekbgdkaaaGenTx
import Derived.Lib.BytesEntry
import Derived.Laws.Externs
namespace Go.Proofs.Ytcekcoekbgdkaaa
open Go.RowKit

def sgnI (x y : Int) : Int := if x < y then -1 else if y < x then 1 else 0
set_option maxHeartbeats 1000000 in
theorem cmpi_any (x y : Nat) (w : World) :
    Calls Try.prog 25 #[.int .i64 x, .int .i64 y] w fun e w' => e = .returned (.int .i64 (sgnI x y)) ∧ w' = w := by
  unfold sgnI
  by_cases h1 : (x : Int) < y
  · rw [if_pos h1]
    have h1d : decide ((x : Int) < y) = true := decide_eq_true h1
    go_enter Try.func25, Try.ntmps25
    go_wp2
    go_ret
    exact ⟨rfl, rfl⟩
  · rw [if_neg h1]
    have h1d : decide ((x : Int) < y) = false := decide_eq_false h1
    by_cases h2 : (y : Int) < x
    · rw [if_pos h2]
      have h2d : decide ((y : Int) < x) = true := decide_eq_true h2
      go_enter Try.func25, Try.ntmps25
      go_wp2
      go_ret
      exact ⟨rfl, rfl⟩
    · rw [if_neg h2]
      have h2d : decide ((y : Int) < x) = false := decide_eq_false h2
      go_enter Try.func25, Try.ntmps25
      go_wp2
      go_ret
      exact ⟨rfl, rfl⟩
theorem bytes_lt {x y : Nat} (hx : x < 256) (hy : y < 256) : (UInt8.ofNat x < UInt8.ofNat y) ↔ x < y := by
  rw [UInt8.lt_iff_toNat_lt, UInt8.toNat_ofNat', UInt8.toNat_ofNat', Nat.mod_eq_of_lt (by omega), Nat.mod_eq_of_lt (by omega)]
theorem compare_cmp : ∀ (A B : List Nat), Sm.allB A → Sm.allB B → Lib.compareBytes (A.map UInt8.ofNat) (B.map UInt8.ofNat) = Cm.cmpL A B
  | [], [], _, _ => rfl
  | [], _ :: _, _, _ => rfl
  | _ :: _, [], _, _ => rfl
  | x :: A, y :: B, hA, hB => by
    have hx := hA x (by simp)
    have hy := hB y (by simp)
    have ih := compare_cmp A B (fun z hz => hA z (by simp [hz])) (fun z hz => hB z (by simp [hz]))
    rw [List.map_cons, List.map_cons, Lib.compareBytes, ih, Cm.cmpL_cons]
    by_cases h1 : x < y
    · rw [if_pos h1, if_pos ((bytes_lt hx hy).2 h1)]
    · rw [if_neg h1, if_neg (fun h => h1 ((bytes_lt hx hy).1 h))]
      by_cases h2 : y < x
      · rw [if_pos h2, if_pos ((bytes_lt hy hx).2 h2)]
      · rw [if_neg h2, if_neg (fun h => h2 ((bytes_lt hy hx).1 h))]
theorem strOf_list {A : List Nat} : (strOf A).data.toList = A.map UInt8.ofNat := by
  simp [strOf, strOfNums, Function.comp_def]
theorem run_bytesOf {w : World} {p : Option Addr} {n c : Nat} {B : List Nat} (h : Tx w p n c B) : (Extern.Bytes.bytesOf (.slice p n c)).run Try.prog w = .ok (strOf B) w := by
  have hs := h.size
  rcases h.at' with ⟨rfl, hc⟩ | ⟨x, rfl, hx⟩
  · have hB : B = [] := List.length_eq_zero_iff.1 (by have := h.le; omega)
    subst hB
    rfl
  · have hl := Lib.run_loadBytesX (P := Try.prog) w (B.map Int.ofNat) x .empty (fun j y hy => by
      rw [List.getElem?_map, Option.map_eq_some_iff] at hy
      obtain ⟨b, hb, rfl⟩ := hy
      exact hx j _ (by simp [vals, hb]))
    rw [List.length_map, ← hs] at hl
    refine hl.trans ?_
    congr 1
    apply ByteArray.ext
    apply Array.ext'
    simp [strOf, strOfNums, Lib.bytesOf, Function.comp_def]
theorem run_compare {w : World} {p q : Option Addr} {n c m d : Nat} {A B : List Nat} (hA : Tx w p n c A) (hB : Tx w q m d B) : (Extern.BytealgCompare.compare #[.slice p n c, .slice q m d]).run Try.prog w = .ok (.int .i64 (Cm.cmpL A B)) w := by
  show Sem.run Try.prog (Extern.Bytes.bytesOf (.slice p n c) >>= fun a => Extern.Bytes.bytesOf (.slice q m d) >>= fun b => pure (goInt (Extern.BytealgCompare.cmp a b))) w = _
  simp only [Sem.run_bind, run_bytesOf hA, run_bytesOf hB, Result.andThen_ok, Sem.run_pure]
  rw [Lib.cmp_eq, strOf_list, strOf_list, compare_cmp A B hA.ok hB.ok]
  rfl
set_option maxRecDepth 100000 in
set_option maxHeartbeats 1000000 in
theorem bcompare_any (A B : List Nat) (p q : Option Addr) (n c m d : Nat) (w : World) (hA : Tx w p n c A) (hB : Tx w q m d B) :
    Calls Try.prog 26 #[.slice p n c, .slice q m d] w fun e w' => e = .returned (.int .i64 (Cm.cmpL A B)) ∧ w' = w := by
  have hr := run_compare hA hB
  clear hA hB
  go_enter Try.func26, Try.ntmps26
  go_wp2
  rw [run_callFunc_extern Try.func29 (by kernel_rfl) (by kernel_rfl) (by kernel_rfl) (e := Extern.BytealgCompare.compare) (by kernel_rfl), hr]
  simp only [Result.andThen]
  rw [Oper.upon_value]
  go_wp2
  go_ret
  exact ⟨rfl, rfl⟩
set_option maxRecDepth 100000 in
set_option maxHeartbeats 1000000 in
theorem mcmp_any (A B : List Nat) (p q : Option Addr) (n c d : Nat) (w : World) (hA : Tx w p n c A) (hB : Tx w q n d B) :
    Calls Try.prog 17 #[.slice p n c, .slice q n d] w fun e w' => e = .returned (.int .i64 (Cm.cmpL A B)) ∧ w' = w := by
  have HA := Lib.hid hA
  have HB := Lib.hid hB
  clear hA hB
  go_enter Try.func17, Try.ntmps17
  go_wp2_with fail
  refine (bcompare_any A B p q n c n d w HA.out HB.out).mono ?_
  rintro e w' ⟨rfl, rfl⟩
  go_wp2_with fail
  go_ret
  exact ⟨rfl, rfl⟩
theorem less_cmp : ∀ (A B : List Nat), Sm.allB A → Sm.allB B → Op.bytesLess (A.map UInt8.ofNat) (B.map UInt8.ofNat) = decide (Cm.cmpL A B < 0)
  | [], [], _, _ => by simp [Op.bytesLess, Cm.cmpL]
  | [], _ :: _, _, _ => by simp [Op.bytesLess, Cm.cmpL]
  | _ :: _, [], _, _ => by simp [Op.bytesLess, Cm.cmpL]
  | x :: A, y :: B, hA, hB => by
    have hx := hA x (by simp)
    have hy := hB y (by simp)
    have ih := less_cmp A B (fun z hz => hA z (by simp [hz])) (fun z hz => hB z (by simp [hz]))
    rw [List.map_cons, List.map_cons, Op.bytesLess, ih, Cm.cmpL_cons]
    have e1 : (decide (UInt8.ofNat x < UInt8.ofNat y)) = decide (x < y) := decide_eq_decide.2 (bytes_lt hx hy)
    have e2 : (UInt8.ofNat x == UInt8.ofNat y) = decide (x = y) := by
      rw [Bool.eq_iff_iff, beq_iff_eq, decide_eq_true_iff]
      constructor
      · intro h
        have := congrArg UInt8.toNat h
        rw [UInt8.toNat_ofNat', UInt8.toNat_ofNat', Nat.mod_eq_of_lt (by omega), Nat.mod_eq_of_lt (by omega)] at this
        exact this
      · rintro rfl; rfl
    rw [e1, e2]
    by_cases h1 : x < y
    · rw [if_pos h1]; simp [h1]
    · by_cases h2 : y < x
      · rw [if_neg h1, if_pos h2]
        have h3 : ¬ x = y := by omega
        simp [h1, h3]
      · rw [if_neg h1, if_neg h2]
        have h3 : x = y := by omega
        simp [h3]
theorem str_less {A B : List Nat} (hA : Sm.allB A) (hB : Sm.allB B) : Op.bytesLess (strOf A).toList (strOf B).toList = decide (Cm.cmpL A B < 0) := by
  rw [ByteArray.toList_eq, ByteArray.toList_eq, strOf_list, strOf_list, less_cmp A B hA hB]
set_option maxRecDepth 100000 in
set_option maxHeartbeats 1000000 in
theorem less_any (A B : List Nat) (p q : Option Addr) (n c d : Nat) (w : World) (hA : Tx w p n c A) (hB : Tx w q n d B) :
    Calls Try.prog 18 #[.slice p n c, .slice q n d] w fun e w' => e = .returned (.bool (decide (Cm.cmpL A B < 0))) ∧ w' = w := by
  have h1 := convert_tx hA
  have h2 := convert_tx hB
  have hl := str_less hA.ok hB.ok
  clear hA hB
  generalize strOf A = sa at *
  generalize strOf B = sb at *
  generalize decide (Cm.cmpL A B < 0) = b at *
  go_enter Try.func18, Try.ntmps18
  go_wp2_with fail
  go_ret
  exact ⟨rfl, rfl⟩
end Go.Proofs.Ytcekcoekbgdkaaa
