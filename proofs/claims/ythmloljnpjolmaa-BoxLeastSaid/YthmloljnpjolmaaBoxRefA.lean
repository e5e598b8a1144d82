/- indentureref04.Right. -/
import Derived.Test.YthmloljnpjolmaaDist6
namespace Go.Proofs.Ythmloljnpjolmaa
open Go.RowKit

/-- Whether of the first so many numbers none is above the other list's. -/
def les (R S : List Int) : Nat → Bool
  | 0 => true
  | k + 1 => les R S k && decide (R.getD k 0 ≤ S.getD k 0)
theorem les_iff (R S : List Int) : ∀ n, les R S n = true ↔ ∀ k, k < n → R.getD k 0 ≤ S.getD k 0
  | 0 => ⟨fun _ k hk => by omega, fun _ => rfl⟩
  | n + 1 => by
    show (les R S n && decide (R.getD n 0 ≤ S.getD n 0)) = true ↔ _
    rw [Bool.and_eq_true, les_iff R S n, decide_eq_true_eq]
    constructor
    · rintro ⟨h1, h2⟩ k hk
      by_cases hkn : k = n
      · rw [hkn]; exact h2
      · exact h1 k (by omega)
    · intro h
      exact ⟨fun k hk => h k (by omega), h n (by omega)⟩
/-- Whether a box of such corners is right for so many dimensions. -/
def rightB (R S : List Int) (n m : Nat) (d : Int) : Bool := decide (1 ≤ d ∧ d ≤ 8 ∧ (n : Int) = d ∧ (m : Int) = d) && les R S n
theorem rightB_not {R S : List Int} {n m : Nat} {d : Int} (h : ¬ (1 ≤ d ∧ d ≤ 8 ∧ (n : Int) = d ∧ (m : Int) = d)) : rightB R S n m d = false := by
  unfold rightB
  rw [decide_eq_false h, Bool.false_and]
theorem rightB_les {R S : List Int} {n : Nat} (h : 1 ≤ n ∧ n ≤ 8) : rightB R S n n n = les R S n := by
  unfold rightB
  rw [decide_eq_true (by omega), Bool.true_and]
def RightRel (w0 : World) (R S : List Int) (n : Nat) (i : Value) (wr : World) : Prop := ∃ k j : Nat, k ≤ n ∧ i = .int .i64 k ∧ les R S k = true ∧ wr = w0.drewN j
theorem les_false {R S : List Int} {k n : Nat} (hk : k < n) (h : ¬ R.getD k 0 ≤ S.getD k 0) : les R S n = false := by
  cases e : les R S n with
  | false => rfl
  | true => exact absurd ((les_iff R S n).1 e k hk) h
theorem pair_alloc (w : World) (v u : Value) (t : TypeId) : (w.alloc (.cells #[v, u] t)).cell? ⟨w.heap.size, 0, none⟩ = some v ∧ (w.alloc (.cells #[v, u] t)).cell? ⟨w.heap.size, 1, none⟩ = some u :=
  ⟨cell_of_row _ _ 0 _ t (0, 0) (heap_alloc_new w _), cell_of_row _ _ 1 _ t (0, 0) (heap_alloc_new w _)⟩
set_option maxRecDepth 100000 in
set_option maxHeartbeats 1000000 in
theorem refright_any (p q : Option Addr) (n c m e : Nat) (R S : List Int) (d : Int) (w : World) (h : Ints w p n c R) (h2 : Ints w q m e S) :
    Calls Try.prog 9 #[.agg #[.slice p n c, .slice q m e], .int .i64 d] w fun e w' => e = .returned (.bool (rightB R S n m d)) ∧ Below w.heap.size w w' := by
  have hb : Below w.heap.size w (w.alloc (.cells #[.slice p n c, .slice q m e] 25)) := (Below.refl _ _).alloc (Nat.le_refl _) _
  obtain ⟨e0, e1⟩ := pair_alloc w (.slice p n c) (.slice q m e) 25
  have H1 := Lib.hid (h.later hb)
  have H2 := Lib.hid (h2.later hb)
  have HB := Lib.hid hb
  clear h h2 hb
  by_cases hd1 : d < 1
  · rw [rightB_not (by omega)]
    go_enter Try.func9, Try.ntmps9
    go_wp2_with fail
    go_ret
    exact ⟨rfl, HB.out⟩
  by_cases hd2 : 8 < d
  · rw [rightB_not (by omega)]
    go_enter Try.func9, Try.ntmps9
    go_wp2_with fail
    go_ret
    exact ⟨rfl, HB.out⟩
  by_cases hn : (n : Int) = d
  case neg =>
    rw [rightB_not (fun h => hn h.2.2.1)]
    go_enter Try.func9, Try.ntmps9
    go_wp2_with fail
    go_ret
    exact ⟨rfl, HB.out⟩
  by_cases hm : (m : Int) = d
  case neg =>
    rw [rightB_not (fun h => hm h.2.2.2)]
    go_enter Try.func9, Try.ntmps9
    go_wp2_with fail
    go_ret
    exact ⟨rfl, HB.out⟩
  subst hn
  obtain rfl : m = n := by omega
  rw [rightB_les (by omega)]
  clear hm
  go_enter Try.func9, Try.ntmps9
  go_wp2_with fail
  have HE0 := Lib.hid e0
  have HE1 := Lib.hid e1
  generalize hw0 : w.alloc (.cells #[.slice p m c, .slice q m e] 25) = w0 at *
  clear hw0
  go_loopw [5] (fun i wr => RightRel w0 R S m i wr) (fun i _ => m - (intOf i).toNat)
  case atStart => exact ⟨0, 0, by omega, rfl, rfl, rfl⟩
  case round =>
    obtain ⟨k, j, hk, rfl, hles, rfl⟩ := hrel
    have HL := Lib.hid hles
    clear hles
    by_cases hlt : k < m
    · obtain ⟨gx, o, rfl, hcx⟩ := H1.out.cell k hlt
      obtain ⟨gy, o2, rfl, hcy⟩ := H2.out.cell k hlt
      have i1 : (0 : Int) ≤ k ∧ (k : Int) < m := by omega
      have hf := fun h => les_false (R := R) (S := S) hlt h
      have hs : les R S (k + 1) = (les R S k && decide (R.getD k 0 ≤ S.getD k 0)) := rfl
      have HF := Lib.hid hf
      have HS := Lib.hid hs
      clear hf hs
      generalize R.getD k 0 = x at *
      generalize S.getD k 0 = y at *
      by_cases hgt : y < x
      · have hfl := HF.out (by omega)
        have HFL := Lib.hid hfl
        clear HF HS hfl
        go_upto_region 6 with fail
        go_quiet (fail)
        go_wp2_with fail
        go_ret
        exact ⟨congrArg (fun b => Ending.returned (.bool b)) HFL.out.symm, Below.drewN (Below.drewN HB.out _) _⟩
      · go_upto_region 6 with fail
        go_quiet (fail)
        go_wp2_with fail
        go_roundw
        case rel => exact ⟨k + 1, j + nq, by omega, by go_num, by rw [HS.out, HL.out, decide_eq_true (by omega)]; rfl, rfl⟩
        case measure => simp [intOf]; omega
    · obtain rfl : k = m := by omega
      go_wp2_with fail
      go_ret
      exact ⟨congrArg (fun b => Ending.returned (.bool b)) HL.out.symm, Below.drewN HB.out _⟩
end Go.Proofs.Ythmloljnpjolmaa
