/- The contract of sha.Hex. -/
import Derived.Test.YtgdipdmpmaemjaaShaPre
import Derived.Deep.RegionLaw
namespace Go.Proofs.Ytgdipdmpmaemjaa
open Go.RowKit

def hexd (n : Nat) : Nat := if n < 10 then 48 + n else 87 + n
theorem hexd_lt {n : Nat} (h : n < 16) : hexd n < 256 := by unfold hexd; split <;> omega
def digits : ByteArray := ⟨#[48, 49, 50, 51, 52, 53, 54, 55, 56, 57, 97, 98, 99, 100, 101, 102]⟩
theorem digit_get (j : Fin 16) : (digits.data[j.val]'(by exact j.isLt)).toNat = hexd j.val := by
  revert j
  decide
theorem index_digits (k : IntKind) (i : Nat) (h : i < 16) (w : World) : (Instr.index 9 (.string ⟨#[48, 49, 50, 51, 52, 53, 54, 55, 56, 57, 97, 98, 99, 100, 101, 102]⟩) (.int k (i : Int))).run Try.prog w = .ok (.int .u8 (hexd i : Nat)) w := by
  show (Instr.index 9 (.string digits) (.int k (i : Int))).run Try.prog w = _
  rw [run_index_string w 9 digits k i A9]
  have hs : digits.size = 16 := rfl
  rw [dif_pos (by omega)]
  have := digit_get ⟨i, h⟩
  congr 2
  rw [← this]
  rfl
def hexs (l : List Nat) : List Nat := l.flatMap fun b => [hexd (b / 16), hexd (b % 16)]
theorem hexs_length (l : List Nat) : (hexs l).length = 2 * l.length := by
  induction l with
  | nil => rfl
  | cons b l ih => rw [hexs, List.flatMap_cons, List.length_append]; simp only [hexs] at ih; rw [ih]; simp; omega
theorem hexs_step (l : List Nat) (k : Nat) (h : k < l.length) : hexs (l.take (k + 1)) = hexs (l.take k) ++ [hexd (l.getD k 0 / 16), hexd (l.getD k 0 % 16)] := by
  rw [List.take_succ_eq_append_getElem h, List.getD_eq_getElem?_getD, List.getElem?_eq_getElem h]
  simp only [hexs, List.flatMap_append, List.flatMap_cons, List.flatMap_nil, List.append_nil, Option.getD_some]
theorem hexs_ok (l : List Nat) (h : Sm.allB l) : Sm.allB (hexs l) := by
  intro x hx
  simp only [hexs, List.mem_flatMap] at hx
  obtain ⟨b, hb, hx⟩ := hx
  have := h b hb
  simp only [List.mem_cons, List.not_mem_nil, or_false] at hx
  rcases hx with rfl | rfl <;> exact hexd_lt (by omega)
theorem and15 {x : Nat} (h : x < 256) : bits .and .u8 (x : Nat) 15 = ((x % 16 : Nat) : Int) := by
  have := u8_and_nat x 15 h (by omega)
  rw [show ((15 : Nat) : Int) = 15 from rfl] at this
  rw [this, show 15 = 2 ^ 4 - 1 from rfl, Nat.and_two_pow_sub_one_eq_mod]
def HexRel (w : World) (d : List Nat) (v i : Value) (wr : World) : Prop :=
  ∃ k : Nat, k ≤ 32 ∧ i = .int .i64 k ∧ wr.ownsRow w.heap.size 5 1 v (2 * k) (vals (hexs (d.take k))) ∧ Below w.heap.size w wr
set_option maxRecDepth 100000 in
set_option maxHeartbeats 1000000 in
theorem hex_any (d : List Nat) (hd : d.length = 32) (hdb : Sm.allB d) (w : World) :
    Calls Try.prog 15 #[.agg (u8s d)] w fun e w' => e = .returned (.string (strOfNums ((hexs d).map Int.ofNat))) ∧ Below w.heap.size w w' := by
  obtain ⟨i5, hi, hi0, hi1, hi2⟩ := info_parts I5
  have HI := Lib.hid hi
  have HI0 := Lib.hid hi0
  have HI1 := Lib.hid hi1
  have HI2 := Lib.hid hi2
  have HD := Lib.hid hd
  have HDB := Lib.hid hdb
  have HR := Lib.hid (heap_alloc_new w (.cells (u8s d) 25))
  clear hi hi0 hi1 hi2 hd hdb
  go_enter Try.func15, Try.ntmps15
  go_wp2_with (first | (at_make; refine wpList_make_own _ (by rfl) _ _ 22 (by rfl) w.heap.size 5 i5 (.int .u8 0) 1 A22 HI.out HI0.out HI1.out .i64 .i64 _ 64 (by rfl) (by rfl) (by rfl) (by rw [HI2.out]; omega) (by unfold maxLen; omega) (by simp) ?_; intro w1 hown1 hgrow1; have hR1 := (hgrow1.block w.heap.size (by simp) (by simp)).trans HR.out) | (refine wpList_load_row (by rfl) 25 _ (by rfl) w.heap.size (by rfl) 25 _ (0, 0) _ hR1 A25 (by rfl) (by rw [u8s_size, HD.out]; exact S25) ?_))
  have hb1 : Below w.heap.size w w1 := ((Below.refl _ _).alloc (Nat.le_refl _) _).grown hgrow1 (by simp) (by simp)
  have hst : HexRel w d (.slice (some ⟨w.heap.size + 1, 0, none⟩) 0 64) (.int .i64 0) w1 := ⟨0, by omega, rfl, by simpa [hexs, vals] using hown1, hb1⟩
  have HST := Lib.hid hst
  clear hst hb1 hown1 hgrow1 hR1
  go_loopw [3, 8] (fun v i wr => HexRel w d v i wr) (fun _ i _ => 32 - (intOf i).toNat)
  case atStart => exact HST.out
  case round =>
    obtain ⟨k, hk, rfl, ho, hb⟩ := hrel
    have HO := Lib.hid ho
    have HB := Lib.hid hb
    clear ho hb HST
    by_cases hlt : k < 32
    · have hix := fun w' => run_index_array A25 U5 rfl S5 (u8s d) k hlt _ (u8s_get d k (by rw [HD.out]; exact hlt)) w'
      obtain ⟨x, hx⟩ : ∃ x, x = d.getD k 0 := ⟨_, rfl⟩
      rw [← hx] at hix
      have hx8 : x < 256 := by rw [hx]; exact Sm.getD_lt HDB.out (by omega) _
      have HX := Lib.hid hx
      clear hx
      have i1 : ∀ w', (Instr.index 9 (.string ⟨#[48, 49, 50, 51, 52, 53, 54, 55, 56, 57, 97, 98, 99, 100, 101, 102]⟩) (.int .u8 ((x : Int) / 16))).run Try.prog w' = .ok (.int .u8 (hexd (x / 16) : Nat)) w' := fun w' => by
        rw [show (x : Int) / 16 = ((x / 16 : Nat) : Int) from by omega]; exact index_digits .u8 (x / 16) (by omega) w'
      have i2 : ∀ w', (Instr.index 9 (.string ⟨#[48, 49, 50, 51, 52, 53, 54, 55, 56, 57, 97, 98, 99, 100, 101, 102]⟩) (.int .u8 (bits .and .u8 (x : Int) 15))).run Try.prog w' = .ok (.int .u8 (hexd (x % 16) : Nat)) w' := fun w' => by
        rw [and15 hx8]; exact index_digits .u8 (x % 16) (by omega) w'
      go_wp2_with fail
      go_region_law ((refine step_append_lies _ (by rfl) (.tmp 11) (.tmp 18) 22 (by rfl) w.heap.size 5 i5 (.int .u8 0) 1 1 A22 HI.out HI0.out HI1.out HI2.out (by rfl) (by decide) _ (2 * k) (vals (hexs (d.take k))) (by rfl) (HO.out.drew.alloc _) ⟨wr.heap.size, 0, none⟩ 2 2 (vals [hexd (x / 16), hexd (x % 16)]) (by rfl) (by rfl) (cells_of_row (L := [hexd (x / 16), hexd (x % 16)]) (heap_alloc_new wr.drew _)) (vals_one _) (by decide) (by unfold maxLen; omega) (by omega) (by have := HB.out.size; simp; omega) (wr.heap.size + 1) (by simp) ?_; intro g cap w2 hown2 hgrow2 hat hlt2))
      all_goals
        have hb2 : Below w.heap.size w w2 := ((HB.out.drew).alloc HB.out.size _).grown hgrow2 (by have := HB.out.size; simp; omega) (fun j hj => (HO.out.lt j hj).1)
        have e : w2.ownsRow w.heap.size 5 1 (.slice (some ⟨g, 0, none⟩) (2 * k + 2) cap) (2 * k + 2) (vals (hexs (d.take (k + 1)))) := by
          rw [hexs_step d k (by rw [HD.out]; exact hlt), ← HX.out, vals_append]
          exact hown2
        have HE := Lib.hid e
        have HB2 := Lib.hid hb2
        clear hown2 hgrow2 hat hlt2 e hb2 i1 i2 hix
        go_wp2_with fail
        go_roundw
        case rel => exact ⟨k + 1, by omega, by go_num, HE.out, HB2.out⟩
        case measure => simp [intOf]; omega
    · obtain rfl : k = 32 := by omega
      have ho := HO.out
      rw [show 2 * 32 = 64 from rfl, List.take_of_length_le (by rw [HD.out]; omega)] at ho
      obtain ⟨g, cap, rfl, _, _⟩ := ho.form (by omega)
      have hby : Bytes wr (some ⟨g, 0, none⟩) 64 cap (hexs d) := Bytes.of_owns ho (hexs_ok d HDB.out)
      have hcv := run_convert_bytes_arg (P := Try.prog) wr 22 5 A22 U5 g 0 64 cap ((hexs d).map Int.ofNat) (by rw [List.length_map, hexs_length, HD.out]) (fun i hi => by
        obtain ⟨g', o', hp, hx⟩ := hby.ne (by intro e; have := hexs_length d; rw [e, HD.out] at this; simp at this)
        obtain ⟨rfl, rfl⟩ : g = g' ∧ 0 = o' := by simpa using hp
        rw [hx i (by rw [hexs_length, HD.out]; omega)]
        simp [List.getD_eq_getElem?_getD, hexs_length, HD.out, hi]) 9 A9
      clear ho hby HO
      go_wp2_with fail
      go_ret
      exact ⟨rfl, HB.out⟩
end Go.Proofs.Ytgdipdmpmaemjaa
