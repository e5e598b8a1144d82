/- The contract of sha.filling. -/
import Derived.Test.YtgdipdmpmaemjaaShaBig
namespace Go.Proofs.Ytgdipdmpmaemjaa
open Go.RowKit

theorem make_bytes (Z : Nat) (h : Z < 64) (w : World) : (Instr.makeSlice 22 (.int .u64 (1 + (Z : Nat))) (.int .u64 (1 + (Z : Nat) + 8))).run Try.prog w = .ok (.slice (some ⟨w.heap.size, 0, none⟩) (1 + Z) (1 + Z + 8)) (w.alloc (.cells (u8s (zeros (1 + Z + 8))) 5)) := by
  obtain ⟨i5, hi, hi0, hi1, hi2⟩ := info_parts I5
  have := run_make (P := Try.prog) w 22 5 i5 _ A22 hi hi0 .u64 .u64 (1 + (Z : Nat)) (1 + (Z : Nat) + 8) (by omega) (by omega) (by rw [hi2]; omega) (by omega)
  rw [this, hi1, made_zeros]
  have e1 : (1 + (Z : Int)).toNat = 1 + Z := by omega
  have e2 : (1 + (Z : Int) + 8).toNat = 1 + Z + 8 := by omega
  rw [e1, e2, Nat.mul_one]
theorem fill_ok (n : Nat) : Sm.allB (Sm.fill n) := by
  intro x hx
  simp only [Sm.fill, Sm.bigs, List.mem_cons, List.mem_append, List.mem_replicate, List.not_mem_nil, or_false] at hx
  rcases hx with rfl | ⟨_, rfl⟩ | rfl | rfl | rfl | rfl | rfl | rfl | rfl | rfl <;> first | omega | exact Sm.big_lt _ _
set_option maxRecDepth 100000 in
set_option maxHeartbeats 1000000 in
theorem filling_any (L : Nat) (hL : L < 1152921504606846976) (w : World) :
    Calls Try.prog 25 #[.int .u64 L] w fun e w' => ∃ len cap, e = .returned (.slice (some ⟨w.heap.size, 0, none⟩) len cap) ∧ Bytes w' (some ⟨w.heap.size, 0, none⟩) len cap (Sm.fill L) ∧ Below w.heap.size w w' := by
  obtain ⟨Z, hZ⟩ : ∃ Z, Z = (119 - L % 64) % 64 := ⟨_, rfl⟩
  have hZl : Z < 64 := by omega
  have hz1 : (119 - (L : Int) % 64) % 64 = (Z : Int) := by omega
  have hz2 : (119 - (L : Int)) % 64 = (Z : Int) := by omega
  have HZ := Lib.hid hZ
  clear hZ
  obtain ⟨i5, hi, hi0, hi1, hi2⟩ := info_parts I5
  have hmk := make_bytes Z hZl
  have HI := Lib.hid hi
  have HI0 := Lib.hid hi0
  have HI1 := Lib.hid hi1
  have HI2 := Lib.hid hi2
  clear hi hi0 hi1 hi2
  have hb0 : Below w.heap.size w (w.alloc (.cells (u8s (zeros (1 + Z + 8))) 5)) := (Below.refl _ _).alloc (Nat.le_refl _) _
  have hst : (w.alloc (.cells (u8s (zeros (1 + Z + 8))) 5)).cell? ⟨w.heap.size, 0, none⟩ = some (.int .u8 ((zeros (1 + Z + 8)).getD 0 0 : Nat)) := u8s_cell (heap_alloc_new _ _) 0 (by simp [zeros])
  have hfr : (w.alloc (.cells (u8s (zeros (1 + Z + 8))) 5)).frozen? ⟨w.heap.size, 0, none⟩ = false := frozen_of_row _ _ _ _ _ (heap_alloc_new _ _)
  go_enter Try.func25, Try.ntmps25
  go_wp2_with fail
  rw [show (8 * (L : Int)) = ((8 * L : Nat) : Int) from by omega]
  have e0 : (u8s (zeros (1 + Z + 8))).setIfInBounds 0 (.int .u8 128) = u8s (128 :: zeros (Z + 8)) := by
    have := u8s_set [] (zeros (Z + 8)) 0 128 0 rfl
    rw [show 1 + Z + 8 = (Z + 8) + 1 from by omega]
    exact this
  rw [e0]
  clear e0 hst hfr hb0 hmk hz1 hz2
  refine (bigEnd_any (8 * L) (by omega) _).mono ?_
  rintro _ w3 ⟨rfl, hb3⟩
  have hrow : w3.heap[w.heap.size]? = some (.cells (u8s (128 :: zeros (Z + 8))) 5 (0, 0)) := (hb3.block _ (by simp)).trans (heap_alloc_new _ _)
  have hbw : Below w.heap.size w w3 := ((Below.refl _ _).alloc (Nat.le_refl _) _).trans (hb3.mono (by simp))
  have hs3 : w.heap.size < w3.heap.size := (Array.getElem?_eq_some_iff.1 hrow).1
  have hown : (w3.alloc (.cells (u8s (Sm.bigs (8 * L))) 59)).ownsRow w.heap.size 5 1 (.slice (some ⟨w.heap.size, 0, none⟩) (1 + Z) (1 + Z + 8)) (1 + Z) (vals ((128 :: zeros (Z + 8)).take (1 + Z))) :=
    owns_mk ((Below.heap_alloc _ _ _ hs3).trans hrow) (by simp [zeros]; omega) (by omega) (by unfold maxLen; omega) (Nat.le_refl _)
  have HOWN := Lib.hid hown
  have HBW := Lib.hid hbw
  have HN := Lib.hid (heap_alloc_new w3 (.cells (u8s (Sm.bigs (8 * L))) 59))
  clear hown hbw hb3 hrow
  have hz := (zero_of_info Z59).1
  go_wp2_with (first | (refine wpList_store_row (by rfl) 59 _ _ (by rfl) w3.heap.size (u8s (Sm.bigs (8 * L))) (by rfl) (by rfl) _ _ (heap_alloc_new _ _) (by exact S59) (by simp [u8s, zeros]; rfl) (u8s_one _) ?_; rw [setRow_alloc]) | (at_builtin; refine wpList_append_fits _ (by rfl) (.tmp 21) (.tmp 22) 22 (by rfl) w.heap.size 5 i5 1 A22 HI.out HI1.out w.heap.size (1 + Z) (1 + Z + 8) _ (by rfl) HOWN.out ⟨w3.heap.size, 0, none⟩ 8 8 (vals (Sm.bigs (8 * L))) (by rfl) (by rfl) (cells_of_row HN.out) (vals_one _) (by omega) ?_; intro w5 hown5 hgrow5))
  have e : vals ((128 :: zeros (Z + 8)).take (1 + Z)) ++ vals (Sm.bigs (8 * L)) = vals (Sm.fill L) := by
    rw [Sm.fill, ← HZ.out]
    have : (128 :: zeros (Z + 8)).take (1 + Z) = 128 :: zeros Z := by
      rw [show 1 + Z = Z + 1 from by omega, List.take_succ_cons]
      simp [zeros]
    rw [this]
    simp [vals, zeros]
  rw [e] at hown5
  go_ret
  exact ⟨_, _, rfl, Bytes.of_owns hown5 (fill_ok L), (HBW.out.alloc HBW.out.size _).grown hgrow5 (by have := HBW.out.size; simp; omega) (fun k hk => by simp at hk; omega)⟩
end Go.Proofs.Ytgdipdmpmaemjaa
