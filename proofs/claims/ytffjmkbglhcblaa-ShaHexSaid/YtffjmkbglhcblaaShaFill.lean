/- The contract of sha.filling. -/
import Derived.Test.YtffjmkbglhcblaaShaBig
namespace Go.Proofs.Ytffjmkbglhcblaa
open Go.RowKit

theorem A22 : Try.prog.underlying 22 = some (.slice 5) := by kernel_rfl
theorem I5 : (Try.prog.info? 5).map (fun i => (i.zero, i.size, i.bytes)) = some (some (.int .u8 0), 1, 1) := by kernel_rfl
def vals (l : List Nat) : List Value := l.map fun x => Value.int .u8 (x : Nat)
theorem vals_length (l : List Nat) : (vals l).length = l.length := by simp [vals]
theorem vals_get (l : List Nat) (i : Nat) (h : i < l.length) : (vals l)[i]? = some (.int .u8 (l.getD i 0 : Nat)) := by
  simp [vals, List.getD_eq_getElem?_getD, List.getElem?_eq_getElem h]
/-- What a call owns reads as its bytes. -/
theorem Bytes.of_owns {w : World} {base g n cap : Nat} {B : List Nat} (h : w.ownsRow base 5 1 (.slice (some ⟨g, 0, none⟩) n cap) n (vals B)) (hB : Sm.allB B) : Bytes w (some ⟨g, 0, none⟩) n cap B := by
  obtain ⟨hl, h2⟩ := h
  have hn : n = B.length := by simpa [vals_length] using hl.symm
  rcases h2 with ⟨h3, _⟩ | ⟨g', cap', cur, hv, hb, hg, hle, hm, hs, ht⟩
  · simp at h3
  · obtain ⟨rfl, rfl⟩ : g = g' ∧ cap = cap' := by simpa using hv
    refine ⟨hn, hle, hB, Or.inr ⟨g, 0, rfl, fun i hi => ?_⟩⟩
    rw [Nat.zero_add, cell_of_row w g i cur _ _ hg]
    have e : (cur.toList.take (n * 1))[i]? = (vals B)[i]? := by rw [ht]
    rw [vals_get B i hi, List.getElem?_take_of_lt (by omega)] at e
    simpa using e
theorem made_zeros (n : Nat) : madeCells (Value.cells (.int .u8 0)) n = u8s (zeros n) := by
  apply Array.ext
  · simp [size_madeCells, u8s, zeros]
  · intro i h1 h2
    simp [madeCells, u8s, zeros, Value.cells, Nat.mod_one]
theorem make_bytes (Z : Nat) (h : Z < 64) (w : World) : (Instr.makeSlice 22 (.int .u64 (1 + (Z : Nat))) (.int .u64 (1 + (Z : Nat) + 8))).run Try.prog w = .ok (.slice (some ⟨w.heap.size, 0, none⟩) (1 + Z) (1 + Z + 8)) (w.alloc (.cells (u8s (zeros (1 + Z + 8))) 5)) := by
  obtain ⟨i5, hi, hi0, hi1, hi2⟩ := info_parts I5
  have := run_make (P := Try.prog) w 22 5 i5 _ A22 hi hi0 .u64 .u64 (1 + (Z : Nat)) (1 + (Z : Nat) + 8) (by omega) (by omega) (by rw [hi2]; omega) (by omega)
  rw [this, hi1, made_zeros]
  have e1 : (1 + (Z : Int)).toNat = 1 + Z := by omega
  have e2 : (1 + (Z : Int) + 8).toNat = 1 + Z + 8 := by omega
  rw [e1, e2, Nat.mul_one]
theorem u8s_toList (l : List Nat) : (u8s l).toList = vals l := by simp [u8s, vals]
theorem vals_one (l : List Nat) : ∀ u ∈ vals l, u.oneCell' = true := by
  intro u hu
  simp only [vals, List.mem_map] at hu
  obtain ⟨x, _, rfl⟩ := hu
  rfl
theorem owns_mk {w : World} {base g n cap : Nat} {L : List Nat} (hg : w.heap[g]? = some (.cells (u8s L) 5 (0, 0))) (hL : L.length = cap) (hn : n ≤ cap) (hm : cap ≤ maxLen) (hb : base ≤ g) :
    w.ownsRow base 5 1 (.slice (some ⟨g, 0, none⟩) n cap) n (vals (L.take n)) := by
  refine ⟨by simp [vals]; omega, Or.inr ⟨g, cap, u8s L, rfl, hb, hg, hn, hm, by rw [u8s_size]; omega, ?_⟩⟩
  rw [u8s_toList, Nat.mul_one]
  simp [vals]
theorem cells_of_row {w : World} {g : Nat} {L : List Nat} {t : TypeId} (hg : w.heap[g]? = some (.cells (u8s L) t (0, 0))) : ∀ j u, (vals L)[j]? = some u → w.cell? ((⟨g, 0, none⟩ : Addr).add j) = some u := fun j u hu => by
  rw [Addr.add_mid, Nat.zero_add, cell_of_row w g j _ _ _ hg, ← Array.getElem?_toList, u8s_toList]
  exact hu
theorem fill_ok (n : Nat) : Sm.allB (Sm.fill n) := by
  intro x hx
  simp only [Sm.fill, Sm.bigs, List.mem_cons, List.mem_append, List.mem_replicate, List.not_mem_nil, or_false] at hx
  rcases hx with rfl | ⟨_, rfl⟩ | rfl | rfl | rfl | rfl | rfl | rfl | rfl | rfl <;> first | omega | exact Sm.big_lt _ _
set_option maxRecDepth 100000 in
set_option maxHeartbeats 1000000 in
theorem filling_any (L : Nat) (hL : L < 1152921504606846976) (w : World) :
    Calls Try.prog 25 #[.int .u64 L] w fun e w' => ∃ len cap, e = .returned (.slice (some ⟨w.heap.size, 0, none⟩) len cap) ∧ Bytes w' (some ⟨w.heap.size, 0, none⟩) len cap (Sm.fill L) ∧ Below w.heap.size w w' := by
  obtain ⟨Z, hZ⟩ : ∃ Z, Z = (119 - L % 64) % 64 := ⟨_, rfl⟩
  have hZl : Z < 64 := by omega
  have hz1 : (119 - (L : Int) % 64) % 64 = (Z : Int) := by omega
  have hz2 : (119 - (L : Int)) % 64 = (Z : Int) := by omega
  have HZ := Lib.hid hZ
  clear hZ
  obtain ⟨i5, hi, hi0, hi1, hi2⟩ := info_parts I5
  have hmk := make_bytes Z hZl
  have HI := Lib.hid hi
  have HI0 := Lib.hid hi0
  have HI1 := Lib.hid hi1
  have HI2 := Lib.hid hi2
  clear hi hi0 hi1 hi2
  have hb0 : Below w.heap.size w (w.alloc (.cells (u8s (zeros (1 + Z + 8))) 5)) := (Below.refl _ _).alloc (Nat.le_refl _) _
  have hst : (w.alloc (.cells (u8s (zeros (1 + Z + 8))) 5)).cell? ⟨w.heap.size, 0, none⟩ = some (.int .u8 ((zeros (1 + Z + 8)).getD 0 0 : Nat)) := u8s_cell (heap_alloc_new _ _) 0 (by simp [zeros])
  have hfr : (w.alloc (.cells (u8s (zeros (1 + Z + 8))) 5)).frozen? ⟨w.heap.size, 0, none⟩ = false := frozen_of_row _ _ _ _ _ (heap_alloc_new _ _)
  go_enter Try.func25, Try.ntmps25
  go_wp2_with fail
  rw [show (8 * (L : Int)) = ((8 * L : Nat) : Int) from by omega]
  have e0 : (u8s (zeros (1 + Z + 8))).setIfInBounds 0 (.int .u8 128) = u8s (128 :: zeros (Z + 8)) := by
    have := u8s_set [] (zeros (Z + 8)) 0 128 0 rfl
    rw [show 1 + Z + 8 = (Z + 8) + 1 from by omega]
    exact this
  rw [e0]
  clear e0 hst hfr hb0 hmk hz1 hz2
  refine (bigEnd_any (8 * L) (by omega) _).mono ?_
  rintro _ w3 ⟨rfl, hb3⟩
  have hrow : w3.heap[w.heap.size]? = some (.cells (u8s (128 :: zeros (Z + 8))) 5 (0, 0)) := (hb3.block _ (by simp)).trans (heap_alloc_new _ _)
  have hbw : Below w.heap.size w w3 := ((Below.refl _ _).alloc (Nat.le_refl _) _).trans (hb3.mono (by simp))
  have hs3 : w.heap.size < w3.heap.size := (Array.getElem?_eq_some_iff.1 hrow).1
  have hown : (w3.alloc (.cells (u8s (Sm.bigs (8 * L))) 59)).ownsRow w.heap.size 5 1 (.slice (some ⟨w.heap.size, 0, none⟩) (1 + Z) (1 + Z + 8)) (1 + Z) (vals ((128 :: zeros (Z + 8)).take (1 + Z))) :=
    owns_mk ((Below.heap_alloc _ _ _ hs3).trans hrow) (by simp [zeros]; omega) (by omega) (by unfold maxLen; omega) (Nat.le_refl _)
  have HOWN := Lib.hid hown
  have HBW := Lib.hid hbw
  have HN := Lib.hid (heap_alloc_new w3 (.cells (u8s (Sm.bigs (8 * L))) 59))
  clear hown hbw hb3 hrow
  have hz := (zero_of_info Z59).1
  go_wp2_with (first | (refine wpList_store_row (by rfl) 59 _ _ (by rfl) w3.heap.size (u8s (Sm.bigs (8 * L))) (by rfl) (by rfl) _ _ (heap_alloc_new _ _) (by exact S59) (by simp [u8s, zeros]; rfl) (u8s_one _) ?_; rw [setRow_alloc]) | (at_builtin; refine wpList_append_fits _ (by rfl) (.tmp 21) (.tmp 22) 22 (by rfl) w.heap.size 5 i5 1 A22 HI.out HI1.out w.heap.size (1 + Z) (1 + Z + 8) _ (by rfl) HOWN.out ⟨w3.heap.size, 0, none⟩ 8 8 (vals (Sm.bigs (8 * L))) (by rfl) (by rfl) (cells_of_row HN.out) (vals_one _) (by omega) ?_; intro w5 hown5 hgrow5))
  have e : vals ((128 :: zeros (Z + 8)).take (1 + Z)) ++ vals (Sm.bigs (8 * L)) = vals (Sm.fill L) := by
    rw [Sm.fill, ← HZ.out]
    have : (128 :: zeros (Z + 8)).take (1 + Z) = 128 :: zeros Z := by
      rw [show 1 + Z = Z + 1 from by omega, List.take_succ_cons]
      simp [zeros]
    rw [this]
    simp [vals, zeros]
  rw [e] at hown5
  go_ret
  exact ⟨_, _, rfl, Bytes.of_owns hown5 (fill_ok L), (HBW.out.alloc HBW.out.size _).grown hgrow5 (by have := HBW.out.size; simp; omega) (fun k hk => by simp at hk; omega)⟩
end Go.Proofs.Ytffjmkbglhcblaa
