/- The reader's contract for a digest that is there. -/
import Derived.Test.YtlkclbhgbkcplaaCodBackR
namespace Go.Proofs.Ytlkclbhgbkcplaa
open Go.RowKit

def DPost (w : World) (g : Nat) (D : List Nat) (s : Rd) (e : Ending) (w' : World) : Prop := e = .returned (.agg (u8s D)) ∧ RSx w' g s ∧ w.grownBy w' (some g)
theorem tx_some {w : World} {q : Option Addr} {n c : Nat} {B : List Nat} (h : Tx w q n c B) (hB : B ≠ []) : ∃ x, q = some x := by
  rcases h.at' with ⟨_, hc⟩ | ⟨x, hp, _⟩
  · have := h.size
    have := h.le
    exact absurd (List.length_eq_zero_iff.1 (by omega)) hB
  · exact ⟨x, hp⟩
/-- A whole digest, copied into a block. -/
theorem copy_digest {W : World} {g : Nat} {Z D : List Nat} {x : Addr} {c : Nat} (hg : W.heap[g]? = some (.cells (u8s Z) 30 (0, 0))) (hZ : Z.length = 32) (hD : D.length = 32) (h : Tx W (some x) 32 c D) :
    (Builtin.copy_ #[25, 25] 3 #[.slice (some ⟨g, 0, none⟩) 32 32, .slice (some x) 32 c]).run Try.prog W = .ok (goInt 32) (W.setCells g 0 (vals D)) := by
  have := run_copy_cells (P := Try.prog) W 25 25 3 5 g 0 32 32 x 32 c (vals D) A22 E5 (by rw [vals_length, hD]; rfl) h.cells
    (fun j hj => by rw [vals_length, hD] at hj; rw [Nat.zero_add, u8s_cell hg j (by omega)]; rfl) (fun j _ => frozen_of_row W g _ _ _ hg) (vals_one D)
  rw [vals_length, hD] at this
  exact this
theorem set_digest {W : World} {g : Nat} {Z D : List Nat} (hg : W.heap[g]? = some (.cells (u8s Z) 30 (0, 0))) (hZ : Z.length = 32) (hD : D.length = 32) : (W.setCells g 0 (vals D)).heap[g]? = some (.cells (u8s D) 30 (0, 0)) := by
  have := heap_setCells_same g 30 (vals D) [] (vals Z) [] W (by simpa [vals_toArray] using hg) (by rw [vals_length, vals_length, hZ, hD])
  simpa [vals_toArray] using this
set_option maxRecDepth 100000 in
set_option maxHeartbeats 1000000 in
theorem digest_good (D : List Nat) (hD : D.length = 32) (hDo : Sm.allB D) (R : List Nat) (g : Nat) (w : World) (hs : RSx w g ⟨D ++ R, 0⟩) (hl : R.length + 1000 < 1099511627776) :
    Calls Try.prog 27 #[.pointer (some ⟨g, 0, none⟩)] w (DPost w g D ⟨R, 0⟩) := by
  have hz := (zero_of_info Z25).1
  have hsl := fun w' => arr_slice (w.heap.size + 1) w'
  have hg : g < w.heap.size := hs.lt
  have HS := Lib.hid hs
  have HD := Lib.hid hD
  have HDO := Lib.hid hDo
  clear hs hD hDo
  go_enter Try.func27, Try.ntmps27
  go_upto_region 2 with fail
  have hb1 : Below w.heap.size w (w.alloc (.cells (u8s (zeros 32)) 30)) := (Below.refl _ _).alloc (Nat.le_refl _) _
  have r1 := heap_alloc_new w (.cells (u8s (zeros 32)) 30)
  have z1 : (w.alloc (.cells (u8s (zeros 32)) 30)).heap.size = w.heap.size + 1 := by simp
  generalize w.alloc (.cells (u8s (zeros 32)) 30) = w1 at *
  have hb2 : Below w1.heap.size w1 (w1.alloc (.cells (u8s (zeros 32)) 30)) := (Below.refl _ _).alloc (Nat.le_refl _) _
  have r2 := heap_alloc_new w1 (.cells (u8s (zeros 32)) 30)
  rw [z1] at r2
  generalize w1.alloc (.cells (u8s (zeros 32)) 30) = w2 at *
  have hb12 : Below w.heap.size w w2 := hb1.trans (hb2.mono (by omega))
  have R1 := Lib.hid ((hb2.block w.heap.size (by omega)).trans r1)
  have R2 := Lib.hid r2
  have B2 := Lib.hid hb12
  have hk := take_any ⟨D ++ R, 0⟩ 32 g w2.drew (HS.out.later (Below.drew hb12)) (by omega) (by rw [show (Rd.mk (D ++ R) 0).R = D ++ R from rfl, List.length_append]; have := HD.out; omega)
  unfold TakePost at hk
  rw [(good_part D R 32 HD.out).1, (good_part D R 32 HD.out).2, HD.out] at hk
  have HK := Lib.hid hk
  clear hb1 hb2 r1 r2 z1 hb12 hk hz
  go_region_law (go_simp; go_at_call 41; refine HK.out.mono ?_; rintro e w3 hp; obtain ⟨q, c, rfl, h5, h6, h7⟩ := hp; obtain ⟨x, rfl⟩ := tx_some h5 (by intro e; have := HD.out; rw [e] at this; simp at this); have hrow3 := (h7.block (w.heap.size + 1) (Array.getElem?_eq_some_iff.1 R2.out).1 (by simp; omega)).trans R2.out; have hcp := copy_digest hrow3 (by simp [zeros]) HD.out h5; have H6 := Lib.hid h6; have H7 := Lib.hid h7; have HROW3 := Lib.hid hrow3; clear h5 h6 h7 hrow3)
  all_goals
    have r4 := set_digest HROW3.out (by simp [zeros]) HD.out
    have hb4 := below_setCells (w := w3) (w.heap.size + 1) 0 (vals D) (w.heap.size + 1) (Nat.le_refl _)
    have H64 := Lib.hid (H6.out.low (hb4.mono (by omega)))
    have G4 := Lib.hid (grown_new (grown_twice (grown_of_below B2.out (some g)) (show w2.grownBy w3 (some g) from ⟨H7.out.os, H7.out.tape, H7.out.output, H7.out.size, H7.out.block⟩)) (show w.heap.size ≤ w.heap.size + 1 by omega) hb4 (by rw [(size_setCells _ _ _ _).1]; exact Nat.le_refl _))
    have R14 := Lib.hid (((hb4.block w.heap.size (by omega)).trans (H7.out.block w.heap.size (Array.getElem?_eq_some_iff.1 R1.out).1 (by simp; omega))).trans R1.out)
    generalize w3.setCells (w.heap.size + 1) 0 (vals D) = w4 at *
    have R4 := Lib.hid r4
    clear r4 hb4 H6 H7 HROW3 hcp R1 R2 HK
    go_wp2_with (first
      | (refine wpList_load_row (by rfl) 30 _ (by rfl) (w.heap.size + 1) (by rfl) 30 _ (0, 0) _ R4.out A25 (by rfl) (by rw [u8s_size, HD.out]; exact S25) ?_)
      | (refine wpList_store_row (by rfl) 30 _ _ (by rfl) w.heap.size (u8s D) (by rfl) (by rfl) _ _ R14.out (by rw [u8s_size, HD.out]; exact S25) (by rw [u8s_size, u8s_size, HD.out]; simp [zeros]) (u8s_one _) ?_))
    refine ret_row 2 (by kernel_rfl) w.heap.size _ _ A25 S25 rfl (setRow_heap _ _ _ _ _ _ R14.out) (by rw [u8s_size, HD.out]) ⟨rfl, ?_, ?_⟩
    · exact H64.out.low (Below.setRow (Below.refl _ _) (by omega) _)
    · exact grown_new G4.out (Nat.le_refl _) (Below.setRow (Below.refl _ _) (Nat.le_refl _) _) (by simp)
end Go.Proofs.Ytlkclbhgbkcplaa
