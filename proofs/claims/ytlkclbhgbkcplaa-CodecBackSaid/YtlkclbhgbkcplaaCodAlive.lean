/- The chapter's examples stand: the statements' first look says so. -/
import Derived.Test.YtlkclbhgbkcplaaCodR2
import Derived.Lib.SlBytesConst
namespace Go.Proofs.Ytlkclbhgbkcplaa
open Go.RowKit

theorem w_built : Try.prog.built 28 [] = some #[.slice none 0 0, .int .i64 0] := by kernel_rfl
/-- A writer that is new. -/
theorem ws_new (w : World) (base : Nat) : WS (w.alloc (.cells #[.slice none 0 0, .int .i64 0] 28)) base w.heap.size (.slice none 0 0) ⟨[], 0⟩ :=
  ⟨heap_alloc_new w _, World.ownsRow_nil _ _ _ _, fun x hx => by simp at hx, fun h => absurd rfl h⟩
def exB : List Nat := [0, 1, 2, 127, 255, 255, 255, 255, 255, 255, 255, 0, 0, 2, 97, 98]
theorem ex_st : (((St.mk [] 0).count 258).put (Cm.num (-1))).text [97, 98] = ⟨exB, 0⟩ := by kernel_rfl
theorem ex_str : strOf exB = ⟨#[0, 1, 2, 127, 255, 255, 255, 255, 255, 255, 255, 0, 0, 2, 97, 98]⟩ := by decide +kernel
theorem ex_ok : Sm.allB exB := by unfold Sm.allB exB; decide
theorem ex_r1 : (Rd.mk [0, 1, 2] 0).count 300 = ⟨[], 0⟩ ∧ (Rd.mk [0, 1, 2] 0).countV 300 = 258 := ⟨by kernel_rfl, by kernel_rfl⟩
theorem ex_r2 : (Rd.mk [0, 1, 2] 0).count 257 = ⟨[], 10⟩ ∧ (Rd.mk [0, 1, 2] 0).countV 257 = 0 := ⟨by kernel_rfl, by kernel_rfl⟩
theorem RSx.other {w w' : World} {g1 g2 : Nat} {s1 s2 : Rd} (h2 : RSx w g2 s2) (h1 : RSx w g1 s1) (hg : w.grownBy w' (some g1)) (hne : g1 ≠ g2) : RSx w' g2 s2 := by
  obtain ⟨p1, n1, c1, h1⟩ := h1
  obtain ⟨p2, n2, c2, h2⟩ := h2
  exact ⟨p2, n2, c2, (hg.block _ h2.lt (by simp; omega)).trans h2.row, h2.tx.grown hg (tx_other h1.row h2.tx), h2.lo⟩
theorem RSx.lt {w : World} {g : Nat} {s : Rd} (h : RSx w g s) : g < w.heap.size := by
  obtain ⟨p, n, c, h⟩ := h
  exact h.lt
set_option maxRecDepth 100000 in
set_option maxHeartbeats 2000000 in
theorem alive_any (w : World) :
    Calls Try.prog 7 #[] w fun e w' => e = .returned (.bool true) ∧ Below w.heap.size w w' := by
  have kc := fun (w : World) (C : Array Value) (n c : Nat) => Lib.run_convert_bytes_const (P := Try.prog) w 25 5 C n c A22 U5
  go_enter Try.func7, Try.ntmps7
  go_wp2_with (refine wpList_build (by rfl) 28 _ (by rfl) (by as_aux_lemma => kernel_rfl) ?_)
  rw [w_built, Option.getD_some]
  have B1 := Lib.hid (show Below w.heap.size w (w.alloc (.cells #[.slice none 0 0, .int .i64 0] 28)) from (Below.refl _ _).alloc (Nat.le_refl _) _)
  have S1 := Lib.hid (ws_new w w.heap.size)
  generalize w.alloc (.cells #[.slice none 0 0, .int .i64 0] 28) = w1 at *
  refine (count_any ⟨[], 0⟩ 258 (by omega) (by omega) w.heap.size w.heap.size _ _ S1.out (by simp) B1.out.size).mono ?_
  rintro e w2 hp
  obtain ⟨rfl, v2, h2, k2⟩ := hp
  have S2 := Lib.hid h2
  have K2 := Lib.hid k2
  clear h2 k2
  go_wp2_with fail
  refine (num_any _ (-1) (by omega) (by omega) w.heap.size w.heap.size v2 _ S2.out (by decide) (Nat.le_trans B1.out.size K2.out.size)).mono ?_
  rintro e w3 hp
  obtain ⟨rfl, v3, h3, k3⟩ := hp
  have S3 := Lib.hid h3
  have K3 := Lib.hid (K2.out.trans k3)
  clear h3 k3
  go_wp2_with fail
  have hB3 : Below w.heap.size w w3 := B1.out.trans (K3.out.below (Nat.le_refl _) (fun k hk => by simp [Value.ownBlock] at hk) B1.out.size)
  have B3 := Lib.hid hB3
  have hT : Tx (w3.alloc (.cells #[.int .u8 97, .int .u8 98] 5 (2, 3))) (some ⟨w3.heap.size, 0, none⟩) 2 2 [97, 98] := (Bytes.row (L := [97, 98]) (heap_alloc_new w3 _) (by intro x hx; simp at hx; omega)).tx
  have hS4 := S3.out.later ((Below.refl w3.heap.size w3).alloc (Nat.le_refl _) (.cells #[.int .u8 97, .int .u8 98] 5 (2, 3)))
  have B4 := Lib.hid (hB3.alloc hB3.size (.cells #[.int .u8 97, .int .u8 98] 5 (2, 3)))
  have hsz3 : w.heap.size < w3.heap.size := S3.out.lt
  refine (text_any _ [97, 98] _ 2 2 w.heap.size w.heap.size v3 _ hS4 hT (by decide) (by have := B4.out.size; exact this) (fun x hx _ => by
    cases hx
    refine ⟨by show w3.heap.size ≠ w.heap.size; omega, fun hk => ?_⟩
    have := (S3.out.own.lt _ hk).2
    exact absurd this (Nat.lt_irrefl _))).mono ?_
  rintro e w5 hp
  obtain ⟨rfl, v5, h5, k5⟩ := hp
  rw [ex_st] at h5
  have S5 := Lib.hid h5
  have hB5 : Below w.heap.size w w5 := B4.out.trans (k5.below (Nat.le_refl _) (fun k hk => (hS4.own.lt k hk).1) B4.out.size)
  have B5 := Lib.hid hB5
  clear h5 k5 hB5 hS4 hT hB3 hsz3 B4 B3 K3 K2 S3 S2 S1
  go_wp2_with fail
  have hT6 : Tx (w5.alloc (.cells #[.int .u8 0, .int .u8 1, .int .u8 2] 5)) (some ⟨w5.heap.size, 0, none⟩) 3 3 [0, 1, 2] := (Bytes.row (L := [0, 1, 2]) (heap_alloc_new w5 _) (by intro x hx; simp at hx; omega)).tx
  refine (rnew_any [0, 1, 2] _ 3 3 _ hT6 (by omega)).mono ?_
  rintro e w7 hp
  obtain ⟨g1, rfl, hg1, hr1, hb7⟩ := hp
  have R1 := Lib.hid hr1
  have hB7 : Below w5.heap.size w5 w7 := ((Below.refl _ _).alloc (Nat.le_refl _) _).trans (hb7.mono (by simp))
  have B7 := Lib.hid hB7
  have G1 := Lib.hid (show w5.heap.size ≤ g1 from by simp at hg1; omega)
  clear hT6 hr1 hb7 hB7 hg1
  go_wp2_with fail
  have hT8 : Tx (w7.alloc (.cells #[.int .u8 0, .int .u8 1, .int .u8 2] 5)) (some ⟨w7.heap.size, 0, none⟩) 3 3 [0, 1, 2] := (Bytes.row (L := [0, 1, 2]) (heap_alloc_new w7 _) (by intro x hx; simp at hx; omega)).tx
  refine (rnew_any [0, 1, 2] _ 3 3 _ hT8 (by omega)).mono ?_
  rintro e w9 hp
  obtain ⟨g2, rfl, hg2, hr2, hb9⟩ := hp
  have hg12 : g1 < g2 := by have := R1.out.lt; simp at hg2; omega
  have hb79 : Below w7.heap.size w7 w9 := ((Below.refl _ _).alloc (Nat.le_refl _) _).trans (hb9.mono (by simp))
  have R1' := Lib.hid (R1.out.later hb79)
  have R2 := Lib.hid hr2
  have G12 := Lib.hid hg12
  have hB9 : Below w5.heap.size w5 w9 := B7.out.trans (hb79.mono B7.out.size)
  have B9 := Lib.hid hB9
  clear hT8 hr2 hb9 hb79 hB9 hg2 hg12
  go_wp2_with fail
  refine (rcount_any _ 300 g1 _ R1'.out (by decide)).mono ?_
  rintro e w10 hp
  rw [ex_r1.1, ex_r1.2] at hp
  obtain ⟨rfl, hr3, hg3⟩ := hp
  have R2b := Lib.hid (R2.out.other R1'.out hg3 (by have := G12.out; omega))
  have R1b := Lib.hid hr3
  have B10 := Lib.hid (B9.out.grown hg3 B9.out.size (fun k hk => by have := G1.out; simp at hk; omega))
  clear hr3 hg3
  go_wp2_with fail
  refine (rcount_any _ 257 g2 _ R2b.out (by decide)).mono ?_
  rintro e w11 hp
  rw [ex_r2.1, ex_r2.2] at hp
  obtain ⟨rfl, hr4, hg4⟩ := hp
  have R1c := Lib.hid (R1b.out.other R2b.out hg4 (by have := G12.out; omega))
  have R2c := Lib.hid hr4
  have B11 := Lib.hid (B10.out.grown hg4 B10.out.size (fun k hk => by have := G1.out; have := G12.out; simp at hk; omega))
  clear hr4 hg4
  go_wp2_with fail
  refine (werr_any _ w.heap.size w.heap.size v5 _ (S5.out.later B11.out)).mono ?_
  rintro e w12 ⟨rfl, rfl⟩
  go_wp2_with fail
  refine (wbytes_any _ w.heap.size w.heap.size v5 _ (S5.out.later B11.out) (by decide)).mono ?_
  rintro e w12 hp
  obtain ⟨q, c, rfl, ho, hb⟩ := hp
  have hcv := convert_tx (tx_of_owns ho ex_ok)
  rw [ex_str] at hcv
  have R1d := Lib.hid (R1c.out.later hb)
  have R2d := Lib.hid (R2c.out.later hb)
  have B12 := Lib.hid (B11.out.trans (hb.mono B11.out.size))
  clear ho hb
  go_wp2_with fail
  refine (rend_any _ g1 _ R1d.out).mono ?_
  rintro e w13 hp
  obtain ⟨rfl, hr5, hg5⟩ := hp
  have R2e := Lib.hid (R2d.out.other R1d.out hg5 (by have := G12.out; omega))
  have B13 := Lib.hid (B12.out.grown hg5 B12.out.size (fun k hk => by have := G1.out; simp at hk; omega))
  clear hr5 hg5 hcv
  rw [show (Rd.mk [] 0).end.e = 0 from rfl]
  go_wp2_with fail
  refine (rerr_any _ g2 _ R2e.out).mono ?_
  rintro e w14 ⟨rfl, rfl⟩
  go_wp2_with fail
  go_ret
  exact ⟨rfl, B5.out.trans (B13.out.mono B5.out.size)⟩
end Go.Proofs.Ytlkclbhgbkcplaa
