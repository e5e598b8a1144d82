/- box.Has. -/
import Derived.Test.YthmloljnpjolmaaBoxPair
namespace Go.Proofs.Ythmloljnpjolmaa
open Go.RowKit

set_option maxRecDepth 100000 in
set_option maxHeartbeats 1000000 in
theorem hasside (B C : Nat) (p q s : Option Addr) (n c e f : Nat) (R S P : List Int) (k : Nat) (hk : k < n) (w : World) (hB : BoxAt w B p n c q n e) (hC : w.cell? ⟨C, 0, none⟩ = some (.slice s n f)) (h1 : Ints w p n c R) (h2 : Ints w q n e S) (h3 : Ints w s n f P) :
    Calls Try.prog 38 #[.int .i64 k, .pointer (some ⟨B, 0, none⟩), .pointer (some ⟨C, 0, none⟩)] w fun e w' => e = .returned (.bool (decide (R.getD k 0 ≤ P.getD k 0) && decide (P.getD k 0 ≤ S.getD k 0))) ∧ ∃ j, w' = w.drewN j := by
  obtain ⟨hB0, hB1⟩ := hB
  obtain ⟨g1, o1, rfl, hc1⟩ := h1.cell k hk
  obtain ⟨g2, o2, rfl, hc2⟩ := h2.cell k hk
  obtain ⟨g3, o3, rfl, hc3⟩ := h3.cell k hk
  clear h1 h2 h3
  generalize R.getD k 0 = xR at *
  generalize S.getD k 0 = xS at *
  generalize P.getD k 0 = xP at *
  have b1 : (0 : Int) ≤ k ∧ (k : Int) < n := by omega
  by_cases hg : xR ≤ xP
  · rw [decide_eq_true hg]
    go_enter Try.func38, Try.ntmps38
    go_wp2_with fail
    go_quiet (fail)
    go_wp2_with fail
    go_ret
    exact ⟨rfl, _, rfl⟩
  · rw [decide_eq_false hg]
    have hd : decide (xR ≤ xP) = false := decide_eq_false hg
    go_enter Try.func38, Try.ntmps38
    go_wp2_with fail
    go_quiet (fail)
    go_wp2_with fail
    go_ret
    exact ⟨rfl, _, rfl⟩
structure Three (w0 w : World) (a b : Nat) (p q r : Option Addr) (n c m e k f : Nat) (R S T : List Int) : Prop where
  ba : BoxAt w a p n c q m e
  bb : w.cell? ⟨b, 0, none⟩ = some (.slice r k f)
  la : a < w.heap.size
  lb : b < w.heap.size
  i1 : Ints w p n c R
  i2 : Ints w q m e S
  i3 : Ints w r k f T
  below : Below w0.heap.size w0 w
theorem Three.later {w0 w w' : World} {a b : Nat} {p q r : Option Addr} {n c m e k f : Nat} {R S T : List Int} (h : Three w0 w a b p q r n c m e k f R S T) (hb : Below w.heap.size w w') : Three w0 w' a b p q r n c m e k f R S T :=
  ⟨⟨(hb.cell (p := ⟨a, 0, none⟩) h.la).trans h.ba.1, (hb.cell (p := ⟨a, 1, none⟩) h.la).trans h.ba.2⟩, (hb.cell (p := ⟨b, 0, none⟩) h.lb).trans h.bb, Nat.lt_of_lt_of_le h.la hb.size, Nat.lt_of_lt_of_le h.lb hb.size,
    h.i1.later hb, h.i2.later hb, h.i3.later hb, h.below.trans (hb.mono h.below.size)⟩
theorem three_of {w w2 : World} {p q r : Option Addr} {n c m e k f : Nat} {R S T : List Int} (h1 : Ints w p n c R) (h2 : Ints w q m e S) (h3 : Ints w r k f T)
    (h : w2 = (w.alloc (.cells #[.slice p n c, .slice q m e] 25)).alloc (.cells #[.slice r k f] 23)) : Three w w2 w.heap.size (w.heap.size + 1) p q r n c m e k f R S T := by
  subst h
  obtain ⟨a0, a1⟩ := pair_alloc w (.slice p n c) (.slice q m e) 25
  have hs : (w.alloc (.cells #[.slice p n c, .slice q m e] 25)).heap.size = w.heap.size + 1 := by simp
  have hb1 : Below w.heap.size w (w.alloc (.cells #[.slice p n c, .slice q m e] 25)) := (Below.refl _ _).alloc (Nat.le_refl _) _
  generalize w.alloc (.cells #[.slice p n c, .slice q m e] 25) = w1 at *
  have b0 := boxed w1 (.slice r k f) 23
  have hb2 : Below w1.heap.size w1 (w1.alloc (.cells #[.slice r k f] 23)) := (Below.refl _ _).alloc (Nat.le_refl _) _
  rw [hs] at b0
  exact ⟨⟨(hb2.cell (p := ⟨w.heap.size, 0, none⟩) (by show w.heap.size < _; omega)).trans a0, (hb2.cell (p := ⟨w.heap.size, 1, none⟩) (by show w.heap.size < _; omega)).trans a1⟩, b0, by simp; omega, by simp; omega, (h1.later hb1).later hb2, (h2.later hb1).later hb2, (h3.later hb1).later hb2, hb1.trans (hb2.mono (by omega))⟩
set_option maxRecDepth 100000 in
set_option maxHeartbeats 1000000 in
theorem has_any (p q s : Option Addr) (n c m e l f : Nat) (R S P : List Int) (w : World) (h1 : Ints w p n c R) (h2 : Ints w q m e S) (h3 : Ints w s l f P) :
    Calls Try.prog 14 #[.agg #[.slice p n c, .slice q m e], .slice s l f] w fun e w' => e = .returned (.bool (hasB R S P n m l)) ∧ Below w.heap.size w w' := by
  go_enter Try.func14, Try.ntmps14
  go_upto_region 1 with fail
  obtain ⟨w2, hw2⟩ : ∃ w2, w2 = (w.alloc (.cells #[.slice p n c, .slice q m e] 25)).alloc (.cells #[.slice s l f] 23) := ⟨_, rfl⟩
  have HF := Lib.hid (three_of h1 h2 h3 hw2)
  rw [← hw2]
  clear hw2 h1 h2 h3
  have b := HF.out.ba
  obtain ⟨b0, b1⟩ := b
  have b2 := HF.out.bb
  go_wp2_with fail
  refine (right_any p q n c m e R S l w2 HF.out.i1 HF.out.i2).mono ?_
  rintro _ w3 ⟨rfl, hb3⟩
  have HG := Lib.hid (HF.out.later hb3)
  clear hb3 HF b0 b1 b2
  have b2 := HG.out.bb
  cases hr : rightB R S n m l with
  | false =>
    have HR := Lib.hid (hasB_not (P := P) hr)
    clear hr
    go_wp2_with fail
    go_ret
    exact ⟨congrArg (fun b => Ending.returned (.bool b)) HR.out.symm, HG.out.below⟩
  | true =>
    have HR := Lib.hid (hasB_right (P := P) hr)
    obtain ⟨hd1, hd2, hd3, hd4⟩ := rightB_dims hr
    obtain rfl : n = l := by omega
    obtain rfl : m = n := by omega
    have HE := Lib.hid (each_any m (by omega) (fun k => decide (R.getD k 0 ≤ P.getD k 0) && decide (P.getD k 0 ≤ S.getD k 0)) 38 #[.pointer (some ⟨w.heap.size, 0, none⟩), .pointer (some ⟨w.heap.size + 1, 0, none⟩)] (enter_side Try.func38 (by kernel_rfl) rfl) w3 (fun k w' hk hb => hasside w.heap.size (w.heap.size + 1) p q s m c e f R S P k hk w' (HG.out.later hb).ba (HG.out.later hb).bb (HG.out.later hb).i1 (HG.out.later hb).i2 (HG.out.later hb).i3))
    rw [alls_and, alls_les, alls_les] at HE
    clear hr hd1 hd2 hd3 hd4
    go_wp2_with fail
    refine HE.out.mono ?_
    rintro _ w4 ⟨rfl, j, hw4⟩
    have HB := Lib.hid (show Below w.heap.size w w4 by rw [hw4]; exact Below.drewN HG.out.below _)
    clear hw4
    go_wp2_with fail
    go_ret
    exact ⟨congrArg (fun b => Ending.returned (.bool b)) HR.out.symm, HB.out⟩
end Go.Proofs.Ythmloljnpjolmaa
