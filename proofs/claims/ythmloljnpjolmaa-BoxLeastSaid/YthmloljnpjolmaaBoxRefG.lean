/- indentureref04.Same. -/
import Derived.Test.YthmloljnpjolmaaBoxRefB
namespace Go.Proofs.Ythmloljnpjolmaa
open Go.RowKit

set_option maxRecDepth 100000 in
set_option maxHeartbeats 4000000 in
theorem refsame_any (p q r s : Option Addr) (n c m e k f l g : Nat) (R S T U : List Int) (w : World) (h1 : Ints w p n c R) (h2 : Ints w q m e S) (h3 : Ints w r k f T) (h4 : Ints w s l g U)
    (hn : n ≤ 9223372036854775807) (hm : m ≤ 9223372036854775807) :
    Calls Try.prog 28 #[.agg #[.slice p n c, .slice q m e], .agg #[.slice r k f, .slice s l g]] w fun e w' => e = .returned (.bool (decide (R = T ∧ S = U))) ∧ Below w.heap.size w w' := by
  have hb1 : Below w.heap.size w (w.alloc (.cells #[.slice p n c, .slice q m e] 25)) := (Below.refl _ _).alloc (Nat.le_refl _) _
  have hs1 : (w.alloc (.cells #[.slice p n c, .slice q m e] 25)).heap.size = w.heap.size + 1 := by simp
  obtain ⟨a0, a1⟩ := pair_alloc w (.slice p n c) (.slice q m e) 25
  go_enter Try.func28, Try.ntmps28
  go_upto_region 1 with fail
  generalize w.alloc (.cells #[.slice p n c, .slice q m e] 25) = w1 at *
  have hb2 : Below w1.heap.size w1 (w1.alloc (.cells #[.slice r k f, .slice s l g] 25)) := (Below.refl _ _).alloc (Nat.le_refl _) _
  obtain ⟨b0, b1⟩ := pair_alloc w1 (.slice r k f) (.slice s l g) 25
  rw [hs1] at b0 b1
  have c0 := (hb2.cell (p := ⟨w.heap.size, 0, none⟩) (by show w.heap.size < _; omega)).trans a0
  have c1 := (hb2.cell (p := ⟨w.heap.size, 1, none⟩) (by show w.heap.size < _; omega)).trans a1
  have H1 := Lib.hid ((h1.later hb1).later hb2)
  have H2 := Lib.hid ((h2.later hb1).later hb2)
  have H3 := Lib.hid ((h3.later hb1).later hb2)
  have H4 := Lib.hid ((h4.later hb1).later hb2)
  have HB := Lib.hid (hb1.trans (hb2.mono (by omega)))
  generalize w1.alloc (.cells #[.slice r k f, .slice s l g] 25) = w2 at *
  clear hb1 hs1 a0 a1 hb2 h1 h2 h3 h4
  clear w1
  by_cases hRT : R = T
  case neg =>
    have HN := Lib.hid (show ¬ (R = T ∧ S = U) from fun h => hRT h.1)
    have HR := Lib.hid hRT
    clear hRT
    go_wp2_with fail
    refine (samerow_any p r n c k f R T w2 H1.out H3.out hn).mono ?_
    rintro _ w3 ⟨rfl, j, rfl⟩
    rw [decide_eq_false HR.out]
    go_wp2_with fail
    go_ret
    exact ⟨ret_ndec HN.out, Below.drewN HB.out _⟩
  have HD := Lib.hid (show decide (S = U) = decide (R = T ∧ S = U) from decide_eq_decide.2 ⟨fun h => ⟨hRT, h⟩, fun h => h.2⟩)
  have HR := Lib.hid hRT
  clear hRT
  go_wp2_with fail
  refine (samerow_any p r n c k f R T w2 H1.out H3.out hn).mono ?_
  rintro _ w3 ⟨rfl, j, hw3⟩
  have HW := Lib.hid (show Below w2.heap.size w2 w3 by rw [hw3]; exact Below.drewN (Below.refl _ _) _)
  have d0 := (HW.out.cell (p := ⟨w.heap.size, 1, none⟩) (block_lt_of_cell c1)).trans c1
  have d1 := (HW.out.cell (p := ⟨w.heap.size + 1, 1, none⟩) (block_lt_of_cell b1)).trans b1
  have G2 := Lib.hid (H2.out.later HW.out)
  have G4 := Lib.hid (H4.out.later HW.out)
  have GB := Lib.hid (HB.out.trans (HW.out.mono HB.out.size))
  clear hw3 c0 c1 b0 b1
  rw [decide_eq_true HR.out]
  go_wp2_with fail
  refine (samerow_any q s m e l g S U w3 G2.out G4.out hm).mono ?_
  rintro _ w4 ⟨rfl, j2, hw4⟩
  have B4 := Lib.hid (show Below w.heap.size w w4 by rw [hw4]; exact Below.drewN GB.out _)
  clear hw4
  go_wp2_with fail
  go_ret
  exact ⟨congrArg (fun b => Ending.returned (.bool b)) HD.out, B4.out⟩
end Go.Proofs.Ythmloljnpjolmaa
