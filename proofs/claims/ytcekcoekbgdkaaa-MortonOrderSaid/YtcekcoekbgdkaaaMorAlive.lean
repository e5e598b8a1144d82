/- The chapter's examples stand: indenturelaw05.alive. -/
import Derived.Test.YtcekcoekbgdkaaaMorCode
import Derived.Test.YtcekcoekbgdkaaaMorAhead
namespace Go.Proofs.Ytcekcoekbgdkaaa
open Go.RowKit

theorem lit1 (w : World) (a : Int) (ha : -9223372036854775808 ≤ a ∧ a ≤ 9223372036854775807) : Ints (w.alloc (.cells #[.int .i64 a] 2)) (some ⟨w.heap.size, 0, none⟩) 1 1 [a] :=
  ⟨rfl, Nat.le_refl _, fun x hx => by simp at hx; subst hx; exact ha, Or.inr ⟨_, _, rfl, fun i hi => by
    match i, hi with
    | 0, _ => exact cell_of_row _ _ 0 _ _ (0, 0) (heap_alloc_new w _)⟩⟩
theorem ex1 : Mm.code [0] = [128, 0, 0, 0, 0, 0, 0, 0] := by decide +kernel
theorem ex2 : Mm.code [-9223372036854775808, -9223372036854775807] = [0, 0, 0, 0, 0, 0, 0, 0, 0, 0, 0, 0, 0, 0, 0, 1] := by decide +kernel
theorem ex3 : Mm.code [-9223372036854775807, -9223372036854775808] = [0, 0, 0, 0, 0, 0, 0, 0, 0, 0, 0, 0, 0, 0, 0, 2] := by decide +kernel
theorem ex4 : decide (Cm.cmpL (Mm.code [0]) (Mm.code [1]) < 0) = true := by decide +kernel
theorem ex1_str : strOf [128, 0, 0, 0, 0, 0, 0, 0] = ⟨#[128, 0, 0, 0, 0, 0, 0, 0]⟩ := by decide +kernel
def exA : List Nat := [128, 0, 0, 0, 0, 0, 0, 0]
theorem exA_ok : Sm.allB exA := by unfold Sm.allB exA; decide
set_option maxRecDepth 100000 in
set_option maxHeartbeats 4000000 in
theorem alive_any (w : World) :
    Calls Try.prog 8 #[] w fun e w' => e = .returned (.bool true) ∧ Below w.heap.size w w' := by
  go_enter Try.func8, Try.ntmps8
  go_wp2_with fail
  have hb0 := (Below.refl w.heap.size w).alloc (Nat.le_refl _) (.cells #[.int .i64 0] 2)
  refine (code_any [0] _ 1 1 _ (lit1 w 0 (by omega)) (by omega) (by omega)).mono ?_
  rintro e w1 hp
  obtain ⟨g1, rfl, _, hr1, hb1⟩ := hp
  rw [ex1] at hr1
  have B1 := Lib.hid (hb0.trans (hb1.mono hb0.size))
  have R1 := Lib.hid hr1
  clear hb0 hb1 hr1
  go_wp2_with fail
  have hb0 := B1.out.alloc B1.out.size (.cells #[.int .i64 (-9223372036854775808), .int .i64 (-9223372036854775807)] 2)
  have c1 := (Below.refl w1.heap.size w1).alloc (Nat.le_refl _) (.cells #[.int .i64 (-9223372036854775808), .int .i64 (-9223372036854775807)] 2)
  refine (code_any [-9223372036854775808, -9223372036854775807] _ 2 2 _ (lit2 w1 (-9223372036854775808) (-9223372036854775807) (by omega) (by omega)) (by omega) (by omega)).mono ?_
  rintro e w2 hp
  obtain ⟨g2, rfl, _, hr2, hb2⟩ := hp
  rw [ex2] at hr2
  have B2 := Lib.hid (hb0.trans (hb2.mono hb0.size))
  have R2 := Lib.hid hr2
  have C1 := Lib.hid (c1.trans (hb2.mono c1.size))
  clear hb0 hb2 hr2 c1
  go_wp2_with fail
  have hb0 := B2.out.alloc B2.out.size (.cells #[.int .i64 (-9223372036854775807), .int .i64 (-9223372036854775808)] 2)
  have c1 := (Below.refl w2.heap.size w2).alloc (Nat.le_refl _) (.cells #[.int .i64 (-9223372036854775807), .int .i64 (-9223372036854775808)] 2)
  refine (code_any [-9223372036854775807, -9223372036854775808] _ 2 2 _ (lit2 w2 (-9223372036854775807) (-9223372036854775808) (by omega) (by omega)) (by omega) (by omega)).mono ?_
  rintro e w3 hp
  obtain ⟨g3, rfl, _, hr3, hb3⟩ := hp
  rw [ex3] at hr3
  have B3 := Lib.hid (hb0.trans (hb3.mono hb0.size))
  have R3 := Lib.hid hr3
  have C2 := Lib.hid (c1.trans (hb3.mono c1.size))
  clear hb0 hb3 hr3 c1
  have r1 : w3.heap[g1]? = some (.cells (u8s exA) 5 (0, 0)) := by
    have l1 := (Array.getElem?_eq_some_iff.1 R1.out).1
    exact (C2.out.block g1 (Nat.lt_of_lt_of_le l1 C1.out.size)).trans ((C1.out.block g1 l1).trans R1.out)
  have r2 : w3.heap[g2]? = _ := (C2.out.block g2 (Array.getElem?_eq_some_iff.1 R2.out).1).trans R2.out
  have e2 := u8s_cell r2 15 (by decide)
  have e3 := u8s_cell R3.out 15 (by decide)
  have hcv := convert_tx (Bytes.row r1 exA_ok).tx
  rw [show strOf exA = ⟨#[128, 0, 0, 0, 0, 0, 0, 0]⟩ from ex1_str] at hcv
  have E2 : w3.cell? ⟨g2, 15, none⟩ = some (.int .u8 1) := e2
  have E3 : w3.cell? ⟨g3, 15, none⟩ = some (.int .u8 2) := e3
  have HCV : (convert 25 9 (.slice (some ⟨g1, 0, none⟩) 8 8)).run Try.prog w3 = .ok (.string ⟨#[128, 0, 0, 0, 0, 0, 0, 0]⟩) w3 := hcv
  clear r1 r2 e2 e3 hcv R1 R2 R3 C1 C2 B1 B2
  go_wp2_with fail
  have q1 := (lit1 w3 0 (by omega)).later ((Below.refl _ _).alloc (Nat.le_refl _) (.cells #[.int .i64 1] 2))
  have q2 := lit1 (w3.alloc (.cells #[.int .i64 0] 2)) 1 (by omega)
  rw [show (w3.alloc (.cells #[.int .i64 0] 2)).heap.size = w3.heap.size + 1 from by simp] at q2
  have b1 := B3.out.alloc B3.out.size (.cells #[.int .i64 0] 2)
  have b2 := b1.alloc b1.size (.cells #[.int .i64 1] 2)
  refine (ahead_any [0] [1] _ _ 1 1 1 _ q1 q2 (by omega) (by omega)).mono ?_
  rintro e w4 hp
  obtain ⟨rfl, d, rfl⟩ := hp
  rw [ex4]
  have BB := Lib.hid (Below.drewN b2 d)
  clear b1 b2 q1 q2 HCV E2 E3
  go_wp2_with fail
  go_ret
  exact ⟨rfl, BB.out⟩
end Go.Proofs.Ytcekcoekbgdkaaa
