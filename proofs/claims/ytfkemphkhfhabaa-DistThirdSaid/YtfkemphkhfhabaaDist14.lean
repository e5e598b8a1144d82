/- The chapter's examples stand: the statements' first look says so. -/
import Derived.Test.YtfkemphkhfhabaaDist13
namespace Go.Proofs.Ytfkemphkhfhabaa
open Go.RowKit

theorem lit2 (w : World) (a b : Int) (ha : -9223372036854775808 ≤ a ∧ a ≤ 9223372036854775807) (hb : -9223372036854775808 ≤ b ∧ b ≤ 9223372036854775807) :
    Ints (w.alloc (.cells #[.int .i64 a, .int .i64 b] 2)) (some ⟨w.heap.size, 0, none⟩) 2 2 [a, b] :=
  ⟨rfl, Nat.le_refl _, fun x hx => by simp at hx; rcases hx with rfl | rfl <;> assumption, Or.inr ⟨_, _, rfl, fun i hi => by
    match i, hi with
    | 0, _ => exact cell_of_row _ _ 0 _ _ (0, 0) (heap_alloc_new w _)
    | 1, _ => exact cell_of_row _ _ 1 _ _ (0, 0) (heap_alloc_new w _)⟩⟩
theorem ex_btw : dV (btw [0, 0] [3, -4] 2 2) = .agg #[.int .u64 0, .int .u64 7] ∧ btwE 2 2 = 0 := ⟨by kernel_rfl, by decide +kernel⟩
theorem ex_tbx : dV (tbx [0, 9] [1, 2] [3, 5] 2 2 2) = .agg #[.int .u64 0, .int .u64 5] ∧ tbxE 2 2 2 = 0 := ⟨by kernel_rfl, by decide +kernel⟩
theorem ex_apart : apart (-9223372036854775808) 9223372036854775807 = 18446744073709551615 := by decide +kernel
theorem ex_decs : decs 18446744073709551616 = [49, 56, 52, 52, 54, 55, 52, 52, 48, 55, 51, 55, 48, 57, 53, 53, 49, 54, 49, 54] := by simp [decs]
theorem ex_str : strOf [49, 56, 52, 52, 54, 55, 52, 52, 48, 55, 51, 55, 48, 57, 53, 53, 49, 54, 49, 54] = ⟨#[49, 56, 52, 52, 54, 55, 52, 52, 48, 55, 51, 55, 48, 57, 53, 53, 49, 54, 49, 54]⟩ := by decide +kernel
theorem text_ex (w : World) : Calls Try.prog 22 #[.agg #[.int .u64 1, .int .u64 0]] w fun e w' => e = .returned (.string ⟨#[49, 56, 52, 52, 54, 55, 52, 52, 48, 55, 51, 55, 48, 57, 53, 53, 49, 54, 49, 54]⟩) ∧ Below w.heap.size w w' := by
  have h := text_any 18446744073709551616 (by decide) w
  rw [ex_decs, ex_str] at h
  exact h
set_option maxRecDepth 100000 in
set_option maxHeartbeats 1000000 in
theorem alive_any (w : World) :
    Calls Try.prog 8 #[] w fun e w' => e = .returned (.bool true) ∧ Below w.heap.size w w' := by
  go_enter Try.func8, Try.ntmps8
  go_wp2_with fail
  have hb1 : Below w.heap.size w (w.alloc (.cells #[.int .i64 0, .int .i64 0] 2)) := (Below.refl _ _).alloc (Nat.le_refl _) _
  have s1 : (w.alloc (.cells #[.int .i64 0, .int .i64 0] 2)).heap.size = w.heap.size + 1 := by simp
  have i1 := lit2 w 0 0 (by omega) (by omega)
  generalize w.alloc (.cells #[.int .i64 0, .int .i64 0] 2) = w1 at *
  have hb2 : Below w1.heap.size w1 (w1.alloc (.cells #[.int .i64 3, .int .i64 (-4)] 2)) := (Below.refl _ _).alloc (Nat.le_refl _) _
  have i2 := lit2 w1 3 (-4) (by omega) (by omega)
  rw [s1] at i2
  generalize w1.alloc (.cells #[.int .i64 3, .int .i64 (-4)] 2) = w2 at *
  have B2 := Lib.hid (hb1.trans (hb2.mono (by omega)))
  refine (between_any _ _ 2 2 2 2 _ _ w2 (i1.later hb2) i2).mono ?_
  rintro e w3 ⟨rfl, hb3⟩
  rw [ex_btw.1, ex_btw.2]
  have B3 := Lib.hid (B2.out.trans (hb3.mono B2.out.size))
  clear hb1 hb2 s1 i1 i2 hb3 B2
  go_upto_region 2 with fail
  have t4 : Two (w3.alloc (.cells #[.int .u64 0, .int .u64 7] 25)) w3.heap.size (.int .u64 0) (.int .u64 7) := heap_alloc_new w3 _
  have hb4 : Below w3.heap.size w3 (w3.alloc (.cells #[.int .u64 0, .int .u64 7] 25)) := (Below.refl _ _).alloc (Nat.le_refl _) _
  generalize w3.alloc (.cells #[.int .u64 0, .int .u64 7] 25) = w4 at *
  have B4 := Lib.hid (B3.out.trans (hb4.mono B3.out.size))
  generalize w3.heap.size = g3 at *
  have T4 := Lib.hid t4
  clear t4 hb4 B3
  go_wp2_with fail
  have hb5 : Below w4.heap.size w4 (w4.alloc (.cells #[.int .i64 0, .int .i64 9] 2)) := (Below.refl _ _).alloc (Nat.le_refl _) _
  have s5 : (w4.alloc (.cells #[.int .i64 0, .int .i64 9] 2)).heap.size = w4.heap.size + 1 := by simp
  have i5 := lit2 w4 0 9 (by omega) (by omega)
  generalize w4.alloc (.cells #[.int .i64 0, .int .i64 9] 2) = w5 at *
  have hb6 : Below w5.heap.size w5 (w5.alloc (.cells #[.int .i64 1, .int .i64 2] 2)) := (Below.refl _ _).alloc (Nat.le_refl _) _
  have s6 : (w5.alloc (.cells #[.int .i64 1, .int .i64 2] 2)).heap.size = w4.heap.size + 1 + 1 := by simp; omega
  have i6 := lit2 w5 1 2 (by omega) (by omega)
  rw [s5] at i6
  generalize w5.alloc (.cells #[.int .i64 1, .int .i64 2] 2) = w6 at *
  have hb7 : Below w6.heap.size w6 (w6.alloc (.cells #[.int .i64 3, .int .i64 5] 2)) := (Below.refl _ _).alloc (Nat.le_refl _) _
  have i7 := lit2 w6 3 5 (by omega) (by omega)
  rw [s6] at i7
  generalize w6.alloc (.cells #[.int .i64 3, .int .i64 5] 2) = w7 at *
  have hb57 : Below w5.heap.size w5 w7 := hb6.trans (hb7.mono (by omega))
  have hb47 : Below w4.heap.size w4 w7 := hb5.trans (hb57.mono (by omega))
  have B7 := Lib.hid (B4.out.trans (hb47.mono B4.out.size))
  have T7 := Lib.hid (T4.out.later hb47 T4.out.lt)
  refine (tobox_any _ _ _ 2 2 2 2 2 2 _ _ _ w7 (i5.later hb57) (i6.later hb7) i7).mono ?_
  rintro e w8 ⟨rfl, hb8⟩
  rw [ex_tbx.1, ex_tbx.2]
  have B8 := Lib.hid (B7.out.trans (hb8.mono B7.out.size))
  have T8 := Lib.hid (T7.out.later hb8 T7.out.lt)
  clear hb5 hb6 hb7 s5 s6 i5 i6 i7 hb57 hb47 hb8 B7 T7 B4 T4
  go_upto_region 3 with fail
  have t9 : Two (w8.alloc (.cells #[.int .u64 0, .int .u64 5] 25)) w8.heap.size (.int .u64 0) (.int .u64 5) := heap_alloc_new w8 _
  have hb9 : Below w8.heap.size w8 (w8.alloc (.cells #[.int .u64 0, .int .u64 5] 25)) := (Below.refl _ _).alloc (Nat.le_refl _) _
  generalize w8.alloc (.cells #[.int .u64 0, .int .u64 5] 25) = w9 at *
  have B9 := Lib.hid (B8.out.trans (hb9.mono B8.out.size))
  have T9 := Lib.hid (T8.out.later hb9 T8.out.lt)
  generalize w8.heap.size = g8 at *
  obtain ⟨y0, y1, _, _⟩ := t9.facts
  obtain ⟨z0, z1, _, _⟩ := T9.out.facts
  clear t9 hb9 B8 T8
  have q1 : ∀ w', (binOp .eql 25 (.agg #[.int .u64 0, .int .u64 7]) (.agg #[.int .u64 0, .int .u64 7])).run Try.prog w' = .ok (.bool true) w' := fun w' => dist_eql 0 7 0 7 w'
  have q2 : ∀ w', (binOp .eql 25 (.agg #[.int .u64 0, .int .u64 5]) (.agg #[.int .u64 0, .int .u64 5])).run Try.prog w' = .ok (.bool true) w' := fun w' => dist_eql 0 5 0 5 w'
  go_wp2_with (first
    | (go_at_call 12; refine (apart_any _ _ (by omega) (by omega) _).mono ?_; rintro e w' ⟨rfl, rfl⟩; rw [ex_apart])
    | (go_at_call 22; refine (text_ex _).mono ?_; rintro e w' ⟨rfl, hb10⟩))
  go_ret
  exact ⟨rfl, B9.out.trans (hb10.mono B9.out.size)⟩
end Go.Proofs.Ytfkemphkhfhabaa
