/- box.Whole, box.Of. -/
import Derived.Test.YthmloljnpjolmaaBoxMake
namespace Go.Proofs.Ythmloljnpjolmaa
open Go.RowKit

/-- A block that holds a box. -/
def Bx (w : World) (g : Nat) (a b : Value) : Prop := w.heap[g]? = some (.cells #[a, b] 25 (0, 0))
theorem Bx.facts {w : World} {g : Nat} {a b : Value} (h : Bx w g a b) : w.cell? ⟨g, 0, none⟩ = some a ∧ w.cell? ⟨g, 1, none⟩ = some b ∧ w.frozen? ⟨g, 0, none⟩ = false ∧ w.frozen? ⟨g, 1, none⟩ = false :=
  ⟨cell_of_row w g 0 _ _ _ h, cell_of_row w g 1 _ _ _ h, frozen_of_row w g 0 _ _ h, frozen_of_row w g 1 _ _ h⟩
theorem Bx.set {w : World} {g : Nat} {a b : Value} (h : Bx w g a b) (x y : Value) : Bx ((w.setCell ⟨g, 0, none⟩ x).setCell ⟨g, 1, none⟩ y) g x y :=
  heap_setCell_same _ g 1 _ _ y (heap_setCell_same w g 0 _ _ x h)
theorem Bx.lt {w : World} {g : Nat} {a b : Value} (h : Bx w g a b) : g < w.heap.size := (Array.getElem?_eq_some_iff.1 h).1
theorem Bx.later {w w' : World} {g : Nat} {a b : Value} (h : Bx w g a b) (hb : Below w.heap.size w w') : Bx w' g a b := (hb.block _ h.lt).trans h
theorem Bx.fresh (w : World) (a b : Value) : Bx (w.alloc (.cells #[a, b] 25)) w.heap.size a b := heap_alloc_new w _
theorem RowAt.kept {w : World} {g k : Nat} {L : List Int} (h : RowAt w g L) (hk : g ≠ k) (x y : Value) : RowAt ((w.setCell ⟨k, 0, none⟩ x).setCell ⟨k, 1, none⟩ y) g L :=
  (heap_setCell_other _ _ _ _ hk).trans ((heap_setCell_other _ _ _ _ hk).trans h)
theorem part_ok {f : Nat → Int} {n k : Nat} (h : ∀ i, i < n → -9223372036854775808 ≤ f i ∧ f i ≤ 9223372036854775807) : ∀ x ∈ part f n k, -9223372036854775808 ≤ x ∧ x ≤ 9223372036854775807 := by
  intro x hx
  simp only [part, List.mem_map, List.mem_range] at hx
  obtain ⟨i, hi, rfl⟩ := hx
  split
  · exact h i hi
  · omega
/-- A box of a call's own, made of two functions of the side. -/
def MadeBox (w : World) (f g : Nat → Int) (n : Nat) (v : Value) (w' : World) : Prop :=
  ∃ g1 g2 : Nat, v = .agg #[.slice (some ⟨g1, 0, none⟩) n n, .slice (some ⟨g2, 0, none⟩) n n] ∧ Ints w' (some ⟨g1, 0, none⟩) n n (part f n n) ∧ Ints w' (some ⟨g2, 0, none⟩) n n (part g n n) ∧ Below w.heap.size w w'
theorem RowAt.part {w : World} {g n : Nat} {f : Nat → Int} (h : RowAt w g (part f n n)) (hf : ∀ i, i < n → -9223372036854775808 ≤ f i ∧ f i ≤ 9223372036854775807) : Ints w (some ⟨g, 0, none⟩) n n (part f n n) := by
  have := h.ints (part_ok hf)
  rw [part_length] at this
  exact this
/-- What stands behind the box's being laid in the result. -/
theorem box_laid {w0 w w' : World} {R g1 g2 n : Nat} {a b : Value} {f g : Nat → Int} (hx : Bx w R a b) (hR : w0.heap.size ≤ R) (hw : Below w0.heap.size w0 w) (hb : Below w.heap.size w w')
    (h1 : RowAt w' g1 (part f n n)) (h2 : RowAt w' g2 (part g n n)) (l1 : w.heap.size < g1) (l2 : w.heap.size < g2) (hf : ∀ i, i < n → -9223372036854775808 ≤ f i ∧ f i ≤ 9223372036854775807) (hg : ∀ i, i < n → -9223372036854775808 ≤ g i ∧ g i ≤ 9223372036854775807) :
    Bx ((w'.setCell ⟨R, 0, none⟩ (.slice (some ⟨g1, 0, none⟩) n n)).setCell ⟨R, 1, none⟩ (.slice (some ⟨g2, 0, none⟩) n n)) R (.slice (some ⟨g1, 0, none⟩) n n) (.slice (some ⟨g2, 0, none⟩) n n) ∧
    MadeBox w0 f g n (.agg #[.slice (some ⟨g1, 0, none⟩) n n, .slice (some ⟨g2, 0, none⟩) n n]) ((w'.setCell ⟨R, 0, none⟩ (.slice (some ⟨g1, 0, none⟩) n n)).setCell ⟨R, 1, none⟩ (.slice (some ⟨g2, 0, none⟩) n n)) := by
  have hlt := hx.lt
  refine ⟨(hx.later hb).set _ _, g1, g2, rfl, (h1.kept (by omega) _ _).part hf, (h2.kept (by omega) _ _).part hg, ?_⟩
  exact ((hw.trans (hb.mono hw.size)).setCell (p := ⟨R, 0, none⟩) hR _).setCell (p := ⟨R, 1, none⟩) hR _
set_option maxRecDepth 100000 in
set_option maxHeartbeats 1000000 in
theorem whole_any (n : Nat) (h : 1 ≤ n ∧ n ≤ 8) (w : World) :
    Calls Try.prog 11 #[.int .i64 n] w fun e w' => ∃ v, e = .returned v ∧ MadeBox w (fun _ => -9223372036854775808) (fun _ => 9223372036854775807) n v w' := by
  have hD := dimensions_any (n : Int)
  rw [decide_eq_true (show 1 ≤ (n : Int) ∧ (n : Int) ≤ 8 by omega)] at hD
  have HD := Lib.hid hD
  have hE := fun w' => build_any n h.1 h.2 (fun _ => -9223372036854775808) (fun _ => 9223372036854775807) 32 #[] (enter_side Try.func32 (by kernel_rfl) rfl) w' (fun k w'' hk hb => wholeside k w'')
  have HE := Lib.hid hE
  clear hD hE h
  go_enter Try.func11, Try.ntmps11
  go_upto_region 1 with fail
  have X := Lib.hid (Bx.fresh w (.slice none 0 0) (.slice none 0 0))
  have B1 := Lib.hid (show Below w.heap.size w (w.alloc (.cells #[.slice none 0 0, .slice none 0 0] 25)) from (Below.refl _ _).alloc (Nat.le_refl _) _)
  generalize w.alloc (.cells #[.slice none 0 0, .slice none 0 0] 25) = w1 at *
  go_wp2_with ((go_at_call 30; refine (HD.out _).mono ?_; rintro _ w' ⟨rfl, rfl⟩))
  refine (HE.out w1).mono ?_
  rintro _ w2 ⟨g1, g2, rfl, h1, h2, l1, l2, ne, hb⟩
  obtain ⟨c0, c1, c2, c3⟩ := (X.out.later hb).facts
  have HL := Lib.hid (box_laid X.out (Nat.le_refl _) B1.out hb h1 h2 l1 l2 (fun _ _ => by omega) (fun _ _ => by omega))
  clear h1 h2 l1 l2 ne hb X B1
  go_wp2_with fail
  generalize (w2.setCell ⟨w.heap.size, 0, none⟩ (.slice (some ⟨g1, 0, none⟩) n n)).setCell ⟨w.heap.size, 1, none⟩ (.slice (some ⟨g2, 0, none⟩) n n) = w9 at *
  exact ret_box 2 rfl w.heap.size _ _ rfl HL.out.1 ⟨_, rfl, HL.out.2⟩
set_option maxRecDepth 100000 in
set_option maxHeartbeats 1000000 in
theorem whole_not (d : Int) (h : ¬ (1 ≤ d ∧ d ≤ 8)) (w : World) :
    Calls Try.prog 11 #[.int .i64 d] w fun e w' => e = .returned (.agg #[.slice none 0 0, .slice none 0 0]) ∧ Below w.heap.size w w' := by
  have hD := dimensions_any d
  rw [decide_eq_false h] at hD
  have HD := Lib.hid hD
  clear hD h
  go_enter Try.func11, Try.ntmps11
  go_upto_region 1 with fail
  have X := Lib.hid (Bx.fresh w (.slice none 0 0) (.slice none 0 0))
  have B1 := Lib.hid (show Below w.heap.size w (w.alloc (.cells #[.slice none 0 0, .slice none 0 0] 25)) from (Below.refl _ _).alloc (Nat.le_refl _) _)
  generalize w.alloc (.cells #[.slice none 0 0, .slice none 0 0] 25) = w1 at *
  obtain ⟨c0, c1, c2, c3⟩ := X.out.facts
  go_wp2_with ((go_at_call 30; refine (HD.out _).mono ?_; rintro _ w' ⟨rfl, rfl⟩))
  exact ret_box 2 rfl w.heap.size _ _ rfl (X.out.set _ _) ⟨rfl, (B1.out.setCell (p := ⟨w.heap.size, 0, none⟩) (Nat.le_refl _) _).setCell (p := ⟨w.heap.size, 1, none⟩) (Nat.le_refl _) _⟩
set_option maxRecDepth 100000 in
set_option maxHeartbeats 1000000 in
theorem of_any (p : Option Addr) (n c : Nat) (R : List Int) (h : 1 ≤ n ∧ n ≤ 8) (w : World) (hR : Ints w p n c R) :
    Calls Try.prog 13 #[.slice p n c] w fun e w' => ∃ v, e = .returned v ∧ MadeBox w (fun k => R.getD k 0) (fun k => R.getD k 0) n v w' := by
  have hD := dimensions_any (n : Int)
  rw [decide_eq_true (show 1 ≤ (n : Int) ∧ (n : Int) ≤ 8 by omega)] at hD
  have HD := Lib.hid hD
  have HR := Lib.hid hR
  clear hD
  go_enter Try.func13, Try.ntmps13
  go_upto_region 1 with fail
  have x0 := boxed w (.slice p n c) 23
  have s0 : (w.alloc (.cells #[.slice p n c] 23)).heap.size = w.heap.size + 1 := by simp
  have b0 : Below w.heap.size w (w.alloc (.cells #[.slice p n c] 23)) := (Below.refl _ _).alloc (Nat.le_refl _) _
  generalize w.alloc (.cells #[.slice p n c] 23) = w0 at *
  have x1 := Bx.fresh w0 (.slice none 0 0) (.slice none 0 0)
  have b1 : Below w0.heap.size w0 (w0.alloc (.cells #[.slice none 0 0, .slice none 0 0] 25)) := (Below.refl _ _).alloc (Nat.le_refl _) _
  rw [s0] at x1
  generalize w0.alloc (.cells #[.slice none 0 0, .slice none 0 0] 25) = w1 at *
  have X := Lib.hid x1
  have hb0 := (b1.cell (p := ⟨w.heap.size, 0, none⟩) (by show w.heap.size < _; omega)).trans x0
  have B1 := Lib.hid (b0.trans (b1.mono (by omega)))
  clear x0 s0 b0 x1 b1
  clear w0
  have HE := Lib.hid (build_any n h.1 h.2 (fun k => R.getD k 0) (fun k => R.getD k 0) 36 #[.pointer (some ⟨w.heap.size, 0, none⟩)] (enter_side Try.func36 (by kernel_rfl) rfl) w1 (fun k w'' hk hb => ofside w.heap.size p n c R k hk w'' ((hb.cell (p := ⟨w.heap.size, 0, none⟩) (by have := X.out.lt; show w.heap.size < _; omega)).trans hb0) ((hR.later B1.out).later hb)))
  clear h hR
  go_wp2_with ((go_at_call 30; refine (HD.out _).mono ?_; rintro _ w' ⟨rfl, rfl⟩))
  refine HE.out.mono ?_
  rintro _ w2 ⟨g1, g2, rfl, h1, h2, l1, l2, ne, hb⟩
  obtain ⟨c0, c1, c2, c3⟩ := (X.out.later hb).facts
  have HL := Lib.hid (box_laid X.out (Nat.le_succ _) B1.out hb h1 h2 l1 l2 (fun _ hk => HR.out.get _ hk) (fun _ hk => HR.out.get _ hk))
  clear h1 h2 l1 l2 ne hb X B1 hb0
  go_wp2_with fail
  generalize (w2.setCell ⟨w.heap.size + 1, 0, none⟩ (.slice (some ⟨g1, 0, none⟩) n n)).setCell ⟨w.heap.size + 1, 1, none⟩ (.slice (some ⟨g2, 0, none⟩) n n) = w9 at *
  exact ret_box 2 rfl (w.heap.size + 1) _ _ rfl HL.out.1 ⟨_, rfl, HL.out.2⟩
end Go.Proofs.Ythmloljnpjolmaa
