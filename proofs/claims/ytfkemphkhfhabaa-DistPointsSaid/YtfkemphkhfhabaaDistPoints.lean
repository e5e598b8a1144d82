/- DistPoints, walked. -/
import Derived.Test.YtfkemphkhfhabaaDist14
namespace Go.Proofs.Ytfkemphkhfhabaa
open Go.RowKit

theorem BoxAt.later {w w' : World} {B : Nat} {p : Option Addr} {n c : Nat} {q : Option Addr} {m d : Nat} (h : BoxAt w B p n c q m d) {k : Nat} (hb : Below k w w') (hB : B < k) : BoxAt w' B p n c q m d :=
  ⟨(hb.cell (p := ⟨B, 0, none⟩) hB).trans h.1, (hb.cell (p := ⟨B, 1, none⟩) hB).trans h.2⟩
set_option maxRecDepth 100000 in
set_option maxHeartbeats 2000000 in
theorem dpoints_any (p q s t : Option Addr) (n c m d l e l2 e2 : Nat) (P Q S T : List Int) (w : World) (hP : Ints w p n c P) (hQ : Ints w q m d Q) (hS : Ints w s l e S) (hT : Ints w t l2 e2 T) :
    Calls Try.prog 4 #[.slice p n c, .slice q m d, .agg #[.slice s l e, .slice t l2 e2]] w fun x w' => x = .returned (.bool true) ∧ Below w.heap.size w w' := by
  have H1 := Lib.hid hP
  have H2 := Lib.hid hQ
  have H3 := Lib.hid hS
  have H4 := Lib.hid hT
  clear hP hQ hS hT
  obtain ⟨a1, a0, hab⟩ := dV_two (btw P Q n m)
  obtain ⟨b1, b0, htb⟩ := dV_two (tbx P S T n l l2)
  obtain ⟨f1, hf1⟩ : ∃ f, f = btwE n m := ⟨_, rfl⟩
  obtain ⟨o1, ho1⟩ : ∃ o, o = decide (okP n m) := ⟨_, rfl⟩
  obtain ⟨f2, hf2⟩ : ∃ f, f = tbxE n l l2 := ⟨_, rfl⟩
  obtain ⟨o2, ho2⟩ : ∃ o, o = decide (okP n l ∧ n = l2) := ⟨_, rfl⟩
  have R1 := Lib.hid (show f1 = 0 ∧ o1 = true ∨ f1 = 1 ∧ o1 = false from by
    rw [hf1, ho1]; unfold btwE
    by_cases h : okP n m
    · rw [if_pos h]; exact Or.inl ⟨rfl, decide_eq_true h⟩
    · rw [if_neg h]; exact Or.inr ⟨rfl, decide_eq_false h⟩)
  have R2 := Lib.hid (show f2 = 0 ∧ o2 = true ∨ f2 = 1 ∧ o2 = false from by
    rw [hf2, ho2]; unfold tbxE
    by_cases h : okP n l ∧ n = l2
    · rw [if_pos h]; exact Or.inl ⟨rfl, decide_eq_true h⟩
    · rw [if_neg h]; exact Or.inr ⟨rfl, decide_eq_false h⟩)
  have K1 : ∀ w, Ints w p n c P → Ints w q m d Q → Calls Try.prog 18 #[.slice p n c, .slice q m d] w fun x w' => x = .returned (.tuple #[.agg #[.int .u64 a1, .int .u64 a0], .int .i64 f1]) ∧ Below w.heap.size w w' := fun w h h2 => by
    have := between_any p q n c m d P Q w h h2
    rw [hab, ← hf1] at this
    exact this
  have K2 : ∀ w, Ints w p n c P → Ints w q m d Q → Calls Try.prog 19 #[.slice p n c, .slice q m d] w fun x w' => x = .returned (.tuple #[.agg #[.int .u64 a1, .int .u64 a0], .bool o1]) ∧ Below w.heap.size w w' := fun w h h2 => by
    have := refbetween_any p q n c m d P Q w h h2
    rw [hab, ← ho1] at this
    exact this
  have K3 : ∀ w, Ints w p n c P → Ints w s l e S → Ints w t l2 e2 T → Calls Try.prog 20 #[.slice p n c, .agg #[.slice s l e, .slice t l2 e2]] w fun x w' => x = .returned (.tuple #[.agg #[.int .u64 b1, .int .u64 b0], .int .i64 f2]) ∧ Below w.heap.size w w' := fun w h h2 h3 => by
    have := tobox_any p s t n c l e l2 e2 P S T w h h2 h3
    rw [htb, ← hf2] at this
    exact this
  have K4 : ∀ w, Ints w p n c P → Ints w s l e S → Ints w t l2 e2 T → Calls Try.prog 21 #[.slice p n c, .agg #[.slice s l e, .slice t l2 e2]] w fun x w' => x = .returned (.tuple #[.agg #[.int .u64 b1, .int .u64 b0], .bool o2]) ∧ Below w.heap.size w w' := fun w h h2 h3 => by
    have := reftobox_any p s t n c l e l2 e2 P S T w h h2 h3
    rw [htb, ← ho2] at this
    exact this
  have K1 := Lib.hid K1
  have K2 := Lib.hid K2
  have K3 := Lib.hid K3
  have K4 := Lib.hid K4
  clear hab htb hf1 hf2 ho1 ho2
  go_enter Try.func4, Try.ntmps4
  go_upto_region 1 with fail
  have hb1 : Below w.heap.size w (w.alloc (.cells #[.slice s l e, .slice t l2 e2] 37)) := (Below.refl _ _).alloc (Nat.le_refl _) _
  have x0 := boxed2 w (.slice s l e) (.slice t l2 e2) 37
  have x1 := boxed3 w (.slice s l e) (.slice t l2 e2) 37
  have z1 : (w.alloc (.cells #[.slice s l e, .slice t l2 e2] 37)).heap.size = w.heap.size + 1 := by simp
  generalize w.alloc (.cells #[.slice s l e, .slice t l2 e2] 37) = w1 at *
  have X1 := Lib.hid (show BoxAt w1 w.heap.size s l e t l2 e2 from ⟨x0, x1⟩)
  have B1 := Lib.hid hb1
  have Z1 := Lib.hid (show w.heap.size < w1.heap.size from by omega)
  clear hb1 x0 x1 z1
  go_wp2_with fail
  refine (alive_any w1).mono ?_
  rintro x w2 ⟨rfl, hb2⟩
  have B2 := Lib.hid (B1.out.trans (hb2.mono B1.out.size))
  have X2 := Lib.hid (X1.out.later hb2 Z1.out)
  have Z2 := Lib.hid (Nat.lt_of_lt_of_le Z1.out hb2.size)
  clear hb2 B1 X1 Z1
  go_wp2_with fail
  refine (K1.out w2 (H1.out.later B2.out) (H2.out.later B2.out)).mono ?_
  rintro x w3 ⟨rfl, hb3⟩
  have B3 := Lib.hid (B2.out.trans (hb3.mono B2.out.size))
  have X3 := Lib.hid (X2.out.later hb3 Z2.out)
  have Z3 := Lib.hid (Nat.lt_of_lt_of_le Z2.out hb3.size)
  clear hb3 B2 X2 Z2
  go_upto_region 4 with fail
  have t4 : Two (w3.alloc (.cells #[.int .u64 a1, .int .u64 a0] 25)) w3.heap.size (.int .u64 a1) (.int .u64 a0) := heap_alloc_new w3 _
  have hb4 : Below w3.heap.size w3 (w3.alloc (.cells #[.int .u64 a1, .int .u64 a0] 25)) := (Below.refl _ _).alloc (Nat.le_refl _) _
  generalize w3.alloc (.cells #[.int .u64 a1, .int .u64 a0] 25) = w4 at *
  have B4 := Lib.hid (B3.out.trans (hb4.mono B3.out.size))
  have X4 := Lib.hid (X3.out.later hb4 Z3.out)
  have Z4 := Lib.hid (Nat.lt_of_lt_of_le Z3.out hb4.size)
  generalize w3.heap.size = ga at *
  have GAT4 := Lib.hid t4
  clear t4 hb4 B3 X3 Z3
  go_wp2_with fail
  refine (K2.out w4 (H1.out.later B4.out) (H2.out.later B4.out)).mono ?_
  rintro x w5 ⟨rfl, hb5⟩
  have B5 := Lib.hid (B4.out.trans (hb5.mono B4.out.size))
  have X5 := Lib.hid (X4.out.later hb5 Z4.out)
  have Z5 := Lib.hid (Nat.lt_of_lt_of_le Z4.out hb5.size)
  have GAT5 := Lib.hid (GAT4.out.later hb5 GAT4.out.lt)
  clear hb5 B4 X4 Z4 GAT4
  go_upto_region 5 with fail
  have t6 : Two (w5.alloc (.cells #[.int .u64 a1, .int .u64 a0] 25)) w5.heap.size (.int .u64 a1) (.int .u64 a0) := heap_alloc_new w5 _
  have hb6 : Below w5.heap.size w5 (w5.alloc (.cells #[.int .u64 a1, .int .u64 a0] 25)) := (Below.refl _ _).alloc (Nat.le_refl _) _
  generalize w5.alloc (.cells #[.int .u64 a1, .int .u64 a0] 25) = w6 at *
  have B6 := Lib.hid (B5.out.trans (hb6.mono B5.out.size))
  have X6 := Lib.hid (X5.out.later hb6 Z5.out)
  have Z6 := Lib.hid (Nat.lt_of_lt_of_le Z5.out hb6.size)
  have GAT6 := Lib.hid (GAT5.out.later hb6 GAT5.out.lt)
  generalize w5.heap.size = gb at *
  have GBT6 := Lib.hid t6
  clear t6 hb6 B5 X5 Z5 GAT5
  obtain ⟨x0, x1⟩ := X6.out
  go_wp2_with fail
  clear x0 x1
  refine (K3.out w6 (H1.out.later B6.out) (H3.out.later B6.out) (H4.out.later B6.out)).mono ?_
  rintro x w7 ⟨rfl, hb7⟩
  have B7 := Lib.hid (B6.out.trans (hb7.mono B6.out.size))
  have X7 := Lib.hid (X6.out.later hb7 Z6.out)
  have Z7 := Lib.hid (Nat.lt_of_lt_of_le Z6.out hb7.size)
  have GAT7 := Lib.hid (GAT6.out.later hb7 GAT6.out.lt)
  have GBT7 := Lib.hid (GBT6.out.later hb7 GBT6.out.lt)
  clear hb7 B6 X6 Z6 GAT6 GBT6
  go_upto_region 6 with fail
  have t8 : Two (w7.alloc (.cells #[.int .u64 b1, .int .u64 b0] 25)) w7.heap.size (.int .u64 b1) (.int .u64 b0) := heap_alloc_new w7 _
  have hb8 : Below w7.heap.size w7 (w7.alloc (.cells #[.int .u64 b1, .int .u64 b0] 25)) := (Below.refl _ _).alloc (Nat.le_refl _) _
  generalize w7.alloc (.cells #[.int .u64 b1, .int .u64 b0] 25) = w8 at *
  have B8 := Lib.hid (B7.out.trans (hb8.mono B7.out.size))
  have X8 := Lib.hid (X7.out.later hb8 Z7.out)
  have Z8 := Lib.hid (Nat.lt_of_lt_of_le Z7.out hb8.size)
  have GAT8 := Lib.hid (GAT7.out.later hb8 GAT7.out.lt)
  have GBT8 := Lib.hid (GBT7.out.later hb8 GBT7.out.lt)
  generalize w7.heap.size = gc at *
  have GCT8 := Lib.hid t8
  clear t8 hb8 B7 X7 Z7 GAT7 GBT7
  obtain ⟨x0, x1⟩ := X8.out
  go_wp2_with fail
  clear x0 x1
  refine (K4.out w8 (H1.out.later B8.out) (H3.out.later B8.out) (H4.out.later B8.out)).mono ?_
  rintro x w9 ⟨rfl, hb9⟩
  have B9 := Lib.hid (B8.out.trans (hb9.mono B8.out.size))
  have X9 := Lib.hid (X8.out.later hb9 Z8.out)
  have Z9 := Lib.hid (Nat.lt_of_lt_of_le Z8.out hb9.size)
  have GAT9 := Lib.hid (GAT8.out.later hb9 GAT8.out.lt)
  have GBT9 := Lib.hid (GBT8.out.later hb9 GBT8.out.lt)
  have GCT9 := Lib.hid (GCT8.out.later hb9 GCT8.out.lt)
  clear hb9 B8 X8 Z8 GAT8 GBT8 GCT8
  go_upto_region 7 with fail
  have t10 : Two (w9.alloc (.cells #[.int .u64 b1, .int .u64 b0] 25)) w9.heap.size (.int .u64 b1) (.int .u64 b0) := heap_alloc_new w9 _
  have hb10 : Below w9.heap.size w9 (w9.alloc (.cells #[.int .u64 b1, .int .u64 b0] 25)) := (Below.refl _ _).alloc (Nat.le_refl _) _
  generalize w9.alloc (.cells #[.int .u64 b1, .int .u64 b0] 25) = w10 at *
  have B10 := Lib.hid (B9.out.trans (hb10.mono B9.out.size))
  have X10 := Lib.hid (X9.out.later hb10 Z9.out)
  have Z10 := Lib.hid (Nat.lt_of_lt_of_le Z9.out hb10.size)
  have GAT10 := Lib.hid (GAT9.out.later hb10 GAT9.out.lt)
  have GBT10 := Lib.hid (GBT9.out.later hb10 GBT9.out.lt)
  have GCT10 := Lib.hid (GCT9.out.later hb10 GCT9.out.lt)
  generalize w9.heap.size = gd at *
  have GDT10 := Lib.hid t10
  clear t10 hb10 B9 X9 Z9 GAT9 GBT9 GCT9
  obtain ⟨y0, y1, _, _⟩ := GAT10.out.facts
  obtain ⟨y2, y3, _, _⟩ := GBT10.out.facts
  obtain ⟨y4, y5, _, _⟩ := GCT10.out.facts
  obtain ⟨y6, y7, _, _⟩ := GDT10.out.facts
  have q1 : ∀ w', (binOp .eql 25 (.agg #[.int .u64 a1, .int .u64 a0]) (.agg #[.int .u64 a1, .int .u64 a0])).run Try.prog w' = .ok (.bool true) w' := fun w' => by
    have := dist_eql a1 a0 a1 a0 w'
    simpa using this
  have q2 : ∀ w', (binOp .eql 25 (.agg #[.int .u64 b1, .int .u64 b0]) (.agg #[.int .u64 b1, .int .u64 b0])).run Try.prog w' = .ok (.bool true) w' := fun w' => by
    have := dist_eql b1 b0 b1 b0 w'
    simpa using this
  rcases R1.out with ⟨rfl, rfl⟩ | ⟨rfl, rfl⟩ <;> rcases R2.out with ⟨rfl, rfl⟩ | ⟨rfl, rfl⟩
  all_goals
    go_wp2_with fail
    go_ret
    exact ⟨rfl, B10.out⟩
end Go.Proofs.Ytfkemphkhfhabaa
