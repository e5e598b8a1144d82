/- The chapter's examples of box stand: the statements' first look says so. -/
import Derived.Test.YthmloljnpjolmaaBoxAhead
import Derived.Test.YthmloljnpjolmaaBoxCut
import Derived.Test.YthmloljnpjolmaaBoxRefG
namespace Go.Proofs.Ythmloljnpjolmaa
open Go.RowKit

/-- Two rows and a box of them, laid as literals. -/
theorem lits (w : World) (a b c d : Int) (ha : -9223372036854775808 ≤ a ∧ a ≤ 9223372036854775807) (hb : -9223372036854775808 ≤ b ∧ b ≤ 9223372036854775807) (hc : -9223372036854775808 ≤ c ∧ c ≤ 9223372036854775807) (hd : -9223372036854775808 ≤ d ∧ d ≤ 9223372036854775807) :
    ∀ w', w' = (w.alloc (.cells #[.int .i64 a, .int .i64 b] 2)).alloc (.cells #[.int .i64 c, .int .i64 d] 2) →
    Ints w' (some ⟨w.heap.size, 0, none⟩) 2 2 [a, b] ∧ Ints w' (some ⟨w.heap.size + 1, 0, none⟩) 2 2 [c, d] ∧ Below w.heap.size w w' ∧ w'.heap.size = w.heap.size + 1 + 1 := by
  rintro w' rfl
  have h1 := lit2 w a b ha hb
  have hs : (w.alloc (.cells #[.int .i64 a, .int .i64 b] 2)).heap.size = w.heap.size + 1 := by simp
  have b1 : Below w.heap.size w (w.alloc (.cells #[.int .i64 a, .int .i64 b] 2)) := (Below.refl _ _).alloc (Nat.le_refl _) _
  generalize w.alloc (.cells #[.int .i64 a, .int .i64 b] 2) = w1 at *
  have h2 := lit2 w1 c d hc hd
  have b2 : Below w1.heap.size w1 (w1.alloc (.cells #[.int .i64 c, .int .i64 d] 2)) := (Below.refl _ _).alloc (Nat.le_refl _) _
  rw [hs] at h2
  exact ⟨h1.later b2, h2, b1.trans (b2.mono (by omega)), by simp; omega⟩
theorem litbox (w : World) (a b c d : Int) (ha : -9223372036854775808 ≤ a ∧ a ≤ 9223372036854775807) (hb : -9223372036854775808 ≤ b ∧ b ≤ 9223372036854775807) (hc : -9223372036854775808 ≤ c ∧ c ≤ 9223372036854775807) (hd : -9223372036854775808 ≤ d ∧ d ≤ 9223372036854775807) :
    ∀ w', w' = ((w.alloc (.cells #[.int .i64 a, .int .i64 b] 2)).alloc (.cells #[.int .i64 c, .int .i64 d] 2)).alloc (.cells #[.slice (some ⟨w.heap.size, 0, none⟩) 2 2, .slice (some ⟨w.heap.size + 1, 0, none⟩) 2 2] 25) →
    (Ints w' (some ⟨w.heap.size, 0, none⟩) 2 2 [a, b] ∧ Ints w' (some ⟨w.heap.size + 1, 0, none⟩) 2 2 [c, d] ∧ Bx w' (w.heap.size + 1 + 1) (.slice (some ⟨w.heap.size, 0, none⟩) 2 2) (.slice (some ⟨w.heap.size + 1, 0, none⟩) 2 2)) ∧ Below w.heap.size w w' := by
  rintro w' rfl
  obtain ⟨h1, h2, h3, h4⟩ := lits w a b c d ha hb hc hd _ rfl
  generalize (w.alloc (.cells #[.int .i64 a, .int .i64 b] 2)).alloc (.cells #[.int .i64 c, .int .i64 d] 2) = w1 at *
  have b1 : Below w1.heap.size w1 (w1.alloc (.cells #[.slice (some ⟨w.heap.size, 0, none⟩) 2 2, .slice (some ⟨w.heap.size + 1, 0, none⟩) 2 2] 25)) := (Below.refl _ _).alloc (Nat.le_refl _) _
  have h5 := Bx.fresh w1 (.slice (some ⟨w.heap.size, 0, none⟩) 2 2) (.slice (some ⟨w.heap.size + 1, 0, none⟩) 2 2)
  rw [h4] at h5
  exact ⟨⟨h1.later b1, h2.later b1, h5⟩, h3.trans (b1.mono (by omega))⟩
/-- A box that lies boxed, and its corners. -/
structure BoxIn (w : World) (g : Nat) (p q : Option Addr) (n c m e : Nat) (R S : List Int) : Prop where
  bx : Bx w g (.slice p n c) (.slice q m e)
  i1 : Ints w p n c R
  i2 : Ints w q m e S
theorem BoxIn.later {w w' : World} {g : Nat} {p q : Option Addr} {n c m e : Nat} {R S : List Int} (h : BoxIn w g p q n c m e R S) (hb : Below w.heap.size w w') : BoxIn w' g p q n c m e R S := ⟨h.bx.later hb, h.i1.later hb, h.i2.later hb⟩
theorem ex_meets : meetsB [1, 2] [3, 4] [0, 3] [2, 9] 2 2 2 2 = true := by decide +kernel
theorem ex_pair : pairB [1, 2] [3, 4] [0, 3] [2, 9] 2 2 2 2 = true := by decide +kernel
theorem ex_cut1 : part (fun i => max (([1, 2] : List Int).getD i 0) (([0, 3] : List Int).getD i 0)) 2 2 = [1, 3] := by decide +kernel
theorem ex_cut2 : part (fun i => min (([3, 4] : List Int).getD i 0) (([2, 9] : List Int).getD i 0)) 2 2 = [2, 4] := by decide +kernel
theorem ex_hull1 : part (fun i => min (([1, 2] : List Int).getD i 0) (([0, 3] : List Int).getD i 0)) 2 2 = [0, 2] := by decide +kernel
theorem ex_hull2 : part (fun i => max (([3, 4] : List Int).getD i 0) (([2, 9] : List Int).getD i 0)) 2 2 = [3, 9] := by decide +kernel
theorem ex_key : dV (keyI 3 0 [0] [7, -3] 1 2) = .agg #[.int .u64 0, .int .u64 3] := by rw [show keyI 3 0 [0] [7, -3] 1 2 = 3 by decide +kernel]; rfl
theorem ex_keyerr : errOf (decide (ordP 3 0 1 ((2 : Nat) : Int))) = 0 := by decide +kernel
theorem ex_ahead : decide (aheadP 2 1 [] [1, 9] [2, 5] 0 2 2) = true := by decide +kernel
theorem nil_ints (w : World) : Ints w none 0 0 [] := ⟨rfl, Nat.le_refl _, fun x hx => by simp at hx, Or.inl rfl⟩
theorem ex_same1 : decide (([1, 3] : List Int) = [1, 3] ∧ ([2, 4] : List Int) = [2, 4]) = true := by decide +kernel
theorem ex_same2 : decide (([0, 2] : List Int) = [0, 2] ∧ ([3, 9] : List Int) = [3, 9]) = true := by decide +kernel
theorem lit1 (w : World) (a : Int) (ha : -9223372036854775808 ≤ a ∧ a ≤ 9223372036854775807) : Ints (w.alloc (.cells #[.int .i64 a] 2)) (some ⟨w.heap.size, 0, none⟩) 1 1 [a] :=
  ⟨rfl, Nat.le_refl _, fun x hx => by simp at hx; rw [hx]; exact ha, Or.inr ⟨_, _, rfl, fun i hi => by
    match i, hi with
    | 0, _ => exact cell_of_row _ _ 0 _ _ (0, 0) (heap_alloc_new w _)⟩⟩
theorem lit12 (w : World) (a b c : Int) (ha : -9223372036854775808 ≤ a ∧ a ≤ 9223372036854775807) (hb : -9223372036854775808 ≤ b ∧ b ≤ 9223372036854775807) (hc : -9223372036854775808 ≤ c ∧ c ≤ 9223372036854775807) :
    ∀ w', w' = (w.alloc (.cells #[.int .i64 a] 2)).alloc (.cells #[.int .i64 b, .int .i64 c] 2) →
    Ints w' (some ⟨w.heap.size, 0, none⟩) 1 1 [a] ∧ Ints w' (some ⟨w.heap.size + 1, 0, none⟩) 2 2 [b, c] ∧ Below w.heap.size w w' := by
  rintro w' rfl
  have h1 := lit1 w a ha
  have hs : (w.alloc (.cells #[.int .i64 a] 2)).heap.size = w.heap.size + 1 := by simp
  have b1 : Below w.heap.size w (w.alloc (.cells #[.int .i64 a] 2)) := (Below.refl _ _).alloc (Nat.le_refl _) _
  generalize w.alloc (.cells #[.int .i64 a] 2) = w1 at *
  have h2 := lit2 w1 b c hb hc
  have b2 : Below w1.heap.size w1 (w1.alloc (.cells #[.int .i64 b, .int .i64 c] 2)) := (Below.refl _ _).alloc (Nat.le_refl _) _
  rw [hs] at h2
  exact ⟨h1.later b2, h2, b1.trans (b2.mono (by omega))⟩
set_option maxRecDepth 100000 in
set_option maxHeartbeats 4000000 in
theorem alive4_any (w : World) :
    Calls Try.prog 8 #[] w fun e w' => e = .returned (.bool true) ∧ Below w.heap.size w w' := by
  go_enter Try.func8, Try.ntmps8
  go_upto_region 2 with fail
  obtain ⟨w1, hw1⟩ : ∃ w1, w1 = ((w.alloc (.cells #[.int .i64 1, .int .i64 2] 2)).alloc (.cells #[.int .i64 3, .int .i64 4] 2)).alloc (.cells #[.slice (some ⟨w.heap.size, 0, none⟩) 2 2, .slice (some ⟨w.heap.size + 1, 0, none⟩) 2 2] 25) := ⟨_, rfl⟩
  obtain ⟨h1, B1⟩ := litbox w 1 2 3 4 (by omega) (by omega) (by omega) (by omega) w1 hw1
  rw [← hw1]
  clear hw1
  have HA := Lib.hid (show BoxIn w1 (w.heap.size + 1 + 1) _ _ 2 2 2 2 [1, 2] [3, 4] from ⟨h1.2.2, h1.1, h1.2.1⟩)
  clear h1
  go_upto_region 3 with fail
  obtain ⟨w2, hw2⟩ : ∃ w2, w2 = ((w1.alloc (.cells #[.int .i64 0, .int .i64 3] 2)).alloc (.cells #[.int .i64 2, .int .i64 9] 2)).alloc (.cells #[.slice (some ⟨w1.heap.size, 0, none⟩) 2 2, .slice (some ⟨w1.heap.size + 1, 0, none⟩) 2 2] 25) := ⟨_, rfl⟩
  obtain ⟨h2, B2⟩ := litbox w1 0 3 2 9 (by omega) (by omega) (by omega) (by omega) w2 hw2
  rw [← hw2]
  clear hw2
  have HA2 := Lib.hid (HA.out.later B2)
  have HB2 := Lib.hid (show BoxIn w2 (w1.heap.size + 1 + 1) _ _ 2 2 2 2 [0, 3] [2, 9] from ⟨h2.2.2, h2.1, h2.2.1⟩)
  have BB := Lib.hid (B1.trans (B2.mono B1.size))
  clear h2 B1 B2 HA
  generalize w1.heap.size + 1 + 1 = gb at *
  generalize w1.heap.size + 1 = pb at *
  generalize w1.heap.size = qb at *
  clear w1
  obtain ⟨x0, x1, -, -⟩ := HA2.out.bx.facts
  obtain ⟨x2, x3, -, -⟩ := HB2.out.bx.facts
  have HC := Lib.hid (cut_any _ _ _ _ 2 2 2 2 2 2 2 2 _ _ _ _ w2 HA2.out.i1 HA2.out.i2 HB2.out.i1 HB2.out.i2)
  go_wp2_with fail
  refine HC.out.mono ?_
  intro e w3 hc
  unfold CutPost at hc
  rw [if_pos ex_meets] at hc
  obtain ⟨v, rfl, g1, g2, rfl, hc1, hc2, hb3⟩ := hc
  rw [ex_cut1] at hc1
  rw [ex_cut2] at hc2
  have B3 := Lib.hid (BB.out.trans (hb3.mono BB.out.size))
  have HA3 := Lib.hid (HA2.out.later hb3)
  have HB3 := Lib.hid (HB2.out.later hb3)
  have C1 := Lib.hid hc1
  have C2 := Lib.hid hc2
  clear hc1 hc2 hb3 BB HA2 HB2 HC x0 x1 x2 x3
  clear w2
  go_upto_region 4 with fail
  have b4 : Below w3.heap.size w3 (w3.alloc (.cells #[.slice (some ⟨g1, 0, none⟩) 2 2, .slice (some ⟨g2, 0, none⟩) 2 2] 25)) := (Below.refl _ _).alloc (Nat.le_refl _) _
  have hx := Bx.fresh w3 (.slice (some ⟨g1, 0, none⟩) 2 2) (.slice (some ⟨g2, 0, none⟩) 2 2)
  generalize w3.alloc (.cells #[.slice (some ⟨g1, 0, none⟩) 2 2, .slice (some ⟨g2, 0, none⟩) 2 2] 25) = w4 at *
  have B4 := Lib.hid (B3.out.trans (b4.mono B3.out.size))
  have HA4 := Lib.hid (HA3.out.later b4)
  have HB4 := Lib.hid (HB3.out.later b4)
  have HC4 := Lib.hid (show BoxIn w4 w3.heap.size _ _ 2 2 2 2 [1, 3] [2, 4] from ⟨hx, C1.out.later b4, C2.out.later b4⟩)
  clear b4 hx B3 HA3 HB3 C1 C2
  generalize w3.heap.size = gc at *
  clear w3
  have k5 := lit12 w4 0 7 (-3) (by omega) (by omega) (by omega) _ rfl
  have K5 := Lib.hid k5
  clear k5
  have HK := Lib.hid (key_any 3 0 _ _ 1 1 2 2 [0] [7, -3] _ K5.out.1 K5.out.2.1)
  rw [ex_key, ex_keyerr] at HK
  go_wp2_with ((go_at_call 15; (with_reducible refine HK.out.mono ?_)))
  rintro _ w5 ⟨rfl, hb5⟩
  have hb5' : Below w4.heap.size w4 w5 := K5.out.2.2.trans (hb5.mono K5.out.2.2.size)
  have B5 := Lib.hid (B4.out.trans (hb5'.mono B4.out.size))
  have HA5 := Lib.hid (HA4.out.later hb5')
  have HB5 := Lib.hid (HB4.out.later hb5')
  have HC5 := Lib.hid (HC4.out.later hb5')
  clear hb5 hb5' K5 HK B4 HA4 HB4 HC4
  generalize w4.heap.size + 1 = pk at *
  generalize w4.heap.size = qk at *
  clear w4
  go_upto_region 5 with fail
  have b6 : Below w5.heap.size w5 (w5.alloc (.cells #[.int .u64 0, .int .u64 3] 37)) := (Below.refl _ _).alloc (Nat.le_refl _) _
  have t6 := two_fresh w5 (.int .u64 0) (.int .u64 3)
  generalize w5.alloc (.cells #[.int .u64 0, .int .u64 3] 37) = w6 at *
  have B6 := Lib.hid (B5.out.trans (b6.mono B5.out.size))
  have HA6 := Lib.hid (HA5.out.later b6)
  have HB6 := Lib.hid (HB5.out.later b6)
  have HC6 := Lib.hid (HC5.out.later b6)
  have T6 := Lib.hid t6
  clear b6 t6 B5 HA5 HB5 HC5
  generalize w5.heap.size = gk at *
  clear w5
  obtain ⟨x0, x1, -, -⟩ := HC6.out.bx.facts
  have L7 := Lib.hid (lits w6 1 3 2 4 (by omega) (by omega) (by omega) (by omega) _ rfl)
  have H7 := Lib.hid (refsame_any _ _ _ _ 2 2 2 2 2 2 2 2 [1, 3] [2, 4] [1, 3] [2, 4] _ (HC6.out.i1.later L7.out.2.2.1) (HC6.out.i2.later L7.out.2.2.1) L7.out.1 L7.out.2.1 (by omega) (by omega))
  rw [ex_same1] at H7
  go_wp2_with ((go_at_call 28; (with_reducible refine H7.out.mono ?_)))
  rintro _ w7 ⟨rfl, hb7⟩
  have hb7' : Below w6.heap.size w6 w7 := L7.out.2.2.1.trans (hb7.mono L7.out.2.2.1.size)
  have B7 := Lib.hid (B6.out.trans (hb7'.mono B6.out.size))
  have HA7 := Lib.hid (HA6.out.later hb7')
  have HB7 := Lib.hid (HB6.out.later hb7')
  have T7 := Lib.hid (T6.out.later hb7' T6.out.lt)
  clear hb7 hb7' L7 H7 B6 HA6 HB6 HC6 T6 x0 x1
  generalize w6.heap.size + 1 = pr at *
  generalize w6.heap.size = qr at *
  clear w6
  obtain ⟨x0, x1, -, -⟩ := HA7.out.bx.facts
  obtain ⟨x2, x3, -, -⟩ := HB7.out.bx.facts
  have H8 := Lib.hid (hull_right _ _ _ _ 2 2 2 2 2 2 2 2 _ _ _ _ w7 HA7.out.i1 HA7.out.i2 HB7.out.i1 HB7.out.i2 ex_pair)
  go_wp2_with ((go_at_call 29; (with_reducible refine H8.out.mono ?_)))
  rintro _ w8 ⟨v, rfl, g3, g4, rfl, hh1, hh2, hb8⟩
  rw [ex_hull1] at hh1
  rw [ex_hull2] at hh2
  have B8 := Lib.hid (B7.out.trans (hb8.mono B7.out.size))
  have T8 := Lib.hid (T7.out.later hb8 T7.out.lt)
  have U1 := Lib.hid hh1
  have U2 := Lib.hid hh2
  clear hh1 hh2 hb8 H8 x0 x1 x2 x3 HA7 HB7 B7 T7
  clear w7
  have L9 := Lib.hid (lits w8 0 2 3 9 (by omega) (by omega) (by omega) (by omega) _ rfl)
  have H9 := Lib.hid (refsame_any _ _ _ _ 2 2 2 2 2 2 2 2 [0, 2] [3, 9] [0, 2] [3, 9] _ (U1.out.later L9.out.2.2.1) (U2.out.later L9.out.2.2.1) L9.out.1 L9.out.2.1 (by omega) (by omega))
  rw [ex_same2] at H9
  go_wp2_with ((go_at_call 28; (with_reducible refine H9.out.mono ?_)))
  rintro _ w9 ⟨rfl, hb9⟩
  have hb9' : Below w8.heap.size w8 w9 := L9.out.2.2.1.trans (hb9.mono L9.out.2.2.1.size)
  have B9 := Lib.hid (B8.out.trans (hb9'.mono B8.out.size))
  have T9 := Lib.hid (T8.out.later hb9' T8.out.lt)
  clear hb9 hb9' L9 H9 B8 T8 U1 U2
  generalize w8.heap.size + 1 = ps at *
  generalize w8.heap.size = qs at *
  clear w8
  obtain ⟨x0, x1, -, -⟩ := T9.out.facts
  have q := dist_eql 0 3 0 3
  simp only [and_self, decide_true] at q
  have LA := Lib.hid (lits w9 1 9 2 5 (by omega) (by omega) (by omega) (by omega) _ rfl)
  have HH := Lib.hid (ahead_any 2 1 none _ _ 0 0 2 2 2 2 [] [1, 9] [2, 5] _ (nil_ints _) LA.out.1 LA.out.2.1)
  rw [ex_ahead] at HH
  go_wp2_with ((go_at_call 19; (with_reducible refine HH.out.mono ?_)))
  rintro _ w10 ⟨rfl, hb10⟩
  have B10 := Lib.hid (B9.out.trans ((LA.out.2.2.1.trans (hb10.mono LA.out.2.2.1.size)).mono B9.out.size))
  clear hb10 q
  go_wp2_with fail
  go_ret
  exact ⟨rfl, B10.out⟩
end Go.Proofs.Ythmloljnpjolmaa
