/- BoxRefG, BoxAlive, BoxKeys. -/
import Derived.Test.YtddeomdmccnfbaaMg7
/- indentureref04.Same. -/
namespace Go.Proofs.Ytddeomdmccnfbaa
open Go.RowKit

set_option maxRecDepth 100000 in
set_option maxHeartbeats 4000000 in
theorem refsame_any (p q r s : Option Addr) (n c m e k f l g : Nat) (R S T U : List Int) (w : World) (h1 : Ints w p n c R) (h2 : Ints w q m e S) (h3 : Ints w r k f T) (h4 : Ints w s l g U)
    (hn : n ≤ 9223372036854775807) (hm : m ≤ 9223372036854775807) :
    Calls Try.prog 28 #[.agg #[.slice p n c, .slice q m e], .agg #[.slice r k f, .slice s l g]] w fun e w' => e = .returned (.bool (decide (R = T ∧ S = U))) ∧ Below w.heap.size w w' := by
  have hb1 : Below w.heap.size w (w.alloc (.cells #[.slice p n c, .slice q m e] 25)) := (Below.refl _ _).alloc (Nat.le_refl _) _
  have hs1 : (w.alloc (.cells #[.slice p n c, .slice q m e] 25)).heap.size = w.heap.size + 1 := by simp
  obtain ⟨a0, a1⟩ := pair_alloc w (.slice p n c) (.slice q m e) 25
  go_enter Try.func28, Try.ntmps28
  go_upto_region 1 with fail
  generalize w.alloc (.cells #[.slice p n c, .slice q m e] 25) = w1 at *
  have hb2 : Below w1.heap.size w1 (w1.alloc (.cells #[.slice r k f, .slice s l g] 25)) := (Below.refl _ _).alloc (Nat.le_refl _) _
  obtain ⟨b0, b1⟩ := pair_alloc w1 (.slice r k f) (.slice s l g) 25
  rw [hs1] at b0 b1
  have c0 := (hb2.cell (p := ⟨w.heap.size, 0, none⟩) (by show w.heap.size < _; omega)).trans a0
  have c1 := (hb2.cell (p := ⟨w.heap.size, 1, none⟩) (by show w.heap.size < _; omega)).trans a1
  have H1 := Lib.hid ((h1.later hb1).later hb2)
  have H2 := Lib.hid ((h2.later hb1).later hb2)
  have H3 := Lib.hid ((h3.later hb1).later hb2)
  have H4 := Lib.hid ((h4.later hb1).later hb2)
  have HB := Lib.hid (hb1.trans (hb2.mono (by omega)))
  generalize w1.alloc (.cells #[.slice r k f, .slice s l g] 25) = w2 at *
  clear hb1 hs1 a0 a1 hb2 h1 h2 h3 h4
  clear w1
  by_cases hRT : R = T
  case neg =>
    have HN := Lib.hid (show ¬ (R = T ∧ S = U) from fun h => hRT h.1)
    have HR := Lib.hid hRT
    clear hRT
    go_wp2_with fail
    refine (samerow_any p r n c k f R T w2 H1.out H3.out hn).mono ?_
    rintro _ w3 ⟨rfl, j, rfl⟩
    rw [decide_eq_false HR.out]
    go_wp2_with fail
    go_ret
    exact ⟨ret_ndec HN.out, Below.drewN HB.out _⟩
  have HD := Lib.hid (show decide (S = U) = decide (R = T ∧ S = U) from decide_eq_decide.2 ⟨fun h => ⟨hRT, h⟩, fun h => h.2⟩)
  have HR := Lib.hid hRT
  clear hRT
  go_wp2_with fail
  refine (samerow_any p r n c k f R T w2 H1.out H3.out hn).mono ?_
  rintro _ w3 ⟨rfl, j, hw3⟩
  have HW := Lib.hid (show Below w2.heap.size w2 w3 by rw [hw3]; exact Below.drewN (Below.refl _ _) _)
  have d0 := (HW.out.cell (p := ⟨w.heap.size, 1, none⟩) (block_lt_of_cell c1)).trans c1
  have d1 := (HW.out.cell (p := ⟨w.heap.size + 1, 1, none⟩) (block_lt_of_cell b1)).trans b1
  have G2 := Lib.hid (H2.out.later HW.out)
  have G4 := Lib.hid (H4.out.later HW.out)
  have GB := Lib.hid (HB.out.trans (HW.out.mono HB.out.size))
  clear hw3 c0 c1 b0 b1
  rw [decide_eq_true HR.out]
  go_wp2_with fail
  refine (samerow_any q s m e l g S U w3 G2.out G4.out hm).mono ?_
  rintro _ w4 ⟨rfl, j2, hw4⟩
  have B4 := Lib.hid (show Below w.heap.size w w4 by rw [hw4]; exact Below.drewN GB.out _)
  clear hw4
  go_wp2_with fail
  go_ret
  exact ⟨congrArg (fun b => Ending.returned (.bool b)) HD.out, B4.out⟩
end Go.Proofs.Ytddeomdmccnfbaa

/- The chapter's examples of box stand: the statements' first look says so. -/
namespace Go.Proofs.Ytddeomdmccnfbaa
open Go.RowKit

/-- Two rows and a box of them, laid as literals. -/
theorem lits (w : World) (a b c d : Int) (ha : -9223372036854775808 ≤ a ∧ a ≤ 9223372036854775807) (hb : -9223372036854775808 ≤ b ∧ b ≤ 9223372036854775807) (hc : -9223372036854775808 ≤ c ∧ c ≤ 9223372036854775807) (hd : -9223372036854775808 ≤ d ∧ d ≤ 9223372036854775807) :
    ∀ w', w' = (w.alloc (.cells #[.int .i64 a, .int .i64 b] 2)).alloc (.cells #[.int .i64 c, .int .i64 d] 2) →
    Ints w' (some ⟨w.heap.size, 0, none⟩) 2 2 [a, b] ∧ Ints w' (some ⟨w.heap.size + 1, 0, none⟩) 2 2 [c, d] ∧ Below w.heap.size w w' ∧ w'.heap.size = w.heap.size + 1 + 1 := by
  rintro w' rfl
  have h1 := lit2 w a b ha hb
  have hs : (w.alloc (.cells #[.int .i64 a, .int .i64 b] 2)).heap.size = w.heap.size + 1 := by simp
  have b1 : Below w.heap.size w (w.alloc (.cells #[.int .i64 a, .int .i64 b] 2)) := (Below.refl _ _).alloc (Nat.le_refl _) _
  generalize w.alloc (.cells #[.int .i64 a, .int .i64 b] 2) = w1 at *
  have h2 := lit2 w1 c d hc hd
  have b2 : Below w1.heap.size w1 (w1.alloc (.cells #[.int .i64 c, .int .i64 d] 2)) := (Below.refl _ _).alloc (Nat.le_refl _) _
  rw [hs] at h2
  exact ⟨h1.later b2, h2, b1.trans (b2.mono (by omega)), by simp; omega⟩
theorem litbox (w : World) (a b c d : Int) (ha : -9223372036854775808 ≤ a ∧ a ≤ 9223372036854775807) (hb : -9223372036854775808 ≤ b ∧ b ≤ 9223372036854775807) (hc : -9223372036854775808 ≤ c ∧ c ≤ 9223372036854775807) (hd : -9223372036854775808 ≤ d ∧ d ≤ 9223372036854775807) :
    ∀ w', w' = ((w.alloc (.cells #[.int .i64 a, .int .i64 b] 2)).alloc (.cells #[.int .i64 c, .int .i64 d] 2)).alloc (.cells #[.slice (some ⟨w.heap.size, 0, none⟩) 2 2, .slice (some ⟨w.heap.size + 1, 0, none⟩) 2 2] 25) →
    (Ints w' (some ⟨w.heap.size, 0, none⟩) 2 2 [a, b] ∧ Ints w' (some ⟨w.heap.size + 1, 0, none⟩) 2 2 [c, d] ∧ Bx w' (w.heap.size + 1 + 1) (.slice (some ⟨w.heap.size, 0, none⟩) 2 2) (.slice (some ⟨w.heap.size + 1, 0, none⟩) 2 2)) ∧ Below w.heap.size w w' := by
  rintro w' rfl
  obtain ⟨h1, h2, h3, h4⟩ := lits w a b c d ha hb hc hd _ rfl
  generalize (w.alloc (.cells #[.int .i64 a, .int .i64 b] 2)).alloc (.cells #[.int .i64 c, .int .i64 d] 2) = w1 at *
  have b1 : Below w1.heap.size w1 (w1.alloc (.cells #[.slice (some ⟨w.heap.size, 0, none⟩) 2 2, .slice (some ⟨w.heap.size + 1, 0, none⟩) 2 2] 25)) := (Below.refl _ _).alloc (Nat.le_refl _) _
  have h5 := Bx.fresh w1 (.slice (some ⟨w.heap.size, 0, none⟩) 2 2) (.slice (some ⟨w.heap.size + 1, 0, none⟩) 2 2)
  rw [h4] at h5
  exact ⟨⟨h1.later b1, h2.later b1, h5⟩, h3.trans (b1.mono (by omega))⟩
/-- A box that lies boxed, and its corners. -/
structure BoxIn (w : World) (g : Nat) (p q : Option Addr) (n c m e : Nat) (R S : List Int) : Prop where
  bx : Bx w g (.slice p n c) (.slice q m e)
  i1 : Ints w p n c R
  i2 : Ints w q m e S
theorem BoxIn.later {w w' : World} {g : Nat} {p q : Option Addr} {n c m e : Nat} {R S : List Int} (h : BoxIn w g p q n c m e R S) (hb : Below w.heap.size w w') : BoxIn w' g p q n c m e R S := ⟨h.bx.later hb, h.i1.later hb, h.i2.later hb⟩
theorem ex_meets : meetsB [1, 2] [3, 4] [0, 3] [2, 9] 2 2 2 2 = true := by decide +kernel
theorem ex_pair : pairB [1, 2] [3, 4] [0, 3] [2, 9] 2 2 2 2 = true := by decide +kernel
theorem ex_cut1 : part (fun i => max (([1, 2] : List Int).getD i 0) (([0, 3] : List Int).getD i 0)) 2 2 = [1, 3] := by decide +kernel
theorem ex_cut2 : part (fun i => min (([3, 4] : List Int).getD i 0) (([2, 9] : List Int).getD i 0)) 2 2 = [2, 4] := by decide +kernel
theorem ex_hull1 : part (fun i => min (([1, 2] : List Int).getD i 0) (([0, 3] : List Int).getD i 0)) 2 2 = [0, 2] := by decide +kernel
theorem ex_hull2 : part (fun i => max (([3, 4] : List Int).getD i 0) (([2, 9] : List Int).getD i 0)) 2 2 = [3, 9] := by decide +kernel
theorem ex_key : dV (keyI 3 0 [0] [7, -3] 1 2) = .agg #[.int .u64 0, .int .u64 3] := by rw [show keyI 3 0 [0] [7, -3] 1 2 = 3 by decide +kernel]; rfl
theorem ex_keyerr : errOf (decide (ordP 3 0 1 ((2 : Nat) : Int))) = 0 := by decide +kernel
theorem ex_ahead : decide (aheadP 2 1 [] [1, 9] [2, 5] 0 2 2) = true := by decide +kernel
theorem nil_ints (w : World) : Ints w none 0 0 [] := ⟨rfl, Nat.le_refl _, fun x hx => by simp at hx, Or.inl rfl⟩
theorem ex_same1 : decide (([1, 3] : List Int) = [1, 3] ∧ ([2, 4] : List Int) = [2, 4]) = true := by decide +kernel
theorem ex_same2 : decide (([0, 2] : List Int) = [0, 2] ∧ ([3, 9] : List Int) = [3, 9]) = true := by decide +kernel
theorem lit1 (w : World) (a : Int) (ha : -9223372036854775808 ≤ a ∧ a ≤ 9223372036854775807) : Ints (w.alloc (.cells #[.int .i64 a] 2)) (some ⟨w.heap.size, 0, none⟩) 1 1 [a] :=
  ⟨rfl, Nat.le_refl _, fun x hx => by simp at hx; rw [hx]; exact ha, Or.inr ⟨_, _, rfl, fun i hi => by
    match i, hi with
    | 0, _ => exact cell_of_row _ _ 0 _ _ (0, 0) (heap_alloc_new w _)⟩⟩
theorem lit12 (w : World) (a b c : Int) (ha : -9223372036854775808 ≤ a ∧ a ≤ 9223372036854775807) (hb : -9223372036854775808 ≤ b ∧ b ≤ 9223372036854775807) (hc : -9223372036854775808 ≤ c ∧ c ≤ 9223372036854775807) :
    ∀ w', w' = (w.alloc (.cells #[.int .i64 a] 2)).alloc (.cells #[.int .i64 b, .int .i64 c] 2) →
    Ints w' (some ⟨w.heap.size, 0, none⟩) 1 1 [a] ∧ Ints w' (some ⟨w.heap.size + 1, 0, none⟩) 2 2 [b, c] ∧ Below w.heap.size w w' := by
  rintro w' rfl
  have h1 := lit1 w a ha
  have hs : (w.alloc (.cells #[.int .i64 a] 2)).heap.size = w.heap.size + 1 := by simp
  have b1 : Below w.heap.size w (w.alloc (.cells #[.int .i64 a] 2)) := (Below.refl _ _).alloc (Nat.le_refl _) _
  generalize w.alloc (.cells #[.int .i64 a] 2) = w1 at *
  have h2 := lit2 w1 b c hb hc
  have b2 : Below w1.heap.size w1 (w1.alloc (.cells #[.int .i64 b, .int .i64 c] 2)) := (Below.refl _ _).alloc (Nat.le_refl _) _
  rw [hs] at h2
  exact ⟨h1.later b2, h2, b1.trans (b2.mono (by omega))⟩
set_option maxRecDepth 100000 in
set_option maxHeartbeats 4000000 in
theorem alive4_any (w : World) :
    Calls Try.prog 8 #[] w fun e w' => e = .returned (.bool true) ∧ Below w.heap.size w w' := by
  go_enter Try.func8, Try.ntmps8
  go_upto_region 2 with fail
  obtain ⟨w1, hw1⟩ : ∃ w1, w1 = ((w.alloc (.cells #[.int .i64 1, .int .i64 2] 2)).alloc (.cells #[.int .i64 3, .int .i64 4] 2)).alloc (.cells #[.slice (some ⟨w.heap.size, 0, none⟩) 2 2, .slice (some ⟨w.heap.size + 1, 0, none⟩) 2 2] 25) := ⟨_, rfl⟩
  obtain ⟨h1, B1⟩ := litbox w 1 2 3 4 (by omega) (by omega) (by omega) (by omega) w1 hw1
  rw [← hw1]
  clear hw1
  have HA := Lib.hid (show BoxIn w1 (w.heap.size + 1 + 1) _ _ 2 2 2 2 [1, 2] [3, 4] from ⟨h1.2.2, h1.1, h1.2.1⟩)
  clear h1
  go_upto_region 3 with fail
  obtain ⟨w2, hw2⟩ : ∃ w2, w2 = ((w1.alloc (.cells #[.int .i64 0, .int .i64 3] 2)).alloc (.cells #[.int .i64 2, .int .i64 9] 2)).alloc (.cells #[.slice (some ⟨w1.heap.size, 0, none⟩) 2 2, .slice (some ⟨w1.heap.size + 1, 0, none⟩) 2 2] 25) := ⟨_, rfl⟩
  obtain ⟨h2, B2⟩ := litbox w1 0 3 2 9 (by omega) (by omega) (by omega) (by omega) w2 hw2
  rw [← hw2]
  clear hw2
  have HA2 := Lib.hid (HA.out.later B2)
  have HB2 := Lib.hid (show BoxIn w2 (w1.heap.size + 1 + 1) _ _ 2 2 2 2 [0, 3] [2, 9] from ⟨h2.2.2, h2.1, h2.2.1⟩)
  have BB := Lib.hid (B1.trans (B2.mono B1.size))
  clear h2 B1 B2 HA
  generalize w1.heap.size + 1 + 1 = gb at *
  generalize w1.heap.size + 1 = pb at *
  generalize w1.heap.size = qb at *
  clear w1
  obtain ⟨x0, x1, -, -⟩ := HA2.out.bx.facts
  obtain ⟨x2, x3, -, -⟩ := HB2.out.bx.facts
  have HC := Lib.hid (cut_any _ _ _ _ 2 2 2 2 2 2 2 2 _ _ _ _ w2 HA2.out.i1 HA2.out.i2 HB2.out.i1 HB2.out.i2)
  go_wp2_with fail
  refine HC.out.mono ?_
  intro e w3 hc
  unfold CutPost at hc
  rw [if_pos ex_meets] at hc
  obtain ⟨v, rfl, g1, g2, rfl, hc1, hc2, hb3⟩ := hc
  rw [ex_cut1] at hc1
  rw [ex_cut2] at hc2
  have B3 := Lib.hid (BB.out.trans (hb3.mono BB.out.size))
  have HA3 := Lib.hid (HA2.out.later hb3)
  have HB3 := Lib.hid (HB2.out.later hb3)
  have C1 := Lib.hid hc1
  have C2 := Lib.hid hc2
  clear hc1 hc2 hb3 BB HA2 HB2 HC x0 x1 x2 x3
  clear w2
  go_upto_region 4 with fail
  have b4 : Below w3.heap.size w3 (w3.alloc (.cells #[.slice (some ⟨g1, 0, none⟩) 2 2, .slice (some ⟨g2, 0, none⟩) 2 2] 25)) := (Below.refl _ _).alloc (Nat.le_refl _) _
  have hx := Bx.fresh w3 (.slice (some ⟨g1, 0, none⟩) 2 2) (.slice (some ⟨g2, 0, none⟩) 2 2)
  generalize w3.alloc (.cells #[.slice (some ⟨g1, 0, none⟩) 2 2, .slice (some ⟨g2, 0, none⟩) 2 2] 25) = w4 at *
  have B4 := Lib.hid (B3.out.trans (b4.mono B3.out.size))
  have HA4 := Lib.hid (HA3.out.later b4)
  have HB4 := Lib.hid (HB3.out.later b4)
  have HC4 := Lib.hid (show BoxIn w4 w3.heap.size _ _ 2 2 2 2 [1, 3] [2, 4] from ⟨hx, C1.out.later b4, C2.out.later b4⟩)
  clear b4 hx B3 HA3 HB3 C1 C2
  generalize w3.heap.size = gc at *
  clear w3
  have k5 := lit12 w4 0 7 (-3) (by omega) (by omega) (by omega) _ rfl
  have K5 := Lib.hid k5
  clear k5
  have HK := Lib.hid (key_any 3 0 _ _ 1 1 2 2 [0] [7, -3] _ K5.out.1 K5.out.2.1)
  rw [ex_key, ex_keyerr] at HK
  go_wp2_with ((go_at_call 15; (with_reducible refine HK.out.mono ?_)))
  rintro _ w5 ⟨rfl, hb5⟩
  have hb5' : Below w4.heap.size w4 w5 := K5.out.2.2.trans (hb5.mono K5.out.2.2.size)
  have B5 := Lib.hid (B4.out.trans (hb5'.mono B4.out.size))
  have HA5 := Lib.hid (HA4.out.later hb5')
  have HB5 := Lib.hid (HB4.out.later hb5')
  have HC5 := Lib.hid (HC4.out.later hb5')
  clear hb5 hb5' K5 HK B4 HA4 HB4 HC4
  generalize w4.heap.size + 1 = pk at *
  generalize w4.heap.size = qk at *
  clear w4
  go_upto_region 5 with fail
  have b6 : Below w5.heap.size w5 (w5.alloc (.cells #[.int .u64 0, .int .u64 3] 37)) := (Below.refl _ _).alloc (Nat.le_refl _) _
  have t6 := two_fresh w5 (.int .u64 0) (.int .u64 3)
  generalize w5.alloc (.cells #[.int .u64 0, .int .u64 3] 37) = w6 at *
  have B6 := Lib.hid (B5.out.trans (b6.mono B5.out.size))
  have HA6 := Lib.hid (HA5.out.later b6)
  have HB6 := Lib.hid (HB5.out.later b6)
  have HC6 := Lib.hid (HC5.out.later b6)
  have T6 := Lib.hid t6
  clear b6 t6 B5 HA5 HB5 HC5
  generalize w5.heap.size = gk at *
  clear w5
  obtain ⟨x0, x1, -, -⟩ := HC6.out.bx.facts
  have L7 := Lib.hid (lits w6 1 3 2 4 (by omega) (by omega) (by omega) (by omega) _ rfl)
  have H7 := Lib.hid (refsame_any _ _ _ _ 2 2 2 2 2 2 2 2 [1, 3] [2, 4] [1, 3] [2, 4] _ (HC6.out.i1.later L7.out.2.2.1) (HC6.out.i2.later L7.out.2.2.1) L7.out.1 L7.out.2.1 (by omega) (by omega))
  rw [ex_same1] at H7
  go_wp2_with ((go_at_call 28; (with_reducible refine H7.out.mono ?_)))
  rintro _ w7 ⟨rfl, hb7⟩
  have hb7' : Below w6.heap.size w6 w7 := L7.out.2.2.1.trans (hb7.mono L7.out.2.2.1.size)
  have B7 := Lib.hid (B6.out.trans (hb7'.mono B6.out.size))
  have HA7 := Lib.hid (HA6.out.later hb7')
  have HB7 := Lib.hid (HB6.out.later hb7')
  have T7 := Lib.hid (T6.out.later hb7' T6.out.lt)
  clear hb7 hb7' L7 H7 B6 HA6 HB6 HC6 T6 x0 x1
  generalize w6.heap.size + 1 = pr at *
  generalize w6.heap.size = qr at *
  clear w6
  obtain ⟨x0, x1, -, -⟩ := HA7.out.bx.facts
  obtain ⟨x2, x3, -, -⟩ := HB7.out.bx.facts
  have H8 := Lib.hid (hull_right _ _ _ _ 2 2 2 2 2 2 2 2 _ _ _ _ w7 HA7.out.i1 HA7.out.i2 HB7.out.i1 HB7.out.i2 ex_pair)
  go_wp2_with ((go_at_call 29; (with_reducible refine H8.out.mono ?_)))
  rintro _ w8 ⟨v, rfl, g3, g4, rfl, hh1, hh2, hb8⟩
  rw [ex_hull1] at hh1
  rw [ex_hull2] at hh2
  have B8 := Lib.hid (B7.out.trans (hb8.mono B7.out.size))
  have T8 := Lib.hid (T7.out.later hb8 T7.out.lt)
  have U1 := Lib.hid hh1
  have U2 := Lib.hid hh2
  clear hh1 hh2 hb8 H8 x0 x1 x2 x3 HA7 HB7 B7 T7
  clear w7
  have L9 := Lib.hid (lits w8 0 2 3 9 (by omega) (by omega) (by omega) (by omega) _ rfl)
  have H9 := Lib.hid (refsame_any _ _ _ _ 2 2 2 2 2 2 2 2 [0, 2] [3, 9] [0, 2] [3, 9] _ (U1.out.later L9.out.2.2.1) (U2.out.later L9.out.2.2.1) L9.out.1 L9.out.2.1 (by omega) (by omega))
  rw [ex_same2] at H9
  go_wp2_with ((go_at_call 28; (with_reducible refine H9.out.mono ?_)))
  rintro _ w9 ⟨rfl, hb9⟩
  have hb9' : Below w8.heap.size w8 w9 := L9.out.2.2.1.trans (hb9.mono L9.out.2.2.1.size)
  have B9 := Lib.hid (B8.out.trans (hb9'.mono B8.out.size))
  have T9 := Lib.hid (T8.out.later hb9' T8.out.lt)
  clear hb9 hb9' L9 H9 B8 T8 U1 U2
  generalize w8.heap.size + 1 = ps at *
  generalize w8.heap.size = qs at *
  clear w8
  obtain ⟨x0, x1, -, -⟩ := T9.out.facts
  have q := dist_eql 0 3 0 3
  simp only [and_self, decide_true] at q
  have LA := Lib.hid (lits w9 1 9 2 5 (by omega) (by omega) (by omega) (by omega) _ rfl)
  have HH := Lib.hid (ahead_any 2 1 none _ _ 0 0 2 2 2 2 [] [1, 9] [2, 5] _ (nil_ints _) LA.out.1 LA.out.2.1)
  rw [ex_ahead] at HH
  go_wp2_with ((go_at_call 19; (with_reducible refine HH.out.mono ?_)))
  rintro _ w10 ⟨rfl, hb10⟩
  have B10 := Lib.hid (B9.out.trans ((LA.out.2.2.1.trans (hb10.mono LA.out.2.2.1.size)).mono B9.out.size))
  clear hb10 q
  go_wp2_with fail
  go_ret
  exact ⟨rfl, B10.out⟩
end Go.Proofs.Ytddeomdmccnfbaa

/- BoxKeys, walked. -/
namespace Go.Proofs.Ytddeomdmccnfbaa
open Go.RowKit

theorem ord_cells {w w' : World} {B : Nat} {a b c : Value} (hb : Below w.heap.size w w') (hB : B < w.heap.size) (h : w.cell? ⟨B, 0, none⟩ = some a ∧ w.cell? ⟨B, 1, none⟩ = some b ∧ w.cell? ⟨B, 2, none⟩ = some c) :
    w'.cell? ⟨B, 0, none⟩ = some a ∧ w'.cell? ⟨B, 1, none⟩ = some b ∧ w'.cell? ⟨B, 2, none⟩ = some c :=
  ⟨(hb.cell (p := ⟨B, 0, none⟩) hB).trans h.1, (hb.cell (p := ⟨B, 1, none⟩) hB).trans h.2.1, (hb.cell (p := ⟨B, 2, none⟩) hB).trans h.2.2⟩
/-- An order that lies boxed, and its point. -/
structure OrdIn (w0 w : World) (B : Nat) (kd cl : Int) (q : Option Addr) (an ac : Nat) (A : List Int) : Prop where
  cells : w.cell? ⟨B, 0, none⟩ = some (.int .u8 kd) ∧ w.cell? ⟨B, 1, none⟩ = some (.int .i64 cl) ∧ w.cell? ⟨B, 2, none⟩ = some (.slice q an ac)
  lt : B < w.heap.size
  i : Ints w q an ac A
  below : Below w0.heap.size w0 w
theorem OrdIn.later {w0 w w' : World} {B : Nat} {kd cl : Int} {q : Option Addr} {an ac : Nat} {A : List Int} (h : OrdIn w0 w B kd cl q an ac A) (hb : Below w.heap.size w w') : OrdIn w0 w' B kd cl q an ac A :=
  ⟨ord_cells hb h.lt h.cells, Nat.lt_of_lt_of_le h.lt hb.size, h.i.later hb, h.below.trans (hb.mono h.below.size)⟩
theorem ord_in {w : World} {kd cl : Int} {q : Option Addr} {an ac : Nat} {A : List Int} (h : Ints w q an ac A) : OrdIn w (w.alloc (.cells #[.int .u8 kd, .int .i64 cl, .slice q an ac] 34)) w.heap.size kd cl q an ac A := by
  have hb : Below w.heap.size w (w.alloc (.cells #[.int .u8 kd, .int .i64 cl, .slice q an ac] 34)) := (Below.refl _ _).alloc (Nat.le_refl _) _
  exact ⟨three_alloc w _ _ _ _, by simp, h.later hb, hb⟩
set_option maxRecDepth 100000 in
set_option maxHeartbeats 4000000 in
theorem bkeys_any (kd cl : Int) (q p r : Option Addr) (an ac n c m e : Nat) (A P Q : List Int) (d : Int) (w : World) (hA : Ints w q an ac A) (hP : Ints w p n c P) (hQ : Ints w r m e Q) :
    Calls Try.prog 4 #[.agg #[.int .u8 kd, .int .i64 cl, .slice q an ac], .slice p n c, .slice r m e, .int .i64 d] w fun e w' => e = .returned (.bool true) ∧ Below w.heap.size w w' := by
  obtain ⟨w1, hw1⟩ : ∃ w1, w1 = w.alloc (.cells #[.int .u8 kd, .int .i64 cl, .slice q an ac] 34) := ⟨_, rfl⟩
  have ho := ord_in (kd := kd) (cl := cl) hA
  go_enter Try.func4, Try.ntmps4
  go_upto_region 1 with fail
  rw [← hw1] at ho ⊢
  clear hw1
  have O1 := Lib.hid ho
  have P1 := Lib.hid (hP.later ho.below)
  have Q1 := Lib.hid (hQ.later ho.below)
  clear ho hA hP hQ
  have HL := Lib.hid (alive4_any w1)
  go_wp2_with ((go_at_call 8; (with_reducible refine HL.out.mono ?_)))
  rintro _ w2 ⟨rfl, hb2⟩
  have O2 := Lib.hid (O1.out.later hb2)
  have P2 := Lib.hid (P1.out.later hb2)
  have Q2 := Lib.hid (Q1.out.later hb2)
  clear hb2 O1 P1 Q1 HL
  clear w1
  obtain ⟨x0, x1, x2⟩ := O2.out.cells
  obtain ⟨hi, lo, hd⟩ := dV_two (keyI kd cl A P an n)
  have hk := key_any kd cl q p an ac n c A P w2 O2.out.i P2.out
  rw [hd] at hk
  have HK := Lib.hid hk
  have HD := Lib.hid hd
  clear hk hd
  go_wp2_with ((go_at_call 15; (with_reducible refine HK.out.mono ?_)))
  rintro _ w3 ⟨rfl, hb3⟩
  have O3 := Lib.hid (O2.out.later hb3)
  have P3 := Lib.hid (P2.out.later hb3)
  have Q3 := Lib.hid (Q2.out.later hb3)
  clear hb3 O2 P2 Q2 HK x0 x1 x2
  clear w2
  go_upto_region 4 with fail
  have b4 : Below w3.heap.size w3 (w3.alloc (.cells #[.int .u64 hi, .int .u64 lo] 37)) := (Below.refl _ _).alloc (Nat.le_refl _) _
  have T4 := Lib.hid (two_fresh w3 (.int .u64 hi) (.int .u64 lo))
  generalize w3.alloc (.cells #[.int .u64 hi, .int .u64 lo] 37) = w4 at *
  have O4 := Lib.hid (O3.out.later b4)
  have P4 := Lib.hid (P3.out.later b4)
  have Q4 := Lib.hid (Q3.out.later b4)
  clear b4 O3 P3 Q3
  generalize w3.heap.size = g1 at *
  clear w3
  obtain ⟨x0, x1, x2⟩ := O4.out.cells
  have hk := refkey_any kd cl q p an ac n c A P w4 O4.out.i P4.out
  rw [HD.out] at hk
  have HK := Lib.hid hk
  clear hk
  go_wp2_with ((go_at_call 16; (with_reducible refine HK.out.mono ?_)))
  rintro _ w5 ⟨rfl, hb5⟩
  have O5 := Lib.hid (O4.out.later hb5)
  have P5 := Lib.hid (P4.out.later hb5)
  have Q5 := Lib.hid (Q4.out.later hb5)
  have T5 := Lib.hid (T4.out.later hb5 T4.out.lt)
  clear hb5 O4 P4 Q4 T4 HK x0 x1 x2 HD
  clear w4
  go_upto_region 5 with fail
  have b6 : Below w5.heap.size w5 (w5.alloc (.cells #[.int .u64 hi, .int .u64 lo] 37)) := (Below.refl _ _).alloc (Nat.le_refl _) _
  have U6 := Lib.hid (two_fresh w5 (.int .u64 hi) (.int .u64 lo))
  generalize w5.alloc (.cells #[.int .u64 hi, .int .u64 lo] 37) = w6 at *
  have O6 := Lib.hid (O5.out.later b6)
  have P6 := Lib.hid (P5.out.later b6)
  have Q6 := Lib.hid (Q5.out.later b6)
  have T6 := Lib.hid (T5.out.later b6 T5.out.lt)
  clear b6 O5 P5 Q5 T5
  generalize w5.heap.size = g2 at *
  clear w5
  obtain ⟨bo, hbo⟩ : ∃ b, b = decide (ordP kd cl an d) := ⟨_, rfl⟩
  obtain ⟨ba, hba⟩ : ∃ b, b = decide (aheadP kd cl A P Q an n m) := ⟨_, rfl⟩
  have h1 := fun w' => ordright_any kd cl d q an ac w'
  have h2 := fun w' => refordright_any kd cl d q an ac w'
  have h3 := fun w' (hb : Below w6.heap.size w6 w') => ahead_any kd cl q p r an ac n c m e A P Q w' (O6.out.i.later hb) (P6.out.later hb) (Q6.out.later hb)
  have h4 := fun w' (hb : Below w6.heap.size w6 w') => refahead_any kd cl q p r an ac n c m e A P Q w' (O6.out.i.later hb) (P6.out.later hb) (Q6.out.later hb)
  rw [← hbo] at h1 h2
  rw [← hba] at h3 h4
  have H1 := Lib.hid (show ∀ w', Below w6.heap.size w6 w' → Calls Try.prog 17 #[.agg #[.int .u8 kd, .int .i64 cl, .slice q an ac], .int .i64 d] w' fun e w'' => e = .returned (.bool bo) ∧ Below w6.heap.size w6 w'' from fun w' hb => (h1 w').mono fun e w'' h => ⟨h.1, hb.trans (h.2.mono hb.size)⟩)
  have H2 := Lib.hid (show ∀ w', Below w6.heap.size w6 w' → Calls Try.prog 18 #[.agg #[.int .u8 kd, .int .i64 cl, .slice q an ac], .int .i64 d] w' fun e w'' => e = .returned (.bool bo) ∧ Below w6.heap.size w6 w'' from fun w' hb => (h2 w').mono fun e w'' h => ⟨h.1, hb.trans (h.2.mono hb.size)⟩)
  have H3 := Lib.hid (show ∀ w', Below w6.heap.size w6 w' → Calls Try.prog 19 #[.agg #[.int .u8 kd, .int .i64 cl, .slice q an ac], .slice p n c, .slice r m e] w' fun e w'' => e = .returned (.bool ba) ∧ Below w6.heap.size w6 w'' from fun w' hb => (h3 w' hb).mono fun e w'' h => ⟨h.1, hb.trans (h.2.mono hb.size)⟩)
  have H4 := Lib.hid (show ∀ w', Below w6.heap.size w6 w' → Calls Try.prog 20 #[.agg #[.int .u8 kd, .int .i64 cl, .slice q an ac], .slice p n c, .slice r m e] w' fun e w'' => e = .returned (.bool ba) ∧ Below w6.heap.size w6 w'' from fun w' hb => (h4 w' hb).mono fun e w'' h => ⟨h.1, hb.trans (h.2.mono hb.size)⟩)
  clear h1 h2 h3 h4 hbo hba
  have HF := Lib.hid (show ∀ w', Below w6.heap.size w6 w' → (Below w6.heap.size w6 w' ∧ w'.cell? ⟨w.heap.size, 0, none⟩ = some (.int .u8 kd) ∧ w'.cell? ⟨w.heap.size, 1, none⟩ = some (.int .i64 cl) ∧ w'.cell? ⟨w.heap.size, 2, none⟩ = some (.slice q an ac) ∧ w'.cell? ⟨g1, 0, none⟩ = some (.int .u64 hi) ∧ w'.cell? ⟨g1, 1, none⟩ = some (.int .u64 lo) ∧ w'.cell? ⟨g2, 0, none⟩ = some (.int .u64 hi) ∧ w'.cell? ⟨g2, 1, none⟩ = some (.int .u64 lo)) from fun w' hb =>
    have t := T6.out.later hb T6.out.lt
    have u := U6.out.later hb U6.out.lt
    ⟨hb, (O6.out.later hb).cells.1, (O6.out.later hb).cells.2.1, (O6.out.later hb).cells.2.2, t.facts.1, t.facts.2.1, u.facts.1, u.facts.2.1⟩)
  have e1 : (bo == bo) = true := by simp
  have e2 : (ba == ba) = true := by simp
  have eq := dist_eql hi lo hi lo
  simp only [and_self, decide_true] at eq
  obtain ⟨-, x0, x1, x2, y0, y1, y2, y3⟩ := HF.out _ (Below.refl _ _)
  cases hbk : decide (ordP kd cl an n) with
  | true =>
    rw [show errOf true = 0 from rfl]
    clear hbk
    refine wp_region_held_drew (S := (fun w' => Below w6.heap.size w6 w' ∧ w'.cell? ⟨w.heap.size, 0, none⟩ = some (.int .u8 kd) ∧ w'.cell? ⟨w.heap.size, 1, none⟩ = some (.int .i64 cl) ∧ w'.cell? ⟨w.heap.size, 2, none⟩ = some (.slice q an ac) ∧ w'.cell? ⟨g1, 0, none⟩ = some (.int .u64 hi) ∧ w'.cell? ⟨g1, 1, none⟩ = some (.int .u64 lo) ∧ w'.cell? ⟨g2, 0, none⟩ = some (.int .u64 hi) ∧ w'.cell? ⟨g2, 1, none⟩ = some (.int .u64 lo))) (by kernel_rfl) (HF.out _ (Below.drew (Below.refl _ _))) (fun hHeld => ?_)
    have hb6 := hHeld.1
    refine wpAnyH_take (i := 0) (oi := ⟨some 27, .load 34 (.tmp 4), _, _, _, _⟩) (v := ?_) rfl (by kernel_rfl) (by kernel_rfl) (by kernel_rfl) (fun _ _ _ h => h) (Or.inl ⟨by rfl, ?_⟩) (by assumption) ?_
    rotate_left
    · intro w' hSw
      (try dsimp only at hSw)
      go_simp
      try with_reducible rfl
    try simp only [Act.put, List.setIfInBounds_toArray, List.set_cons_zero, List.set_cons_succ]
    refine wpAnyH_take (i := 1) (oi := ⟨some 28, .move (.tmp 3), _, _, _, _⟩) (v := ?_) rfl (by kernel_rfl) (by kernel_rfl) (by kernel_rfl) (fun _ _ _ h => h) (Or.inl ⟨by rfl, ?_⟩) (by assumption) ?_
    rotate_left
    · intro w' hSw
      (try dsimp only at hSw)
      go_simp
      try with_reducible rfl
    try simp only [Act.put, List.setIfInBounds_toArray, List.set_cons_zero, List.set_cons_succ]
    refine wpAnyH_take (i := 3) (oi := ⟨some 30, .load 34 (.tmp 4), _, _, _, _⟩) (v := ?_) rfl (by kernel_rfl) (by kernel_rfl) (by kernel_rfl) (fun _ _ _ h => h) (Or.inl ⟨by rfl, ?_⟩) (by assumption) ?_
    rotate_left
    · intro w' hSw
      (try dsimp only at hSw)
      go_simp
      try with_reducible rfl
    try simp only [Act.put, List.setIfInBounds_toArray, List.set_cons_zero, List.set_cons_succ]
    refine wpAnyH_take (i := 4) (oi := ⟨some 31, .move (.tmp 3), _, _, _, _⟩) (v := ?_) rfl (by kernel_rfl) (by kernel_rfl) (by kernel_rfl) (fun _ _ _ h => h) (Or.inl ⟨by rfl, ?_⟩) (by assumption) ?_
    rotate_left
    · intro w' hSw
      (try dsimp only at hSw)
      go_simp
      try with_reducible rfl
    try simp only [Act.put, List.setIfInBounds_toArray, List.set_cons_zero, List.set_cons_succ]
    refine wpAnyH_ready (rs := [2]) (by kernel_rfl) (by simp) ?_
    refine AllReadyH.cons (o := ⟨some 29, .call ⟨.value (.func 17), #[.tmp 27, .tmp 28], #[34, 3]⟩, _, _, _, _⟩) rfl (fun K hK => ?_) AllReadyH.nil
    go_simp
    refine (H1.out _ (by assumption)).mono ?_
    rintro _ w7 ⟨rfl, hb7⟩
    have hs7 := HF.out _ hb7
    try go_wp2_with fail
    refine hK.out _ _ hs7 (fun hHeld => ?_)
    clear hK K
    try simp only [Act.put, List.setIfInBounds_toArray, List.set_cons_zero, List.set_cons_succ]
    refine wpAnyH_ready (rs := [5]) (by kernel_rfl) (by simp) ?_
    refine AllReadyH.cons (o := ⟨some 32, .call ⟨.value (.func 18), #[.tmp 30, .tmp 31], #[34, 3]⟩, _, _, _, _⟩) rfl (fun K hK => ?_) AllReadyH.nil
    go_simp
    refine (H2.out _ (by assumption)).mono ?_
    rintro _ w8 ⟨rfl, hb8⟩
    have hs8 := HF.out _ hb8
    try go_wp2_with fail
    refine hK.out _ _ hs8 (fun hHeld => ?_)
    clear hK K
    try simp only [Act.put, List.setIfInBounds_toArray, List.set_cons_zero, List.set_cons_succ]
    refine wpAnyH_take (i := 6) (oi := ⟨some 33, .binOp .eql 4 (.tmp 29) (.tmp 32) 4, _, _, _, _⟩) (v := ?_) rfl (by kernel_rfl) (by kernel_rfl) (by kernel_rfl) (fun _ _ _ h => h) (Or.inl ⟨by rfl, ?_⟩) (by assumption) ?_
    rotate_left
    · intro w' hSw
      (try dsimp only at hSw)
      go_simp
      try with_reducible rfl
    try simp only [Act.put, List.setIfInBounds_toArray, List.set_cons_zero, List.set_cons_succ]
    refine wpAnyH_take (i := 7) (oi := ⟨some 34, .move (.tmp 33), _, _, _, _⟩) (v := ?_) rfl (by kernel_rfl) (by kernel_rfl) (by kernel_rfl) (fun _ _ _ h => h) (Or.inl ⟨by rfl, ?_⟩) (by assumption) ?_
    rotate_left
    · intro w' hSw
      (try dsimp only at hSw)
      go_simp
      try with_reducible rfl
    try simp only [Act.put, List.setIfInBounds_toArray, List.set_cons_zero, List.set_cons_succ]
    refine wpAnyH_take (i := 8) (oi := ⟨some 35, .load 37 (.tmp 9), _, _, _, _⟩) (v := ?_) rfl (by kernel_rfl) (by kernel_rfl) (by kernel_rfl) (fun _ _ _ h => h) (Or.inl ⟨by rfl, ?_⟩) (by assumption) ?_
    rotate_left
    · intro w' hSw
      (try dsimp only at hSw)
      go_simp
      try with_reducible rfl
    try simp only [Act.put, List.setIfInBounds_toArray, List.set_cons_zero, List.set_cons_succ]
    refine wpAnyH_take (i := 9) (oi := ⟨some 36, .load 37 (.tmp 11), _, _, _, _⟩) (v := ?_) rfl (by kernel_rfl) (by kernel_rfl) (by kernel_rfl) (fun _ _ _ h => h) (Or.inl ⟨by rfl, ?_⟩) (by assumption) ?_
    rotate_left
    · intro w' hSw
      (try dsimp only at hSw)
      go_simp
      try with_reducible rfl
    try simp only [Act.put, List.setIfInBounds_toArray, List.set_cons_zero, List.set_cons_succ]
    refine wpAnyH_take (i := 10) (oi := ⟨some 37, .binOp .eql 37 (.tmp 35) (.tmp 36) 37, _, _, _, _⟩) (v := ?_) rfl (by kernel_rfl) (by kernel_rfl) (by kernel_rfl) (fun _ _ _ h => h) (Or.inl ⟨by rfl, ?_⟩) (by assumption) ?_
    rotate_left
    · intro w' hSw
      (try dsimp only at hSw)
      go_simp
      try with_reducible rfl
    try simp only [Act.put, List.setIfInBounds_toArray, List.set_cons_zero, List.set_cons_succ]
    refine wpAnyH_take (i := 11) (oi := ⟨some 38, .pick (.tmp 34) (.tmp 37) (.const (.bool false)), _, _, _, _⟩) (v := ?_) rfl (by kernel_rfl) (by kernel_rfl) (by kernel_rfl) (fun _ _ _ h => h) (Or.inl ⟨by rfl, ?_⟩) (by assumption) ?_
    rotate_left
    · intro w' hSw
      (try dsimp only at hSw)
      go_simp
      try with_reducible rfl
    try simp only [Act.put, List.setIfInBounds_toArray, List.set_cons_zero, List.set_cons_succ]
    refine wpAnyH_take (i := 12) (oi := ⟨some 39, .move (.tmp 38), _, _, _, _⟩) (v := ?_) rfl (by kernel_rfl) (by kernel_rfl) (by kernel_rfl) (fun _ _ _ h => h) (Or.inl ⟨by rfl, ?_⟩) (by assumption) ?_
    rotate_left
    · intro w' hSw
      (try dsimp only at hSw)
      go_simp
      try with_reducible rfl
    try simp only [Act.put, List.setIfInBounds_toArray, List.set_cons_zero, List.set_cons_succ]
    refine wpAnyH_take (i := 13) (oi := ⟨some 40, .move (.tmp 10), _, _, _, _⟩) (v := ?_) rfl (by kernel_rfl) (by kernel_rfl) (by kernel_rfl) (fun _ _ _ h => h) (Or.inl ⟨by rfl, ?_⟩) (by assumption) ?_
    rotate_left
    · intro w' hSw
      (try dsimp only at hSw)
      go_simp
      try with_reducible rfl
    try simp only [Act.put, List.setIfInBounds_toArray, List.set_cons_zero, List.set_cons_succ]
    refine wpAnyH_take (i := 14) (oi := ⟨some 41, .binOp .eql 38 (.tmp 40) (.const (.int .i64 0)) 38, _, _, _, _⟩) (v := ?_) rfl (by kernel_rfl) (by kernel_rfl) (by kernel_rfl) (fun _ _ _ h => h) (Or.inl ⟨by rfl, ?_⟩) (by assumption) ?_
    rotate_left
    · intro w' hSw
      (try dsimp only at hSw)
      go_simp
      try with_reducible rfl
    try simp only [Act.put, List.setIfInBounds_toArray, List.set_cons_zero, List.set_cons_succ]
    refine wpAnyH_take (i := 15) (oi := ⟨some 42, .move (.tmp 12), _, _, _, _⟩) (v := ?_) rfl (by kernel_rfl) (by kernel_rfl) (by kernel_rfl) (fun _ _ _ h => h) (Or.inl ⟨by rfl, ?_⟩) (by assumption) ?_
    rotate_left
    · intro w' hSw
      (try dsimp only at hSw)
      go_simp
      try with_reducible rfl
    try simp only [Act.put, List.setIfInBounds_toArray, List.set_cons_zero, List.set_cons_succ]
    refine wpAnyH_take (i := 16) (oi := ⟨some 43, .binOp .eql 4 (.tmp 41) (.tmp 42) 4, _, _, _, _⟩) (v := ?_) rfl (by kernel_rfl) (by kernel_rfl) (by kernel_rfl) (fun _ _ _ h => h) (Or.inl ⟨by rfl, ?_⟩) (by assumption) ?_
    rotate_left
    · intro w' hSw
      (try dsimp only at hSw)
      go_simp
      try with_reducible rfl
    try simp only [Act.put, List.setIfInBounds_toArray, List.set_cons_zero, List.set_cons_succ]
    refine wpAnyH_take (i := 17) (oi := ⟨some 44, .pick (.tmp 39) (.tmp 43) (.const (.bool false)), _, _, _, _⟩) (v := ?_) rfl (by kernel_rfl) (by kernel_rfl) (by kernel_rfl) (fun _ _ _ h => h) (Or.inl ⟨by rfl, ?_⟩) (by assumption) ?_
    rotate_left
    · intro w' hSw
      (try dsimp only at hSw)
      go_simp
      try with_reducible rfl
    try simp only [Act.put, List.setIfInBounds_toArray, List.set_cons_zero, List.set_cons_succ]
    refine wpAnyH_take (i := 18) (oi := ⟨some 45, .move (.tmp 44), _, _, _, _⟩) (v := ?_) rfl (by kernel_rfl) (by kernel_rfl) (by kernel_rfl) (fun _ _ _ h => h) (Or.inl ⟨by rfl, ?_⟩) (by assumption) ?_
    rotate_left
    · intro w' hSw
      (try dsimp only at hSw)
      go_simp
      try with_reducible rfl
    try simp only [Act.put, List.setIfInBounds_toArray, List.set_cons_zero, List.set_cons_succ]
    refine wpAnyH_take (i := 19) (oi := ⟨some 46, .move (.tmp 10), _, _, _, _⟩) (v := ?_) rfl (by kernel_rfl) (by kernel_rfl) (by kernel_rfl) (fun _ _ _ h => h) (Or.inl ⟨by rfl, ?_⟩) (by assumption) ?_
    rotate_left
    · intro w' hSw
      (try dsimp only at hSw)
      go_simp
      try with_reducible rfl
    try simp only [Act.put, List.setIfInBounds_toArray, List.set_cons_zero, List.set_cons_succ]
    refine wpAnyH_take (i := 20) (oi := ⟨some 47, .binOp .eql 38 (.tmp 46) (.const (.int .i64 0)) 38, _, _, _, _⟩) (v := ?_) rfl (by kernel_rfl) (by kernel_rfl) (by kernel_rfl) (fun _ _ _ h => h) (Or.inl ⟨by rfl, ?_⟩) (by assumption) ?_
    rotate_left
    · intro w' hSw
      (try dsimp only at hSw)
      go_simp
      try with_reducible rfl
    try simp only [Act.put, List.setIfInBounds_toArray, List.set_cons_zero, List.set_cons_succ]
    refine wpAnyH_take (i := 21) (oi := ⟨some 48, .move (.tmp 47), _, _, _, _⟩) (v := ?_) rfl (by kernel_rfl) (by kernel_rfl) (by kernel_rfl) (fun _ _ _ h => h) (Or.inl ⟨by rfl, ?_⟩) (by assumption) ?_
    rotate_left
    · intro w' hSw
      (try dsimp only at hSw)
      go_simp
      try with_reducible rfl
    try simp only [Act.put, List.setIfInBounds_toArray, List.set_cons_zero, List.set_cons_succ]
    refine wpAnyH_take (i := 22) (oi := ⟨some 49, .move (.tmp 10), _, _, _, _⟩) (v := undef) rfl (by kernel_rfl) (by kernel_rfl) (by kernel_rfl) (fun _ _ _ h => h) (Or.inr ⟨by rfl, rfl⟩) (by assumption) ?_
    try simp only [Act.put, List.setIfInBounds_toArray, List.set_cons_zero, List.set_cons_succ]
    refine wpAnyH_take (i := 23) (oi := ⟨some 50, .binOp .eql 38 (.tmp 49) (.const (.int .i64 1)) 38, _, _, _, _⟩) (v := undef) rfl (by kernel_rfl) (by kernel_rfl) (by kernel_rfl) (fun _ _ _ h => h) (Or.inr ⟨by rfl, rfl⟩) (by assumption) ?_
    try simp only [Act.put, List.setIfInBounds_toArray, List.set_cons_zero, List.set_cons_succ]
    refine wpAnyH_take (i := 24) (oi := ⟨some 51, .pick (.tmp 48) (.const (.bool true)) (.tmp 50), _, _, _, _⟩) (v := ?_) rfl (by kernel_rfl) (by kernel_rfl) (by kernel_rfl) (fun _ _ _ h => h) (Or.inl ⟨by rfl, ?_⟩) (by assumption) ?_
    rotate_left
    · intro w' hSw
      (try dsimp only at hSw)
      go_simp
      try with_reducible rfl
    try simp only [Act.put, List.setIfInBounds_toArray, List.set_cons_zero, List.set_cons_succ]
    refine wpAnyH_take (i := 25) (oi := ⟨some 52, .pick (.tmp 45) (.tmp 51) (.const (.bool false)), _, _, _, _⟩) (v := ?_) rfl (by kernel_rfl) (by kernel_rfl) (by kernel_rfl) (fun _ _ _ h => h) (Or.inl ⟨by rfl, ?_⟩) (by assumption) ?_
    rotate_left
    · intro w' hSw
      (try dsimp only at hSw)
      go_simp
      try with_reducible rfl
    try simp only [Act.put, List.setIfInBounds_toArray, List.set_cons_zero, List.set_cons_succ]
    refine wpAnyH_take (i := 26) (oi := ⟨some 53, .move (.tmp 52), _, _, _, _⟩) (v := ?_) rfl (by kernel_rfl) (by kernel_rfl) (by kernel_rfl) (fun _ _ _ h => h) (Or.inl ⟨by rfl, ?_⟩) (by assumption) ?_
    rotate_left
    · intro w' hSw
      (try dsimp only at hSw)
      go_simp
      try with_reducible rfl
    try simp only [Act.put, List.setIfInBounds_toArray, List.set_cons_zero, List.set_cons_succ]
    refine wpAnyH_take (i := 27) (oi := ⟨some 54, .load 34 (.tmp 4), _, _, _, _⟩) (v := ?_) rfl (by kernel_rfl) (by kernel_rfl) (by kernel_rfl) (fun _ _ _ h => h) (Or.inl ⟨by rfl, ?_⟩) (by assumption) ?_
    rotate_left
    · intro w' hSw
      (try dsimp only at hSw)
      go_simp
      try with_reducible rfl
    try simp only [Act.put, List.setIfInBounds_toArray, List.set_cons_zero, List.set_cons_succ]
    refine wpAnyH_take (i := 28) (oi := ⟨some 55, .move (.tmp 1), _, _, _, _⟩) (v := ?_) rfl (by kernel_rfl) (by kernel_rfl) (by kernel_rfl) (fun _ _ _ h => h) (Or.inl ⟨by rfl, ?_⟩) (by assumption) ?_
    rotate_left
    · intro w' hSw
      (try dsimp only at hSw)
      go_simp
      try with_reducible rfl
    try simp only [Act.put, List.setIfInBounds_toArray, List.set_cons_zero, List.set_cons_succ]
    refine wpAnyH_take (i := 29) (oi := ⟨some 56, .move (.tmp 2), _, _, _, _⟩) (v := ?_) rfl (by kernel_rfl) (by kernel_rfl) (by kernel_rfl) (fun _ _ _ h => h) (Or.inl ⟨by rfl, ?_⟩) (by assumption) ?_
    rotate_left
    · intro w' hSw
      (try dsimp only at hSw)
      go_simp
      try with_reducible rfl
    try simp only [Act.put, List.setIfInBounds_toArray, List.set_cons_zero, List.set_cons_succ]
    refine wpAnyH_take (i := 31) (oi := ⟨some 58, .load 34 (.tmp 4), _, _, _, _⟩) (v := ?_) rfl (by kernel_rfl) (by kernel_rfl) (by kernel_rfl) (fun _ _ _ h => h) (Or.inl ⟨by rfl, ?_⟩) (by assumption) ?_
    rotate_left
    · intro w' hSw
      (try dsimp only at hSw)
      go_simp
      try with_reducible rfl
    try simp only [Act.put, List.setIfInBounds_toArray, List.set_cons_zero, List.set_cons_succ]
    refine wpAnyH_take (i := 32) (oi := ⟨some 59, .move (.tmp 1), _, _, _, _⟩) (v := ?_) rfl (by kernel_rfl) (by kernel_rfl) (by kernel_rfl) (fun _ _ _ h => h) (Or.inl ⟨by rfl, ?_⟩) (by assumption) ?_
    rotate_left
    · intro w' hSw
      (try dsimp only at hSw)
      go_simp
      try with_reducible rfl
    try simp only [Act.put, List.setIfInBounds_toArray, List.set_cons_zero, List.set_cons_succ]
    refine wpAnyH_take (i := 33) (oi := ⟨some 60, .move (.tmp 2), _, _, _, _⟩) (v := ?_) rfl (by kernel_rfl) (by kernel_rfl) (by kernel_rfl) (fun _ _ _ h => h) (Or.inl ⟨by rfl, ?_⟩) (by assumption) ?_
    rotate_left
    · intro w' hSw
      (try dsimp only at hSw)
      go_simp
      try with_reducible rfl
    try simp only [Act.put, List.setIfInBounds_toArray, List.set_cons_zero, List.set_cons_succ]
    refine wpAnyH_ready (rs := [30]) (by kernel_rfl) (by simp) ?_
    refine AllReadyH.cons (o := ⟨some 57, .call ⟨.value (.func 19), #[.tmp 54, .tmp 55, .tmp 56], #[34, 23, 23]⟩, _, _, _, _⟩) rfl (fun K hK => ?_) AllReadyH.nil
    go_simp
    refine (H3.out _ (by assumption)).mono ?_
    rintro _ w9 ⟨rfl, hb9⟩
    have hs9 := HF.out _ hb9
    try go_wp2_with fail
    refine hK.out _ _ hs9 (fun hHeld => ?_)
    clear hK K
    try simp only [Act.put, List.setIfInBounds_toArray, List.set_cons_zero, List.set_cons_succ]
    refine wpAnyH_ready (rs := [34]) (by kernel_rfl) (by simp) ?_
    refine AllReadyH.cons (o := ⟨some 61, .call ⟨.value (.func 20), #[.tmp 58, .tmp 59, .tmp 60], #[34, 23, 23]⟩, _, _, _, _⟩) rfl (fun K hK => ?_) AllReadyH.nil
    go_simp
    refine (H4.out _ (by assumption)).mono ?_
    rintro _ w10 ⟨rfl, hb10⟩
    have hs10 := HF.out _ hb10
    try go_wp2_with fail
    refine hK.out _ _ hs10 (fun hHeld => ?_)
    clear hK K
    try simp only [Act.put, List.setIfInBounds_toArray, List.set_cons_zero, List.set_cons_succ]
    refine wpAnyH_take (i := 35) (oi := ⟨some 62, .binOp .eql 4 (.tmp 57) (.tmp 61) 4, _, _, _, _⟩) (v := ?_) rfl (by kernel_rfl) (by kernel_rfl) (by kernel_rfl) (fun _ _ _ h => h) (Or.inl ⟨by rfl, ?_⟩) (by assumption) ?_
    rotate_left
    · intro w' hSw
      (try dsimp only at hSw)
      go_simp
      try with_reducible rfl
    try simp only [Act.put, List.setIfInBounds_toArray, List.set_cons_zero, List.set_cons_succ]
    refine wpAnyH_take (i := 36) (oi := ⟨some 63, .pick (.tmp 53) (.tmp 62) (.const (.bool false)), _, _, _, _⟩) (v := ?_) rfl (by kernel_rfl) (by kernel_rfl) (by kernel_rfl) (fun _ _ _ h => h) (Or.inl ⟨by rfl, ?_⟩) (by assumption) ?_
    rotate_left
    · intro w' hSw
      (try dsimp only at hSw)
      go_simp
      try with_reducible rfl
    try simp only [Act.put, List.setIfInBounds_toArray, List.set_cons_zero, List.set_cons_succ]
    refine wpAnyH_take (i := 37) (oi := ⟨some 8, .assign (.tmp 63), _, _, _, _⟩) (v := ?_) rfl (by kernel_rfl) (by kernel_rfl) (by kernel_rfl) (fun _ _ _ h => h) (Or.inl ⟨by rfl, ?_⟩) (by assumption) ?_
    rotate_left
    · intro w' hSw
      (try dsimp only at hSw)
      go_simp
      try with_reducible rfl
    try simp only [Act.put, List.setIfInBounds_toArray, List.set_cons_zero, List.set_cons_succ]
    refine wpAnyH_done (by kernel_rfl) ?_ _
    go_wp2_with fail
    go_ret
    exact ⟨rfl, O6.out.below.trans (Below.mono (by assumption) O6.out.below.size)⟩
  | false =>
    rw [show errOf false = 1 from rfl]
    clear hbk
    go_region_held3 (fun w' => Below w6.heap.size w6 w' ∧ w'.cell? ⟨w.heap.size, 0, none⟩ = some (.int .u8 kd) ∧ w'.cell? ⟨w.heap.size, 1, none⟩ = some (.int .i64 cl) ∧ w'.cell? ⟨w.heap.size, 2, none⟩ = some (.slice q an ac) ∧ w'.cell? ⟨g1, 0, none⟩ = some (.int .u64 hi) ∧ w'.cell? ⟨g1, 1, none⟩ = some (.int .u64 lo) ∧ w'.cell? ⟨g2, 0, none⟩ = some (.int .u64 hi) ∧ w'.cell? ⟨g2, 1, none⟩ = some (.int .u64 lo)) (first | assumption | exact HF.out _ (Below.drew (Below.refl _ _)) | exact HF.out _ (Below.refl _ _)) ((first
      | (go_at_call 17; (with_reducible refine (H1.out _ ?hx1).mono ?_); (case hx1 => first | assumption | exact (Below.refl _ _).drew | exact Below.refl _ _); rintro _ w7 ⟨rfl, hb7⟩; have k7 := HF.out _ hb7)
      | (go_at_call 18; (with_reducible refine (H2.out _ ?hx2).mono ?_); (case hx2 => first | assumption | exact (Below.refl _ _).drew | exact Below.refl _ _); rintro _ w8 ⟨rfl, hb8⟩; have k8 := HF.out _ hb8)
      | (go_at_call 19; (with_reducible refine (H3.out _ ?hx3).mono ?_); (case hx3 => first | assumption | exact (Below.refl _ _).drew | exact Below.refl _ _); rintro _ w9 ⟨rfl, hb9⟩; have k9 := HF.out _ hb9)
      | (go_at_call 20; (with_reducible refine (H4.out _ ?hx4).mono ?_); (case hx4 => first | assumption | exact (Below.refl _ _).drew | exact Below.refl _ _); rintro _ w10 ⟨rfl, hb10⟩; have k10 := HF.out _ hb10)))
    all_goals
      go_wp2_with fail
      go_ret
      refine ⟨rfl, O6.out.below.trans (Below.mono ?_ O6.out.below.size)⟩
      assumption
end Go.Proofs.Ytddeomdmccnfbaa
