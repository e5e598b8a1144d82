/- BoxLeast, walked. -/
import Derived.Test.YthmloljnpjolmaaBoxNear
import Derived.Deep.CutBlock
import Derived.BigRegion
import Derived.IntWalk
namespace Go.Proofs.Ythmloljnpjolmaa
open Go.RowKit

/-- What BoxLeast holds besides: its arguments and the box's least key. -/
structure LP (w0 w : World) (kd cl : Int) (q : Option Addr) (an ac : Nat) (A : List Int) (p r : Option Addr) (n c m e : Nat) (R S : List Int) (s : Option Addr) (l f : Nat) (P : List Int) (t : Option Addr) (k g : Nat) (Q : List Int) (g9 : Nat) (hi lo : Int) : Prop where
  ob : OB w0 w w0.heap.size (w0.heap.size + 1) kd cl q an ac A p r n c m e R S
  P : Ints w s l f P
  Q : Ints w t k g Q
  d : Two w g9 (.int .u64 hi) (.int .u64 lo)
theorem LP.later {w0 w w' : World} {kd cl : Int} {q : Option Addr} {an ac : Nat} {A : List Int} {p r : Option Addr} {n c m e : Nat} {R S : List Int} {s : Option Addr} {l f : Nat} {P : List Int} {t : Option Addr} {k g : Nat} {Q : List Int} {g9 : Nat} {hi lo : Int}
    (h : LP w0 w kd cl q an ac A p r n c m e R S s l f P t k g Q g9 hi lo) (hb : Below w.heap.size w w') : LP w0 w' kd cl q an ac A p r n c m e R S s l f P t k g Q g9 hi lo :=
  ⟨h.ob.later hb, h.P.later hb, h.Q.later hb, h.d.later hb h.d.lt⟩
/-- The nearest point under way. -/
def NearIn (w8 : World) (kd cl : Int) (A R S : List Int) (n k gn cn : Nat) (wx : World) : Prop :=
  ∃ N : List Int, OwnRow wx w8.heap.size gn n cn N ∧ w8.heap.size ≤ gn ∧ (∀ i, i < n → N.getD i 0 = nearK kd cl A R S k i) ∧ Below w8.heap.size w8 wx
theorem NearIn.set {w8 wx : World} {kd cl : Int} {A R S : List Int} {n k k' gn cn : Nat} (h : NearIn w8 kd cl A R S n k gn cn wx) (j : Nat) (hj : j < n) (x : Int) (hx : ∀ i, i < n → (if i = j then x else nearK kd cl A R S k i) = nearK kd cl A R S k' i) :
    NearIn w8 kd cl A R S n k' gn cn (wx.setCell ⟨gn, j, none⟩ (.int .i64 x)) := by
  obtain ⟨N, h1, h2, h3, h4⟩ := h
  refine ⟨N.set j x, h1.set j x, h2, fun i hi => ?_, h4.setCell (p := ⟨gn, j, none⟩) h2 _⟩
  rw [set_getD _ _ _ _ (by rw [← h1.length]; exact hj), ← hx i hi]
  split
  · rfl
  · exact h3 i hi
theorem NearIn.cell {w8 wx : World} {kd cl : Int} {A R S : List Int} {n k gn cn : Nat} (h : NearIn w8 kd cl A R S n k gn cn wx) (j : Nat) (hj : j < n) : (∃ y : Int, wx.cell? ⟨gn, j, none⟩ = some (.int .i64 y)) ∧ wx.frozen? ⟨gn, j, none⟩ = false := by
  obtain ⟨N, h1, h2, h3, h4⟩ := h
  have hl := h1.length
  refine ⟨⟨N.getD j 0, ?_⟩, World.ownsRow.frozenAt h1 j⟩
  rw [World.ownsRow.cellAt h1 j (by omega), ivs_get N j (by omega)]
theorem NearIn.drew {w8 wx : World} {kd cl : Int} {A R S : List Int} {n k gn cn : Nat} (h : NearIn w8 kd cl A R S n k gn cn wx) : NearIn w8 kd cl A R S n k gn cn wx.drew := by
  obtain ⟨N, h1, h2, h3, h4⟩ := h
  exact ⟨N, h1.later (Below.refl _ _).drew, h2, h3, h4.drew⟩
theorem NearIn.low {w8 wx : World} {kd cl : Int} {A R S : List Int} {n k gn cn : Nat} (h : NearIn w8 kd cl A R S n k gn cn wx) : Below w8.heap.size w8 wx := by
  obtain ⟨N, h1, h2, h3, h4⟩ := h
  exact h4
theorem near_start {kd cl : Int} {A R S : List Int} (h : ¬ kd = 2) (i : Nat) : R.getD i 0 = nearK kd cl A R S 1 i := by
  unfold nearK nearAt
  by_cases h3 : kd = 3
  · rw [if_pos h3]
    by_cases hi : i < 1
    · rw [if_pos hi, if_neg h, if_pos h3, if_pos (by omega)]
      obtain rfl : i = 0 := by omega
      rfl
    · rw [if_neg hi]
  · rw [if_neg h3, if_neg h, if_neg h3]
theorem near_two {A R S : List Int} {j : Nat} (hj : j < R.length) (i : Nat) : (R.set j (S.getD j 0)).getD i 0 = nearK 2 j A R S 1 i := by
  rw [set_getD _ _ _ _ hj]
  unfold nearK nearAt
  rw [if_neg (show ¬ (2 : Int) = 3 by omega), if_pos rfl]
  by_cases h : i = j
  · rw [if_pos h, if_pos (by omega), h]
  · rw [if_neg h, if_neg (by omega)]
def NearLoop (w8 : World) (kd cl : Int) (A R S : List Int) (n gn cn : Nat) (i : Value) (wr : World) : Prop :=
  ∃ j : Nat, j + 1 ≤ n ∧ i = .int .i64 ((j : Int) + 1) ∧ NearIn w8 kd cl A R S n (j + 1) gn cn wr
theorem NearIn.other {w8 wx : World} {kd cl : Int} {A R S : List Int} {n k k' gn cn : Nat} (h : NearIn w8 kd cl A R S n k gn cn wx) (h3 : ¬ kd = 3) : NearIn w8 kd cl A R S n k' gn cn wx := by
  obtain ⟨N, h1, h2, h4, h5⟩ := h
  refine ⟨N, h1, h2, fun i hi => ?_, h5⟩
  rw [h4 i hi]
  unfold nearK
  rw [if_neg h3, if_neg h3]
theorem near_step {cl : Int} {A R S : List Int} {j : Nat} {x : Int} (hx : x = min (max (A.getD j 0) (R.getD (j + 1) 0)) (S.getD (j + 1) 0)) (i : Nat) : (if i = j + 1 then x else nearK 3 cl A R S (j + 1) i) = nearK 3 cl A R S (j + 1 + 1) i := by
  unfold nearK
  rw [if_pos rfl, if_pos rfl]
  by_cases h : i = j + 1
  · subst h
    rw [if_pos rfl, if_pos (by omega), hx]
    unfold nearAt
    rw [if_neg (by omega), if_pos rfl, if_neg (by omega), Nat.add_sub_cancel]
  · rw [if_neg h]
    by_cases h2 : i < j + 1
    · rw [if_pos h2, if_pos (by omega)]
    · rw [if_neg h2, if_neg (by omega)]
theorem NearIn.ints {w8 wx : World} {kd cl : Int} {A R S : List Int} {n gn cn : Nat} (h : NearIn w8 kd cl A R S n n gn cn wx) (hA : ∀ x ∈ A, -9223372036854775808 ≤ x ∧ x ≤ 9223372036854775807) (hR : ∀ x ∈ R, -9223372036854775808 ≤ x ∧ x ≤ 9223372036854775807) (hS : ∀ x ∈ S, -9223372036854775808 ≤ x ∧ x ≤ 9223372036854775807) :
    ∃ N : List Int, Ints wx (some ⟨gn, 0, none⟩) n cn N ∧ ∀ i, i < n → N.getD i 0 = nearAt kd cl A R S i := by
  obtain ⟨N, h1, h2, h4, h5⟩ := h
  have hN : ∀ i, i < n → N.getD i 0 = nearAt kd cl A R S i := fun i hi => by
    rw [h4 i hi]
    unfold nearK
    rw [if_pos hi]
    split <;> rfl
  refine ⟨N, h1.ints (ok_of_getD fun i hi => ?_), hN⟩
  rw [hN i (by rw [h1.length]; exact hi)]
  exact near_ok hA hR hS i
theorem key_parts {K hi lo : Int} (h : 0 ≤ K ∧ K < 340282366920938463463374607431768211456) (hd : dV K = .agg #[.int .u64 hi, .int .u64 lo]) : K = hi * 18446744073709551616 + lo ∧ 0 ≤ lo ∧ lo < 18446744073709551616 := by
  obtain ⟨h1, l1, e1, e2, e3, e4⟩ := dV_parts K h
  rw [e1] at hd
  have : h1 = hi ∧ l1 = lo := by simpa using hd
  obtain ⟨rfl, rfl⟩ := this
  exact ⟨e2, e3, e4⟩
theorem less_of {K M a b c d : Int} (hK : K = a * 18446744073709551616 + b ∧ 0 ≤ b ∧ b < 18446744073709551616) (hM : M = c * 18446744073709551616 + d ∧ 0 ≤ d ∧ d < 18446744073709551616) : (a < c ∨ a = c ∧ b < d) ↔ K < M := by omega
theorem same_of {K M a b c d : Int} (hK : K = a * 18446744073709551616 + b ∧ 0 ≤ b ∧ b < 18446744073709551616) (hM : M = c * 18446744073709551616 + d ∧ 0 ≤ d ∧ d < 18446744073709551616) : (c = a ∧ d = b) ↔ K = M := by omega
/-- What BoxLeast reckons of a row: whether it is ahead of all of the box. -/
def aheadOf (K M : Int) (l : Nat) (x id : Int) : Prop := K < M ∨ K = M ∧ 0 < l ∧ x < id
instance (K M : Int) (l : Nat) (x id : Int) : Decidable (aheadOf K M l x id) := by unfold aheadOf; infer_instance
theorem beyond_ahead {kd cl : Int} {A R S P : List Int} {an n m : Nat} (hb : boundsB kd cl R S an n m = true) (hn : 0 < n) : decide (beyP kd cl A R S P an n m n) = decide (aheadOf (keyI kd cl A P an n) (leastI kd cl A R S an n) n (P.getD 0 0) (R.getD 0 0)) := by
  refine decide_eq_decide.2 ?_
  unfold beyP aheadOf
  constructor
  · rintro ⟨_, _, h | ⟨h1, h2⟩⟩
    · exact Or.inl h
    · exact Or.inr ⟨h1, hn, h2⟩
  · rintro (h | ⟨h1, _, h2⟩)
    · exact ⟨hb, rfl, Or.inl h⟩
    · exact ⟨hb, rfl, Or.inr ⟨h1, h2⟩⟩
theorem beyond_is_ahead {kd cl : Int} {A R S P Q : List Int} {an n m : Nat} (ho : ordP kd cl an n) (hb : beyP kd cl A R S P an n m n) (hK : leastI kd cl A R S an n ≤ keyI kd cl A Q an n) (h0 : R.getD 0 0 ≤ Q.getD 0 0) : aheadP kd cl A P Q an n n := by
  obtain ⟨_, _, h⟩ := hb
  refine ⟨ho, ho, rfl, ?_⟩
  omega
set_option maxRecDepth 100000 in
set_option maxHeartbeats 4000000 in
theorem bleast_any (kd cl : Int) (q p r s t : Option Addr) (an ac n c m e l f k g : Nat) (A R S P Q : List Int) (w : World) (hA : Ints w q an ac A) (hR : Ints w p n c R) (hS : Ints w r m e S) (hP : Ints w s l f P) (hQ : Ints w t k g Q) :
    Calls Try.prog 6 #[.agg #[.int .u8 kd, .int .i64 cl, .slice q an ac], .agg #[.slice p n c, .slice r m e], .slice s l f, .slice t k g] w fun e w' => e = .returned (.bool true) ∧ Below w.heap.size w w' := by
  go_enter Try.func6, Try.ntmps6
  go_upto_region 1 with fail
  obtain ⟨w1, hw1⟩ : ∃ w2, w2 = (w.alloc (.cells #[.int .u8 kd, .int .i64 cl, .slice q an ac] 34)).alloc (.cells #[.slice p n c, .slice r m e] 25) := ⟨_, rfl⟩
  obtain ⟨hF, -⟩ := ob_of hA hR hS w1 hw1
  rw [← hw1]
  have O1 := Lib.hid hF
  have P1 := Lib.hid (hP.later hF.o.below)
  have Q1 := Lib.hid (hQ.later hF.o.below)
  clear hw1 hA hR hS hP hQ hF
  have HL := Lib.hid (alive4_any w1)
  go_wp2_with fail
  refine HL.out.mono ?_
  rintro _ w2 ⟨rfl, hb2⟩
  have O2 := Lib.hid (O1.out.later hb2)
  have P2 := Lib.hid (P1.out.later hb2)
  have Q2 := Lib.hid (Q1.out.later hb2)
  clear hb2 O1 P1 Q1 HL
  clear w1
  obtain ⟨b0, b1, -, -⟩ := O2.out.b.bx.facts
  obtain ⟨x0, x1, x2⟩ := O2.out.o.cells
  have hl := least_any kd cl q p r an ac n c m e A R S w2 O2.out.o.i O2.out.b.i1 O2.out.b.i2
  obtain ⟨hi, lo, hd⟩ := dV_two (lstK kd cl A R S an n m)
  rw [hd] at hl
  have HLL := Lib.hid hl
  have HD := Lib.hid hd
  clear hl hd
  go_wp2_with fail
  refine HLL.out.mono ?_
  rintro _ w3 ⟨rfl, hb3⟩
  have O3 := Lib.hid (O2.out.later hb3)
  have P3 := Lib.hid (P2.out.later hb3)
  have Q3 := Lib.hid (Q2.out.later hb3)
  clear hb3 O2 P2 Q2 HLL b0 b1 x0 x1 x2
  clear w2
  go_upto_region 4 with fail
  have b4 : Below w3.heap.size w3 (w3.alloc (.cells #[.int .u64 hi, .int .u64 lo] 37)) := (Below.refl _ _).alloc (Nat.le_refl _) _
  have t4 := two_fresh w3 (.int .u64 hi) (.int .u64 lo)
  generalize w3.alloc (.cells #[.int .u64 hi, .int .u64 lo] 37) = w4 at *
  have L4 := Lib.hid (show LP w w4 kd cl q an ac A p r n c m e R S s l f P t k g Q w3.heap.size hi lo from ⟨O3.out.later b4, P3.out.later b4, Q3.out.later b4, t4⟩)
  clear b4 t4 O3 P3 Q3
  generalize w3.heap.size = g9 at *
  clear w3
  obtain ⟨b0, b1, -, -⟩ := L4.out.ob.b.bx.facts
  obtain ⟨x0, x1, x2⟩ := L4.out.ob.o.cells
  have H := Lib.hid (refright_any p r n c m e R S n w4 L4.out.ob.b.i1 L4.out.ob.b.i2)
  have notR : boundsB kd cl R S an n m = false → lstId kd cl R S an n m = 0 ∧ errOf (boundsB kd cl R S an n m) = 1 ∧ (0 : Int) = hi ∧ (0 : Int) = lo ∧ ¬ beyP kd cl A R S P an n m l := fun h => by
    have hk : lstK kd cl A R S an n m = 0 := by unfold lstK; rw [if_neg (by rw [h]; simp)]
    have hd := HD.out
    rw [hk] at hd
    have := hd
    have hz : (0 : Int) = hi ∧ (0 : Int) = lo := by simpa [dV] using this
    exact ⟨by unfold lstId; rw [if_neg (by rw [h]; simp)], by rw [h]; rfl, hz.1, hz.2, fun h' => absurd h'.1 (by rw [h]; simp)⟩
  have NR := Lib.hid notR
  clear notR
  cases hr : rightB R S n m n with
  | false =>
    obtain ⟨i1, i2, rfl, rfl, i5⟩ := NR.out (by unfold boundsB; rw [hr]; rfl)
    rw [i1, i2]
    rw [hr] at H
    have HB := Lib.hid (show decide (beyP kd cl A R S P an n m l) = false from decide_eq_false i5)
    clear hr NR i1 i2 i5 HD
    go_wp2_with fail
    refine H.out.mono ?_
    rintro _ w5 ⟨rfl, hb5⟩
    have L5 := Lib.hid (L4.out.later hb5)
    clear hb5 L4 b0 b1 x0 x1 x2 H
    clear w4
    obtain ⟨b0, b1, -, -⟩ := L5.out.ob.b.bx.facts
    obtain ⟨x0, x1, x2⟩ := L5.out.ob.o.cells
    obtain ⟨y0, y1, -, -⟩ := L5.out.d.facts
    have HBY := Lib.hid (beyond_any kd cl q p r s an ac n c m e l f A R S P w5 L5.out.ob.o.i L5.out.ob.b.i1 L5.out.ob.b.i2 L5.out.P)
    rw [HB.out] at HBY
    have qd := dist_eql 0 0 0 0
    simp only [and_self, decide_true] at qd
    go_wp2_with fail
    refine HBY.out.mono ?_
    rintro _ w6 ⟨rfl, hb6⟩
    have B6 := Lib.hid (L5.out.ob.o.below.trans (hb6.mono L5.out.ob.o.below.size))
    clear hb6
    go_wp2_with fail
    go_ret
    exact ⟨rfl, B6.out⟩
  | true =>
  rw [hr] at H
  go_wp2_with fail
  refine H.out.mono ?_
  rintro _ w5 ⟨rfl, hb5⟩
  have L5 := Lib.hid (L4.out.later hb5)
  clear hb5 L4 b0 b1 x0 x1 x2 H
  clear w4
  obtain ⟨b0, b1, -, -⟩ := L5.out.ob.b.bx.facts
  obtain ⟨x0, x1, x2⟩ := L5.out.ob.o.cells
  have H := Lib.hid (refordright_any kd cl n q an ac w5)
  by_cases ho : ordP kd cl an n
  case neg =>
    obtain ⟨i1, i2, rfl, rfl, i5⟩ := NR.out (by unfold boundsB; rw [decide_eq_false ho, Bool.and_false])
    rw [i1, i2]
    rw [decide_eq_false ho] at H
    have HB := Lib.hid (show decide (beyP kd cl A R S P an n m l) = false from decide_eq_false i5)
    clear hr NR i1 i2 i5 HD ho
    go_wp2_with fail
    refine H.out.mono ?_
    rintro _ w6 ⟨rfl, hb6⟩
    have L6 := Lib.hid (L5.out.later hb6)
    clear hb6 L5 b0 b1 x0 x1 x2 H
    clear w5
    obtain ⟨b0, b1, -, -⟩ := L6.out.ob.b.bx.facts
    obtain ⟨x0, x1, x2⟩ := L6.out.ob.o.cells
    obtain ⟨y0, y1, -, -⟩ := L6.out.d.facts
    have HBY := Lib.hid (beyond_any kd cl q p r s an ac n c m e l f A R S P w6 L6.out.ob.o.i L6.out.ob.b.i1 L6.out.ob.b.i2 L6.out.P)
    rw [HB.out] at HBY
    have qd := dist_eql 0 0 0 0
    simp only [and_self, decide_true] at qd
    go_wp2_with fail
    refine HBY.out.mono ?_
    rintro _ w7 ⟨rfl, hb7⟩
    have B7 := Lib.hid (L6.out.ob.o.below.trans (hb7.mono L6.out.ob.o.below.size))
    clear hb7
    go_wp2_with fail
    go_ret
    exact ⟨rfl, B7.out⟩
  rw [decide_eq_true ho] at H
  have hbt : boundsB kd cl R S an n m = true := by unfold boundsB; rw [hr, decide_eq_true ho]; rfl
  have hk : lstK kd cl A R S an n m = leastI kd cl A R S an n := by unfold lstK; rw [if_pos hbt]
  rw [hk] at HD
  obtain ⟨id, hid⟩ : ∃ id, id = R.getD 0 0 := ⟨_, rfl⟩
  rw [show lstId kd cl R S an n m = id by unfold lstId; rw [if_pos hbt, hid], show errOf (boundsB kd cl R S an n m) = 0 by rw [hbt]; rfl]
  obtain ⟨d1, d2, -, d4⟩ := rightB_dims hr
  obtain rfl : m = n := by omega
  rw [rightB_les (by omega)] at hr
  have HRS := Lib.hid hr
  have HO := Lib.hid ho
  have HBT := Lib.hid hbt
  have HID := Lib.hid hid
  clear hr ho hbt hk d4 NR hid
  have dm1 : 0 < m := by omega
  have dm8 : m ≤ 8 := by omega
  clear d1 d2
  go_wp2_with fail
  refine H.out.mono ?_
  rintro _ w6 ⟨rfl, hb6⟩
  have L6 := Lib.hid (L5.out.later hb6)
  clear hb6 L5 b0 b1 x0 x1 x2 H
  clear w5
  obtain ⟨b0, b1, -, -⟩ := L6.out.ob.b.bx.facts
  obtain ⟨x0, x1, x2⟩ := L6.out.ob.o.cells
  obtain ⟨gR, oR, rfl, hRx⟩ := L6.out.ob.b.i1.cell 0 dm1
  rw [Nat.add_zero] at hRx
  rw [← HID.out] at hRx
  have qid : (id != id) = false := by simp
  go_upto_region 8 with fail
  obtain ⟨i2, hi0, hi1, hi2, hi3⟩ := info_parts I2n
  have HI := Lib.hid hi0
  have HI0 := Lib.hid hi1
  have HI1 := Lib.hid hi2
  have HI2 := Lib.hid hi3
  clear hi0 hi1 hi2 hi3
  have hown := own_empty w6
  have hal : Below w6.heap.size w6 (w6.alloc (.cells #[] 2)) := (Below.refl _ _).alloc (Nat.le_refl _) _
  have HOE := Lib.hid hown
  have HAL := Lib.hid hal
  have HNW := Lib.hid ((L6.out.ob.b.i1.later hal).news)
  have HRL := Lib.hid (show (ivs R).length = m * 1 by rw [ivs_length, ← L6.out.ob.b.i1.size, Nat.mul_one])
  have b0' := (hal.cell (p := ⟨w.heap.size + 1, 0, none⟩) (block_lt_of_cell b0)).trans b0
  clear hown hal
  go_upto_region 9 with ((at_builtin; (refine wpList_append_own_at _ (by rfl) (.tmp 73) (.tmp 75) 23 (by rfl) w6.heap.size 2 i2 (.int .i64 0) 1 8 URn HI.out HI0.out HI1.out HI2.out (by rfl) (by decide) _ 0 [] (by rfl) HOE.out ⟨gR, oR, none⟩ m c (ivs R) (by rfl) HRL.out HNW.out (ivs_one R) (by unfold maxLen; omega) (by omega) (by simp) ?_); intro v7 w7 hown7 hgrow7 _ _; have O7 := Lib.hid hown7; have G7 := Lib.hid hgrow7; clear hown7 hgrow7))
  obtain ⟨gn, cn, rfl, hn7, hn8⟩ := own_form (w := w7) (base := w6.heap.size) (n := m) (N := R) (by have h := O7.out; rw [Nat.zero_add, List.nil_append] at h; exact h) dm1
  have hb7 : Below w6.heap.size w6 w7 := HAL.out.grown G7.out (by simp) (fun k hk => by simp [Value.ownBlock] at hk; omega)
  have OW := Lib.hid hn7
  have HGE := Lib.hid hn8
  have HB7 := Lib.hid hb7
  clear hn7 hn8 hb7 O7 G7 HOE HAL HNW HRL HI HI0 HI1 HI2 b0 b1 b0' x0 x1 x2 hRx i2
  have L7 := Lib.hid (L6.out.later HB7.out)
  obtain ⟨x0, x1, x2⟩ := L7.out.ob.o.cells
  go_upto_if 79 with fail
  go_cut [12] from 80 to 89 (fun s12 wx => s12 = .slice (some ⟨gn, 0, none⟩) m cn ∧ NearIn w6 kd cl A R S m 1 gn cn wx)
  case first =>
    by_cases h2 : kd = 2
    · subst h2
      obtain ⟨b0, b1, -, -⟩ := L7.out.ob.b.bx.facts
      obtain ⟨j, rfl⟩ : ∃ j : Nat, cl = j := ⟨cl.toNat, by have := HO.out; unfold ordP at this; omega⟩
      have hj : j < m := by have := HO.out; unfold ordP at this; omega
      obtain ⟨gS, oS, rfl, hSx⟩ := L7.out.ob.b.i2.cell j hj
      obtain ⟨x, hx⟩ : ∃ x, x = S.getD j 0 := ⟨_, rfl⟩
      rw [← hx] at hSx
      have c1 := World.ownsRow.cellAt OW.out j (by omega)
      rw [ivs_get R j (by rw [← OW.out.length]; exact hj)] at c1
      have c2 := World.ownsRow.frozenAt OW.out j
      have i1 : (0 : Int) ≤ j ∧ (j : Int) < m := by omega
      have HN := Lib.hid (show NearIn w6 2 j A R S m 1 gn cn (w7.setCell ⟨gn, j, none⟩ (.int .i64 x)) from ⟨R.set j x, OW.out.set j x, HGE.out, fun i _ => by rw [hx]; exact near_two (by rw [← OW.out.length]; exact hj) i, HB7.out.setCell (p := ⟨gn, j, none⟩) HGE.out _⟩)
      clear hx
      go_upto_region 10 with fail
      go_region
      all_goals
        go_wp2_with fail
        go_meet
        exact ⟨rfl, HN.out.drew⟩
    · have q2 : (kd == 2) = false := by simpa using h2
      have HN := Lib.hid (show NearIn w6 kd cl A R S m 1 gn cn w7 from ⟨R, OW.out, HGE.out, fun i _ => near_start h2 i, HB7.out⟩)
      clear h2
      go_wp2_with fail
      go_meet
      exact ⟨rfl, HN.out⟩
  case rest =>
    obtain ⟨rfl, hN1⟩ := hcut
    obtain ⟨w8, hw8⟩ : ∃ w3, w3 = wc := ⟨_, rfl⟩
    rw [← hw8] at hN1 ⊢
    clear hw8 x0 x1 x2 OW L7 HB7
    have N8 := Lib.hid hN1
    clear hN1
    go_upto_block 0 with fail
    go_cut [12] from 90 to 121 (fun s12 wx => s12 = .slice (some ⟨gn, 0, none⟩) m cn ∧ NearIn w6 kd cl A R S m m gn cn wx)
    case first =>
      go_wp2_with fail
      go_loopw [13] (fun i wr => NearLoop w6 kd cl A R S m gn cn i wr) (fun i _ => m - (intOf i).toNat)
      case atStart => exact ⟨0, by omega, rfl, N8.out⟩
      case round =>
        obtain ⟨j, hj, rfl, hn⟩ := hrel
        have N9 := Lib.hid hn
        have L9 := Lib.hid (L6.out.later hn.low)
        clear hn N8
        obtain ⟨x0, x1, x2⟩ := L9.out.ob.o.cells
        by_cases h3 : kd = 3
        · subst h3
          by_cases hlt : j + 1 < m
          · obtain ⟨b0, b1, -, -⟩ := L9.out.ob.b.bx.facts
            have han : j < an := by have := HO.out; unfold ordP at this; omega
            obtain ⟨gA, oA, rfl, hAx⟩ := L9.out.ob.o.i.cell j han
            obtain ⟨gS, oS, rfl, hSx⟩ := L9.out.ob.b.i2.cell (j + 1) hlt
            obtain ⟨gR', oR', hgR, hRx⟩ := L9.out.ob.b.i1.cell (j + 1) hlt
            simp only [Option.some.injEq, Addr.mk.injEq, and_true] at hgR
            obtain ⟨rfl, rfl⟩ := hgR
            obtain ⟨⟨y, hy⟩, hfy⟩ := N9.out.cell (j + 1) hlt
            obtain ⟨xa, hxa⟩ : ∃ x, x = A.getD j 0 := ⟨_, rfl⟩
            obtain ⟨xr, hxr⟩ : ∃ x, x = R.getD (j + 1) 0 := ⟨_, rfl⟩
            obtain ⟨xs, hxs⟩ : ∃ x, x = S.getD (j + 1) 0 := ⟨_, rfl⟩
            rw [← hxa] at hAx
            rw [← hxs] at hSx
            rw [← hxr] at hRx
            have HN := Lib.hid (N9.out.set (j + 1) hlt (min (max xa xr) xs) (k' := j + 1 + 1) (fun i _ => near_step (by rw [hxa, hxr, hxs]) i))
            have i1 : (0 : Int) ≤ (j : Int) + 1 ∧ (j : Int) + 1 < m := by omega
            have i2 : (0 : Int) ≤ j ∧ (j : Int) < an := by omega
            have i3 : ((j : Int) + 1).toNat = j + 1 := by omega
            have i4 : IntKind.i64.wrap ((j : Int) + 1 - 1) = j := by show _ = _; rw [Int.add_sub_cancel]; exact IntWalk.i64_in _ (by omega)
            clear hxa hxr hxs
            go_upto_region 14 with fail
            go_region
            all_goals
              have HN2 := Lib.hid HN.out.drew
              clear x0 x1 x2 b0 b1 hAx hSx hRx hy hfy i1 i2 i3 i4
              generalize (wr.setCell ⟨gn, j + 1, none⟩ (.int .i64 (min (max xa xr) xs))).drew = w10 at *
              go_wp2_with fail
              go_roundw
              case rel => exact ⟨j + 1, by omega, rfl, HN2.out⟩
              case measure => simp [intOf]; omega
          · obtain rfl : m = j + 1 := by omega
            go_wp2_with fail
            go_meet
            exact ⟨rfl, N9.out⟩
        · have q3 : (kd == 3) = false := by simpa using h3
          have HN := Lib.hid (N9.out.other (k' := m) h3)
          clear h3
          go_wp2_with fail
          go_meet
          exact ⟨rfl, HN.out⟩
    case rest =>
      obtain ⟨rfl, hN1⟩ := hcut
      obtain ⟨w9, hw9⟩ : ∃ w3, w3 = wc := ⟨_, rfl⟩
      rw [← hw9] at hN1 ⊢
      clear hw9 N8
      have L9 := Lib.hid (L6.out.later hN1.low)
      obtain ⟨N, hN2, hN3⟩ := hN1.ints L6.out.ob.o.i.ok L6.out.ob.b.i1.ok L6.out.ob.b.i2.ok
      have NI := Lib.hid hN2
      have HNK := Lib.hid (near_key HO.out hN3 HRS.out)
      have NL := Lib.hid hN3
      clear hN1 hN2 hN3 L6
      obtain ⟨x0, x1, x2⟩ := L9.out.ob.o.cells
      have hk := refkey_any kd cl q (some ⟨gn, 0, none⟩) an ac m cn A N w9 L9.out.ob.o.i NI.out
      rw [HNK.out, HD.out, decide_eq_true HO.out] at hk
      have H := Lib.hid hk
      clear hk
      go_wp2_with fail
      refine H.out.mono ?_
      rintro _ w10 ⟨rfl, hb10⟩
      have L10 := Lib.hid (L9.out.later hb10)
      clear hb10 L9 NI H x0 x1 x2
      go_upto_region 16 with fail
      have b11 : Below w10.heap.size w10 (w10.alloc (.cells #[.int .u64 hi, .int .u64 lo] 37)) := (Below.refl _ _).alloc (Nat.le_refl _) _
      have T11 := Lib.hid (two_fresh w10 (.int .u64 hi) (.int .u64 lo))
      generalize w10.alloc (.cells #[.int .u64 hi, .int .u64 lo] 37) = w11 at *
      have L11 := Lib.hid (L10.out.later b11)
      clear b11 L10
      generalize w10.heap.size = gx at *
      obtain ⟨x0, x1, x2⟩ := L11.out.ob.o.cells
      obtain ⟨b0, b1, -, -⟩ := L11.out.ob.b.bx.facts
      obtain ⟨y0, y1, -, -⟩ := L11.out.d.facts
      obtain ⟨z0, z1, -, -⟩ := T11.out.facts
      have qne := dist_neq hi lo hi lo
      simp only [and_self, decide_true, Bool.not_true] at qne
      have HBY := Lib.hid (beyond_any kd cl q (some ⟨gR, oR, none⟩) r s an ac m c m e l f A R S P w11 L11.out.ob.o.i L11.out.ob.b.i1 L11.out.ob.b.i2 L11.out.P)
      go_wp2_with fail
      refine HBY.out.mono ?_
      rintro _ w12 ⟨rfl, hb12⟩
      have L12 := Lib.hid (L11.out.later hb12)
      clear hb12 L11 T11 HBY x0 x1 x2 b0 b1 y0 y1 z0 z1 qne
      obtain ⟨x0, x1, x2⟩ := L12.out.ob.o.cells
      obtain ⟨hp, lp, hdp⟩ := dV_two (keyI kd cl A P an l)
      have hk := refkey_any kd cl q s an ac l f A P w12 L12.out.ob.o.i L12.out.P
      rw [hdp] at hk
      have H := Lib.hid hk
      have HDP := Lib.hid hdp
      have KP := Lib.hid (key_parts (key_bound kd cl A P an l L12.out.ob.o.i.ok L12.out.P.ok) hdp)
      have KL := Lib.hid (key_parts (least_bound kd cl A R S an m L12.out.ob.o.i.ok L12.out.ob.b.i1.ok L12.out.ob.b.i2.ok) HD.out)
      clear hk hdp
      go_wp2_with fail
      refine H.out.mono ?_
      rintro _ w13 ⟨rfl, hb13⟩
      have L13 := Lib.hid (L12.out.later hb13)
      clear hb13 L12 H x0 x1 x2
      go_upto_region 20 with fail
      have b14 : Below w13.heap.size w13 (w13.alloc (.cells #[.int .u64 hp, .int .u64 lp] 37)) := (Below.refl _ _).alloc (Nat.le_refl _) _
      have T14 := Lib.hid (two_fresh w13 (.int .u64 hp) (.int .u64 lp))
      generalize w13.alloc (.cells #[.int .u64 hp, .int .u64 lp] 37) = w14 at *
      have L14 := Lib.hid (L13.out.later b14)
      clear b14 L13
      generalize w13.heap.size = gy at *
      go_cut [19] from 141 to 160 (fun s19 wx => s19 = .bool (decide (aheadOf (keyI kd cl A P an l) (leastI kd cl A R S an m) l (P.getD 0 0) id)) ∧ LP w wx kd cl q an ac A (some ⟨gR, oR, none⟩) r m c m e R S s l f P t k g Q g9 hi lo)
      case first =>
        obtain ⟨y0, y1, -, -⟩ := L14.out.d.facts
        obtain ⟨z0, z1, -, -⟩ := T14.out.facts
        have H := Lib.hid (less_any hp lp hi lo w14)
        have HLS := Lib.hid (less_of KP.out KL.out)
        have HSM := Lib.hid (same_of KP.out KL.out)
        have HEQ := Lib.hid (dist_eql hi lo hp lp)
        go_wp2_with fail
        refine H.out.mono ?_
        rintro _ w15 ⟨rfl, hb15⟩
        have L15 := Lib.hid (L14.out.later hb15)
        have T15 := Lib.hid (T14.out.later hb15 T14.out.lt)
        clear hb15 L14 T14 H y0 y1 z0 z1
        obtain ⟨y0, y1, -, -⟩ := L15.out.d.facts
        obtain ⟨z0, z1, -, -⟩ := T15.out.facts
        by_cases hl : hp < hi ∨ hp = hi ∧ lp < lo
        · rw [decide_eq_true hl]
          have HA := Lib.hid (show aheadOf (keyI kd cl A P an l) (leastI kd cl A R S an m) l (P.getD 0 0) id from Or.inl (HLS.out.1 hl))
          clear hl
          go_wp2_with fail
          go_meet
          exact ⟨congrArg Value.bool (decide_eq_true HA.out).symm, L15.out⟩
        · rw [decide_eq_false hl]
          have HNL := Lib.hid (show ¬ keyI kd cl A P an l < leastI kd cl A R S an m from fun h => hl (HLS.out.2 h))
          clear hl
          by_cases he : hi = hp ∧ lo = lp
          · have q1 : ∀ w', (binOp .eql 37 (.agg #[.int .u64 hi, .int .u64 lo]) (.agg #[.int .u64 hp, .int .u64 lp])).run Try.prog w' = .ok (.bool true) w' := fun w' => by rw [HEQ.out, decide_eq_true he]
            have HKE := Lib.hid (HSM.out.1 he)
            clear he
            by_cases hl0 : 0 < l
            · obtain ⟨gP, oP, rfl, hPx⟩ := L15.out.P.cell 0 hl0
              rw [Nat.add_zero] at hPx
              obtain ⟨x, hx⟩ : ∃ x, x = P.getD 0 0 := ⟨_, rfl⟩
              rw [← hx] at hPx
              have HX := Lib.hid hx
              clear hx
              have HA := Lib.hid (show decide (x < id) = decide (aheadOf (keyI kd cl A P an l) (leastI kd cl A R S an m) l (P.getD 0 0) id) from decide_eq_decide.2 ⟨fun h => Or.inr ⟨HKE.out, hl0, by rw [← HX.out]; exact h⟩, fun h => by
                rcases h with h | ⟨_, _, h⟩
                · exact absurd h HNL.out
                · rw [HX.out]; exact h⟩)
              go_wp2_with fail
              go_meet
              exact ⟨congrArg Value.bool HA.out, L15.out⟩
            · have HA := Lib.hid (show ¬ aheadOf (keyI kd cl A P an l) (leastI kd cl A R S an m) l (P.getD 0 0) id from fun h => by
                rcases h with h | ⟨_, h, _⟩
                · exact HNL.out h
                · exact hl0 h)
              go_wp2_with fail
              go_meet
              exact ⟨congrArg Value.bool (decide_eq_false HA.out).symm, L15.out⟩
          · have q1 : ∀ w', (binOp .eql 37 (.agg #[.int .u64 hi, .int .u64 lo]) (.agg #[.int .u64 hp, .int .u64 lp])).run Try.prog w' = .ok (.bool false) w' := fun w' => by rw [HEQ.out, decide_eq_false he]
            have HA := Lib.hid (show ¬ aheadOf (keyI kd cl A P an l) (leastI kd cl A R S an m) l (P.getD 0 0) id from fun h => by
              rcases h with h | ⟨h, _, _⟩
              · exact HNL.out h
              · exact he (HSM.out.2 h))
            clear he
            go_wp2_with fail
            go_meet
            exact ⟨congrArg Value.bool (decide_eq_false HA.out).symm, L15.out⟩
      case rest =>
        obtain ⟨rfl, hL⟩ := hcut
        obtain ⟨w15, hw15⟩ : ∃ w3, w3 = wc := ⟨_, rfl⟩
        rw [← hw15] at hL ⊢
        clear hw15 L14 T14
        have L15 := Lib.hid hL
        clear hL
        obtain ⟨b0, b1, -, -⟩ := L15.out.ob.b.bx.facts
        have HSM := Lib.hid (show l = m → decide (beyP kd cl A R S P an m m l) = decide (aheadOf (keyI kd cl A P an l) (leastI kd cl A R S an m) l (P.getD 0 0) id) from fun h => by
          subst h
          rw [HID.out]
          exact beyond_ahead HBT.out dm1)
        have HNM := Lib.hid (show ¬ l = m → decide (beyP kd cl A R S P an m m l) = false from fun h => decide_eq_false fun h' => h h'.2.1)
        have HOL := Lib.hid (show l = m → decide (ordP kd cl an l) = true from fun h => by rw [h]; exact decide_eq_true HO.out)
        obtain ⟨bb, hbb⟩ : ∃ b, b = decide (beyP kd cl A R S P an m m l) := ⟨_, rfl⟩
        obtain ⟨bo, hbo⟩ : ∃ b, b = decide (ordP kd cl an l) := ⟨_, rfl⟩
        obtain ⟨ab, hab⟩ : ∃ b, b = decide (aheadOf (keyI kd cl A P an l) (leastI kd cl A R S an m) l (P.getD 0 0) id) := ⟨_, rfl⟩
        rw [← hbb, ← hbo, ← hab]
        rw [← hbb, ← hab] at HSM
        rw [← hbb] at HNM
        rw [← hbo] at HOL
        have HBB := Lib.hid hbb
        clear hbb hbo hab
        go_upto_region 21 with fail
        go_cut [174] from 161 to 173 (fun s wx => s = .bool false ∧ wx = w15)
        case first =>
          by_cases hlm : l = m
          · obtain rfl : bb = ab := HSM.out hlm
            obtain rfl : bo = true := HOL.out hlm
            have q1 : (bb != bb) = false := by simp
            have q2 : ((l : Int) == m) = true := by rw [hlm]; simp
            clear HSM HNM HOL HBB hlm
            go_wp2_with fail
            go_meet
            exact ⟨rfl, rfl⟩
          · obtain rfl : bb = false := HNM.out hlm
            have q2 : ((l : Int) == m) = false := by simp only [beq_eq_false_iff_ne, ne_eq]; omega
            clear HSM HNM HOL HBB hlm
            cases bo with
            | true =>
              go_wp2_with fail
              go_meet
              exact ⟨rfl, rfl⟩
            | false =>
              go_wp2_with fail
              go_meet
              exact ⟨rfl, rfl⟩
        case rest =>
          obtain ⟨rfl, hwc⟩ := hcut
          obtain ⟨w16, hw16⟩ : ∃ w3, w3 = wc := ⟨_, rfl⟩
          rw [← hw16] at hwc ⊢
          clear hw16 HSM HNM HOL
          subst hwc
          have H := Lib.hid (refhas_any (some ⟨gR, oR, none⟩) r t m c m e k g R S Q w16 L15.out.ob.b.i1 L15.out.ob.b.i2 L15.out.Q)
          go_wp2_with fail
          refine H.out.mono ?_
          rintro _ w17 ⟨rfl, hb17⟩
          have L17 := Lib.hid (L15.out.later hb17)
          clear hb17 L15 H b0 b1
          cases hh : hasB R S Q m m k with
          | false =>
            go_wp2_with fail
            go_ret
            exact ⟨rfl, L17.out.ob.o.below⟩
          | true =>
          have hr : rightB R S m m k = true := by
            unfold hasB at hh
            rw [Bool.and_eq_true] at hh
            exact hh.1
          obtain ⟨_, _, d3, _⟩ := rightB_dims hr
          obtain rfl : k = m := by omega
          rw [hasB_right hr, Bool.and_eq_true] at hh
          have HLE := Lib.hid hh
          clear hh hr d3
          obtain ⟨x0, x1, x2⟩ := L17.out.ob.o.cells
          have hge : leastI kd cl A R S an k ≤ keyI kd cl A Q an k := by
            rw [← HNK.out]
            exact near_least HO.out NL.out HLE.out.1 HLE.out.2
          obtain ⟨hq, lq, hdq⟩ := dV_two (keyI kd cl A Q an k)
          have hk := refkey_any kd cl q t an ac k g A Q w17 L17.out.ob.o.i L17.out.Q
          rw [hdq, decide_eq_true HO.out] at hk
          have H := Lib.hid hk
          have KQ := Lib.hid (key_parts (key_bound kd cl A Q an k L17.out.ob.o.i.ok L17.out.Q.ok) hdq)
          have HNL := Lib.hid (show decide (hq < hi ∨ hq = hi ∧ lq < lo) = false from decide_eq_false fun h => by
            have := (less_of KQ.out KL.out).1 h
            omega)
          have H0 := Lib.hid (show R.getD 0 0 ≤ Q.getD 0 0 from (les_iff R Q k).1 HLE.out.1 0 dm1)
          have HGE2 := Lib.hid hge
          clear hk hdq hge
          go_wp2_with fail
          refine H.out.mono ?_
          rintro _ w18 ⟨rfl, hb18⟩
          have L18 := Lib.hid (L17.out.later hb18)
          clear hb18 L17 H x0 x1 x2
          go_upto_region 26 with fail
          have b19 : Below w18.heap.size w18 (w18.alloc (.cells #[.int .u64 hq, .int .u64 lq] 37)) := (Below.refl _ _).alloc (Nat.le_refl _) _
          have T19 := Lib.hid (two_fresh w18 (.int .u64 hq) (.int .u64 lq))
          generalize w18.alloc (.cells #[.int .u64 hq, .int .u64 lq] 37) = w19 at *
          have L19 := Lib.hid (L18.out.later b19)
          clear b19 L18
          generalize w18.heap.size = gz at *
          obtain ⟨y0, y1, -, -⟩ := L19.out.d.facts
          obtain ⟨z0, z1, -, -⟩ := T19.out.facts
          have hl := less_any hq lq hi lo w19
          rw [HNL.out] at hl
          have H := Lib.hid hl
          clear hl
          go_wp2_with fail
          refine H.out.mono ?_
          rintro _ w20 ⟨rfl, hb20⟩
          have L20 := Lib.hid (L19.out.later hb20)
          clear hb20 L19 T19 H y0 y1 z0 z1
          obtain ⟨x0, x1, x2⟩ := L20.out.ob.o.cells
          by_cases hby : beyP kd cl A R S P an k k l
          · rw [HBB.out, decide_eq_true hby]
            have hlk : l = k := hby.2.1
            subst hlk
            have hah := ahead_any kd cl q s t an ac l f l g A P Q w20 L20.out.ob.o.i L20.out.P L20.out.Q
            rw [decide_eq_true (beyond_is_ahead HO.out hby HGE2.out H0.out)] at hah
            have HAH := Lib.hid hah
            clear hah hby
            go_wp2_with fail
            refine HAH.out.mono ?_
            rintro _ w21 ⟨rfl, hb21⟩
            have B21 := Lib.hid (L20.out.ob.o.below.trans (hb21.mono L20.out.ob.o.below.size))
            clear hb21
            go_wp2_with fail
            go_ret
            exact ⟨rfl, B21.out⟩
          · rw [HBB.out, decide_eq_false hby]
            clear hby
            go_wp2_with fail
            go_ret
            exact ⟨rfl, L20.out.ob.o.below⟩
end Go.Proofs.Ythmloljnpjolmaa
