/- BoxHolds, walked. -/
import Derived.Test.YthmloljnpjolmaaBoxAlive
import Derived.Test.YthmloljnpjolmaaBoxHas
namespace Go.Proofs.Ythmloljnpjolmaa
open Go.RowKit

theorem of_not (p : Option Addr) (n c : Nat) (h : ¬ (1 ≤ n ∧ n ≤ 8)) (w : World) :
    Calls Try.prog 13 #[.slice p n c] w fun e w' => e = .returned (.agg #[.slice none 0 0, .slice none 0 0]) ∧ Below w.heap.size w w' := by
  have hD := dimensions_any (n : Int)
  rw [decide_eq_false (show ¬ (1 ≤ (n : Int) ∧ (n : Int) ≤ 8) by omega)] at hD
  have HD := Lib.hid hD
  clear hD h
  go_enter Try.func13, Try.ntmps13
  go_upto_region 1 with fail
  have x0 := boxed w (.slice p n c) 23
  have s0 : (w.alloc (.cells #[.slice p n c] 23)).heap.size = w.heap.size + 1 := by simp
  have b0 : Below w.heap.size w (w.alloc (.cells #[.slice p n c] 23)) := (Below.refl _ _).alloc (Nat.le_refl _) _
  generalize w.alloc (.cells #[.slice p n c] 23) = w0 at *
  have x1 := Bx.fresh w0 (.slice none 0 0) (.slice none 0 0)
  have b1 : Below w0.heap.size w0 (w0.alloc (.cells #[.slice none 0 0, .slice none 0 0] 25)) := (Below.refl _ _).alloc (Nat.le_refl _) _
  rw [s0] at x1
  generalize w0.alloc (.cells #[.slice none 0 0, .slice none 0 0] 25) = w1 at *
  have X := Lib.hid x1
  have hb0 := (b1.cell (p := ⟨w.heap.size, 0, none⟩) (by show w.heap.size < _; omega)).trans x0
  have B1 := Lib.hid (b0.trans (b1.mono (by omega)))
  obtain ⟨c0, c1, c2, c3⟩ := x1.facts
  clear x0 s0 b0 x1 b1
  clear w0
  go_wp2_with ((go_at_call 30; refine (HD.out _).mono ?_; rintro _ w' ⟨rfl, rfl⟩))
  exact ret_box 2 rfl (w.heap.size + 1) _ _ rfl (X.out.set _ _) ⟨rfl, (B1.out.setCell (p := ⟨w.heap.size + 1, 0, none⟩) (Nat.le_succ _) _).setCell (p := ⟨w.heap.size + 1, 1, none⟩) (Nat.le_succ _) _⟩
theorem of_form (p : Option Addr) (n c : Nat) (R : List Int) (w : World) (hR : Ints w p n c R) :
    Calls Try.prog 13 #[.slice p n c] w fun e w' => ∃ (a : Option Addr) (n1 c1 : Nat) (b : Option Addr) (n2 c2 : Nat), e = .returned (.agg #[.slice a n1 c1, .slice b n2 c2]) ∧ Below w.heap.size w w' := by
  by_cases h : 1 ≤ n ∧ n ≤ 8
  · exact (of_any p n c R h w hR).mono fun e w' ⟨v, he, g1, g2, hv, _, _, hb⟩ => ⟨some ⟨g1, 0, none⟩, n, n, some ⟨g2, 0, none⟩, n, n, he.trans (congrArg Ending.returned hv), hb⟩
  · exact (of_not p n c h w).mono fun e w' ⟨he, hb⟩ => ⟨none, 0, 0, none, 0, 0, he, hb⟩
theorem les_refl (R : List Int) (n : Nat) : les R R n = true := (les_iff R R n).2 fun _ _ => Int.le_refl _
theorem les_trans {R S T : List Int} {n : Nat} (h : les R S n = true) (h' : les S T n = true) : les R T n = true := (les_iff R T n).2 fun k hk => Int.le_trans ((les_iff R S n).1 h k hk) ((les_iff S T n).1 h' k hk)
theorem part_self (R : List Int) (n : Nat) (h : n = R.length) : part (fun i => R.getD i 0) n n = R := by
  subst h
  apply List.ext_getElem (by simp [part])
  intro i h1 h2
  simp [part, h2]
/-- What BoxHolds wants: the other box and both its corners are in. -/
theorem holds_want (R S T U : List Int) (n m k l : Nat) : (rightB R S n m n && (rightB T U k l n && (hasB R S T n m k && hasB R S U n m l))) = holdsB R S T U n m k l := by
  unfold holdsB pairB
  cases h1 : rightB R S n m n with
  | false => rfl
  | true =>
    cases h2 : rightB T U k l n with
    | false => rfl
    | true =>
      have d1 := rightB_dims h1
      have d2 := rightB_dims h2
      obtain rfl : k = n := by omega
      obtain rfl : l = k := by omega
      rw [hasB_right h1, hasB_right h1]
      have h3 : les T U l = true := by rw [rightB_les (by omega)] at h2; exact h2
      simp only [Bool.true_and]
      rw [Bool.eq_iff_iff]
      simp only [Bool.and_eq_true]
      exact ⟨fun h => ⟨h.1.1, h.2.2⟩, fun h => ⟨⟨h.1, les_trans h3 h.2⟩, les_trans h.1 h3, h.2⟩⟩
theorem whole_holds {T U : List Int} {k l : Nat} (h : rightB T U k l k = true) (hT : ∀ i, i < k → -9223372036854775808 ≤ T.getD i 0) (hU : ∀ i, i < k → U.getD i 0 ≤ 9223372036854775807) :
    holdsB (part (fun _ => -9223372036854775808) k k) (part (fun _ => 9223372036854775807) k k) T U k k k l = true := by
  have d := rightB_dims h
  unfold holdsB pairB
  rw [h, rightB_les (by omega), (les_iff _ _ _).2, (les_iff _ _ _).2, (les_iff _ _ _).2]
  · rfl
  · intro i hi
    rw [part_get _ _ _ _ hi, if_pos hi]
    exact hU i hi
  · intro i hi
    rw [part_get _ _ _ _ hi, if_pos hi]
    exact hT i hi
  · intro i hi
    rw [part_get _ _ _ _ hi, part_get _ _ _ _ hi, if_pos hi, if_pos hi]
    omega
theorem whole_right (n : Nat) (h : 1 ≤ n ∧ n ≤ 8) : rightB (part (fun _ => -9223372036854775808) n n) (part (fun _ => 9223372036854775807) n n) n n n = true := by
  rw [rightB_les h, (les_iff _ _ _).2]
  intro i hi
  rw [part_get _ _ _ _ hi, part_get _ _ _ _ hi, if_pos hi, if_pos hi]
  omega
theorem one_has {T : List Int} {k : Nat} (h : 1 ≤ k ∧ k ≤ 8) : hasB T T T k k k = true := by
  rw [hasB_right (by rw [rightB_les h]; exact les_refl _ _), les_refl]
  rfl
theorem one_held {T U : List Int} {k l : Nat} (h : rightB T U k l k = true) : holdsB T U T T k l k k = true := by
  have d := rightB_dims h
  unfold holdsB pairB
  rw [h, rightB_les (by omega), les_refl]
  obtain rfl : l = k := by omega
  rw [rightB_les (by omega)] at h
  rw [h]
  rfl
set_option maxRecDepth 100000 in
set_option maxHeartbeats 4000000 in
theorem bholds_any (p q r s : Option Addr) (n c m e k f l g : Nat) (R S T U : List Int) (d : Int) (w : World) (h1 : Ints w p n c R) (h2 : Ints w q m e S) (h3 : Ints w r k f T) (h4 : Ints w s l g U) :
    Calls Try.prog 3 #[.agg #[.slice p n c, .slice q m e], .agg #[.slice r k f, .slice s l g], .int .i64 d] w fun e w' => e = .returned (.bool true) ∧ Below w.heap.size w w' := by
  go_enter Try.func3, Try.ntmps3
  go_upto_region 1 with fail
  obtain ⟨w1, hw1⟩ : ∃ w1, w1 = (w.alloc (.cells #[.slice p n c, .slice q m e] 25)).alloc (.cells #[.slice r k f, .slice s l g] 25) := ⟨_, rfl⟩
  have F1 := Lib.hid (four_of h1 h2 h3 h4 hw1)
  rw [← hw1]
  clear hw1 h1 h2 h3 h4
  have HL := Lib.hid (alive4_any w1)
  go_wp2_with fail
  refine HL.out.mono ?_
  rintro _ w2 ⟨rfl, hb2⟩
  have F2 := Lib.hid (F1.out.later hb2)
  clear hb2 F1 HL
  clear w1
  go_upto_region 3 with fail
  go_cut [7] (fun s7 wx => s7 = .bool (holdsB R S T U n m k l) ∧ Four w wx w.heap.size (w.heap.size + 1) p q r s n c m e k f l g R S T U)
  case first =>
    have HW := Lib.hid (holds_want R S T U n m k l)
    obtain ⟨x0, x1, x2, x3⟩ : w2.cell? ⟨w.heap.size, 0, none⟩ = some (.slice p n c) ∧ w2.cell? ⟨w.heap.size, 1, none⟩ = some (.slice q m e) ∧ w2.cell? ⟨w.heap.size + 1, 0, none⟩ = some (.slice r k f) ∧ w2.cell? ⟨w.heap.size + 1, 1, none⟩ = some (.slice s l g) := ⟨F2.out.ba.1, F2.out.ba.2, F2.out.bb.1, F2.out.bb.2⟩
    have H := Lib.hid (refright_any p q n c m e R S n w2 F2.out.i1 F2.out.i2)
    go_wp2_with fail
    refine H.out.mono ?_
    rintro _ w3 ⟨rfl, hb3⟩
    have F3 := Lib.hid (F2.out.later hb3)
    clear hb3 F2 H x0 x1 x2 x3
    clear w2
    obtain ⟨x0, x1, x2, x3⟩ : w3.cell? ⟨w.heap.size, 0, none⟩ = some (.slice p n c) ∧ w3.cell? ⟨w.heap.size, 1, none⟩ = some (.slice q m e) ∧ w3.cell? ⟨w.heap.size + 1, 0, none⟩ = some (.slice r k f) ∧ w3.cell? ⟨w.heap.size + 1, 1, none⟩ = some (.slice s l g) := ⟨F3.out.ba.1, F3.out.ba.2, F3.out.bb.1, F3.out.bb.2⟩
    cases hr1 : rightB R S n m n with
    | false =>
      rw [hr1] at HW
      clear hr1
      go_wp2_with fail
      go_meet
      exact ⟨congrArg Value.bool HW.out, F3.out⟩
    | true =>
    rw [hr1, Bool.true_and] at HW
    clear hr1
    have H := Lib.hid (refright_any r s k f l g T U n w3 F3.out.i3 F3.out.i4)
    go_wp2_with fail
    refine H.out.mono ?_
    rintro _ w4 ⟨rfl, hb4⟩
    have F4 := Lib.hid (F3.out.later hb4)
    clear hb4 F3 H x0 x1 x2 x3
    clear w3
    obtain ⟨x0, x1, x2, x3⟩ : w4.cell? ⟨w.heap.size, 0, none⟩ = some (.slice p n c) ∧ w4.cell? ⟨w.heap.size, 1, none⟩ = some (.slice q m e) ∧ w4.cell? ⟨w.heap.size + 1, 0, none⟩ = some (.slice r k f) ∧ w4.cell? ⟨w.heap.size + 1, 1, none⟩ = some (.slice s l g) := ⟨F4.out.ba.1, F4.out.ba.2, F4.out.bb.1, F4.out.bb.2⟩
    cases hr1 : rightB T U k l n with
    | false =>
      rw [hr1] at HW
      clear hr1
      go_wp2_with fail
      go_meet
      exact ⟨congrArg Value.bool HW.out, F4.out⟩
    | true =>
    rw [hr1, Bool.true_and] at HW
    clear hr1
    have H := Lib.hid (refhas_any p q r n c m e k f R S T w4 F4.out.i1 F4.out.i2 F4.out.i3)
    go_wp2_with fail
    refine H.out.mono ?_
    rintro _ w5 ⟨rfl, hb5⟩
    have F5 := Lib.hid (F4.out.later hb5)
    clear hb5 F4 H x0 x1 x2 x3
    clear w4
    obtain ⟨x0, x1, x2, x3⟩ : w5.cell? ⟨w.heap.size, 0, none⟩ = some (.slice p n c) ∧ w5.cell? ⟨w.heap.size, 1, none⟩ = some (.slice q m e) ∧ w5.cell? ⟨w.heap.size + 1, 0, none⟩ = some (.slice r k f) ∧ w5.cell? ⟨w.heap.size + 1, 1, none⟩ = some (.slice s l g) := ⟨F5.out.ba.1, F5.out.ba.2, F5.out.bb.1, F5.out.bb.2⟩
    cases hr1 : hasB R S T n m k with
    | false =>
      rw [hr1] at HW
      clear hr1
      go_wp2_with fail
      go_meet
      exact ⟨congrArg Value.bool HW.out, F5.out⟩
    | true =>
    rw [hr1, Bool.true_and] at HW
    clear hr1
    have H := Lib.hid (refhas_any p q s n c m e l g R S U w5 F5.out.i1 F5.out.i2 F5.out.i4)
    rw [HW.out] at H
    go_wp2_with fail
    refine H.out.mono ?_
    rintro _ w6 ⟨rfl, hb6⟩
    have F6 := Lib.hid (F5.out.later hb6)
    clear hb6 F5 H x0 x1 x2 x3
    go_wp2_with fail
    go_meet
    exact ⟨rfl, F6.out⟩
  case rest =>
    obtain ⟨rfl, hF⟩ := hcut
    obtain ⟨wx, hwx⟩ : ∃ w3, w3 = wc := ⟨_, rfl⟩
    rw [← hwx] at hF ⊢
    clear hwx
    have F3 := Lib.hid hF
    clear hF F2
    by_cases hd : 1 ≤ d ∧ d ≤ 8
    case neg =>
      have H := Lib.hid (whole_not d hd wx)
      go_wp2_with fail
      refine H.out.mono ?_
      rintro _ w4 ⟨rfl, hb4⟩
      have F4 := Lib.hid (F3.out.later hb4)
      clear hb4 F3 H
      clear wx
      go_upto_region 5 with fail
      have X5 := Lib.hid (Bx.fresh w4 (.slice none 0 0) (.slice none 0 0))
      have b5 : Below w4.heap.size w4 (w4.alloc (.cells #[.slice none 0 0, .slice none 0 0] 25)) := (Below.refl _ _).alloc (Nat.le_refl _) _
      generalize w4.alloc (.cells #[.slice none 0 0, .slice none 0 0] 25) = w5 at *
      have F5 := Lib.hid (F4.out.later b5)
      clear b5 F4
      generalize w4.heap.size = gw at *
      clear w4
      obtain ⟨x0, x1, x2, x3⟩ : w5.cell? ⟨w.heap.size, 0, none⟩ = some (.slice p n c) ∧ w5.cell? ⟨w.heap.size, 1, none⟩ = some (.slice q m e) ∧ w5.cell? ⟨w.heap.size + 1, 0, none⟩ = some (.slice r k f) ∧ w5.cell? ⟨w.heap.size + 1, 1, none⟩ = some (.slice s l g) := ⟨F5.out.ba.1, F5.out.ba.2, F5.out.bb.1, F5.out.bb.2⟩
      have H := Lib.hid (holds_any p q r s n c m e k f l g R S T U w5 F5.out.i1 F5.out.i2 F5.out.i3 F5.out.i4)
      generalize holdsB R S T U n m k l = bh at *
      have e1 : (bh == bh) = true := by simp
      by_cases hd1 : d < 1
      · clear hd
        go_wp2_with fail
        refine H.out.mono ?_
        rintro _ w6 ⟨rfl, hb6⟩
        obtain ⟨y0, y1, -, -⟩ := (X5.out.later hb6).facts
        have F6 := Lib.hid (F5.out.later hb6)
        clear hb6
        go_wp2_with fail
        go_ret
        exact ⟨rfl, F6.out.below⟩
      · have hd2 : 8 < d := by omega
        clear hd
        go_wp2_with fail
        refine H.out.mono ?_
        rintro _ w6 ⟨rfl, hb6⟩
        obtain ⟨y0, y1, -, -⟩ := (X5.out.later hb6).facts
        have F6 := Lib.hid (F5.out.later hb6)
        clear hb6
        go_wp2_with fail
        go_ret
        exact ⟨rfl, F6.out.below⟩
    obtain ⟨N, rfl⟩ : ∃ N : Nat, d = N := ⟨d.toNat, by omega⟩
    have hN : 1 ≤ N ∧ N ≤ 8 := by omega
    have H := Lib.hid (whole_any N hN wx)
    go_wp2_with fail
    refine H.out.mono ?_
    rintro _ w4 ⟨v, rfl, g1, g2, rfl, hi1, hi2, hb4⟩
    have F4 := Lib.hid (F3.out.later hb4)
    clear hb4 F3 H
    clear wx
    go_upto_region 5 with fail
    have X5 := Lib.hid (show BoxIn (w4.alloc (.cells #[.slice (some ⟨g1, 0, none⟩) N N, .slice (some ⟨g2, 0, none⟩) N N] 25)) w4.heap.size _ _ N N N N _ _ from ⟨Bx.fresh w4 _ _, hi1.later ((Below.refl _ _).alloc (Nat.le_refl _) _), hi2.later ((Below.refl _ _).alloc (Nat.le_refl _) _)⟩)
    have b5 : Below w4.heap.size w4 (w4.alloc (.cells #[.slice (some ⟨g1, 0, none⟩) N N, .slice (some ⟨g2, 0, none⟩) N N] 25)) := (Below.refl _ _).alloc (Nat.le_refl _) _
    clear hi1 hi2
    generalize w4.alloc (.cells #[.slice (some ⟨g1, 0, none⟩) N N, .slice (some ⟨g2, 0, none⟩) N N] 25) = w5 at *
    have F5 := Lib.hid (F4.out.later b5)
    clear b5 F4
    generalize w4.heap.size = gw at *
    clear w4
    have g1' : ¬ (N : Int) < 1 := by omega
    have g2' : ¬ (8 : Int) < N := by omega
    have HD := Lib.hid hN
    clear hd hN
    have y0 := F5.out.bb.1
    have ht : 1 ≤ k ∧ k ≤ 8 → part (fun i => T.getD i 0) k k = T := fun _ => part_self T k F5.out.i3.size
    cases hrb : rightB T U k l N with
    | true =>
      obtain ⟨dd1, dd2, dd3, dd4⟩ := rightB_dims hrb
      obtain rfl : k = N := by omega
      obtain rfl : l = k := by omega
      have HT := Lib.hid (ht HD.out)
      have HRB := Lib.hid hrb
      clear dd1 dd2 dd3 dd4 ht hrb
      have H := Lib.hid (of_any r l f T HD.out w5 F5.out.i3)
      go_wp2_with fail
      refine H.out.mono ?_
      rintro _ w6 ⟨v, rfl, g3, g4, rfl, hi1, hi2, hb6⟩
      rw [HT.out] at hi1 hi2
      have F6 := Lib.hid (F5.out.later hb6)
      have X6 := Lib.hid (X5.out.later hb6)
      clear hb6 F5 X5 H y0 HT
      clear w5
      go_upto_region 8 with fail
      have Y7 := Lib.hid (show BoxIn (w6.alloc (.cells #[.slice (some ⟨g3, 0, none⟩) l l, .slice (some ⟨g4, 0, none⟩) l l] 25)) w6.heap.size _ _ l l l l _ _ from ⟨Bx.fresh w6 _ _, hi1.later ((Below.refl _ _).alloc (Nat.le_refl _) _), hi2.later ((Below.refl _ _).alloc (Nat.le_refl _) _)⟩)
      have b7 : Below w6.heap.size w6 (w6.alloc (.cells #[.slice (some ⟨g3, 0, none⟩) l l, .slice (some ⟨g4, 0, none⟩) l l] 25)) := (Below.refl _ _).alloc (Nat.le_refl _) _
      clear hi1 hi2
      generalize w6.alloc (.cells #[.slice (some ⟨g3, 0, none⟩) l l, .slice (some ⟨g4, 0, none⟩) l l] 25) = w7 at *
      have F7 := Lib.hid (F6.out.later b7)
      have X7 := Lib.hid (X6.out.later b7)
      clear b7 F6 X6
      generalize w6.heap.size = go at *
      clear w6
      have HH1 := Lib.hid (whole_holds HRB.out (fun i hi => (F7.out.i3.get i hi).1) (fun i hi => (F7.out.i4.get i hi).2))
      have HH2 := Lib.hid (one_has (T := T) HD.out)
      have HH3 := Lib.hid (one_held HRB.out)
      have HH4 := Lib.hid (whole_right l HD.out)
      obtain ⟨x0, x1, x2, x3⟩ : w7.cell? ⟨w.heap.size, 0, none⟩ = some (.slice p n c) ∧ w7.cell? ⟨w.heap.size, 1, none⟩ = some (.slice q m e) ∧ w7.cell? ⟨w.heap.size + 1, 0, none⟩ = some (.slice r l f) ∧ w7.cell? ⟨w.heap.size + 1, 1, none⟩ = some (.slice s l g) := ⟨F7.out.ba.1, F7.out.ba.2, F7.out.bb.1, F7.out.bb.2⟩
      have H := Lib.hid (holds_any p q r s n c m e l f l g R S T U w7 F7.out.i1 F7.out.i2 F7.out.i3 F7.out.i4)
      generalize holdsB R S T U n m l l = bh at *
      have e1 : (bh == bh) = true := by simp
      go_wp2_with fail
      refine H.out.mono ?_
      rintro _ w8 ⟨rfl, hb8⟩
      have F8 := Lib.hid (F7.out.later hb8)
      have X8 := Lib.hid (X7.out.later hb8)
      have Y8 := Lib.hid (Y7.out.later hb8)
      clear hb8 F7 X7 Y7 H x0 x1 x2 x3
      clear w7
      obtain ⟨x2, x3⟩ : w8.cell? ⟨w.heap.size + 1, 0, none⟩ = some (.slice r l f) ∧ w8.cell? ⟨w.heap.size + 1, 1, none⟩ = some (.slice s l g) := ⟨F8.out.bb.1, F8.out.bb.2⟩
      have H := Lib.hid (refright_any r s l f l g T U l w8 F8.out.i3 F8.out.i4)
      rw [HRB.out] at H
      go_wp2_with fail
      refine H.out.mono ?_
      rintro _ w9 ⟨rfl, hb9⟩
      have F9 := Lib.hid (F8.out.later hb9)
      have X9 := Lib.hid (X8.out.later hb9)
      have Y9 := Lib.hid (Y8.out.later hb9)
      clear hb9 F8 X8 Y8 H x2 x3
      clear w8
      obtain ⟨x2, x3⟩ : w9.cell? ⟨w.heap.size + 1, 0, none⟩ = some (.slice r l f) ∧ w9.cell? ⟨w.heap.size + 1, 1, none⟩ = some (.slice s l g) := ⟨F9.out.bb.1, F9.out.bb.2⟩
      obtain ⟨x0, x1, -, -⟩ := X9.out.bx.facts
      have H := Lib.hid (holds_any _ _ r s l l l l l f l g _ _ T U w9 X9.out.i1 X9.out.i2 F9.out.i3 F9.out.i4)
      rw [HH1.out] at H
      go_wp2_with fail
      refine H.out.mono ?_
      rintro _ w10 ⟨rfl, hb10⟩
      have F10 := Lib.hid (F9.out.later hb10)
      have X10 := Lib.hid (X9.out.later hb10)
      have Y10 := Lib.hid (Y9.out.later hb10)
      clear hb10 F9 X9 Y9 H x0 x1 x2 x3
      clear w9
      obtain ⟨x2, x3⟩ : w10.cell? ⟨w.heap.size + 1, 0, none⟩ = some (.slice r l f) ∧ w10.cell? ⟨w.heap.size + 1, 1, none⟩ = some (.slice s l g) := ⟨F10.out.bb.1, F10.out.bb.2⟩
      obtain ⟨x0, x1, -, -⟩ := Y10.out.bx.facts
      have H := Lib.hid (has_any _ _ r l l l l l f _ _ T w10 Y10.out.i1 Y10.out.i2 F10.out.i3)
      rw [HH2.out] at H
      go_wp2_with fail
      refine H.out.mono ?_
      rintro _ w11 ⟨rfl, hb11⟩
      have F11 := Lib.hid (F10.out.later hb11)
      have X11 := Lib.hid (X10.out.later hb11)
      have Y11 := Lib.hid (Y10.out.later hb11)
      clear hb11 F10 X10 Y10 H x0 x1 x2 x3
      clear w10
      obtain ⟨x2, x3⟩ : w11.cell? ⟨w.heap.size + 1, 0, none⟩ = some (.slice r l f) ∧ w11.cell? ⟨w.heap.size + 1, 1, none⟩ = some (.slice s l g) := ⟨F11.out.bb.1, F11.out.bb.2⟩
      obtain ⟨x0, x1, -, -⟩ := Y11.out.bx.facts
      have H := Lib.hid (holds_any r s _ _ l f l g l l l l T U _ _ w11 F11.out.i3 F11.out.i4 Y11.out.i1 Y11.out.i2)
      rw [HH3.out] at H
      go_wp2_with fail
      refine H.out.mono ?_
      rintro _ w12 ⟨rfl, hb12⟩
      have F12 := Lib.hid (F11.out.later hb12)
      have X12 := Lib.hid (X11.out.later hb12)
      clear hb12 F11 X11 Y11 H x0 x1 x2 x3
      clear w11
      obtain ⟨x0, x1, -, -⟩ := X12.out.bx.facts
      have H := Lib.hid (refright_any _ _ l l l l _ _ l w12 X12.out.i1 X12.out.i2)
      rw [HH4.out] at H
      go_wp2_with fail
      refine H.out.mono ?_
      rintro _ w13 ⟨rfl, hb13⟩
      have F13 := Lib.hid (F12.out.later hb13)
      clear hb13
      go_wp2_with fail
      go_ret
      exact ⟨rfl, F13.out.below⟩
    | false =>
      have HRB := Lib.hid hrb
      clear ht hrb
      have H := Lib.hid (of_form r k f T w5 F5.out.i3)
      go_wp2_with fail
      refine H.out.mono ?_
      rintro _ w6 ⟨pa, na, ca, pb, nb, cb, rfl, hb6⟩
      have F6 := Lib.hid (F5.out.later hb6)
      have X6 := Lib.hid (X5.out.later hb6)
      clear hb6 F5 X5 H y0
      clear w5
      go_upto_region 8 with fail
      have b7 : Below w6.heap.size w6 (w6.alloc (.cells #[.slice pa na ca, .slice pb nb cb] 25)) := (Below.refl _ _).alloc (Nat.le_refl _) _
      generalize w6.alloc (.cells #[.slice pa na ca, .slice pb nb cb] 25) = w7 at *
      have F7 := Lib.hid (F6.out.later b7)
      have X7 := Lib.hid (X6.out.later b7)
      clear b7 F6 X6
      generalize w6.heap.size = go at *
      clear w6
      have HH4 := Lib.hid (whole_right N HD.out)
      obtain ⟨x0, x1, x2, x3⟩ : w7.cell? ⟨w.heap.size, 0, none⟩ = some (.slice p n c) ∧ w7.cell? ⟨w.heap.size, 1, none⟩ = some (.slice q m e) ∧ w7.cell? ⟨w.heap.size + 1, 0, none⟩ = some (.slice r k f) ∧ w7.cell? ⟨w.heap.size + 1, 1, none⟩ = some (.slice s l g) := ⟨F7.out.ba.1, F7.out.ba.2, F7.out.bb.1, F7.out.bb.2⟩
      have H := Lib.hid (holds_any p q r s n c m e k f l g R S T U w7 F7.out.i1 F7.out.i2 F7.out.i3 F7.out.i4)
      generalize holdsB R S T U n m k l = bh at *
      have e1 : (bh == bh) = true := by simp
      go_wp2_with fail
      refine H.out.mono ?_
      rintro _ w8 ⟨rfl, hb8⟩
      have F8 := Lib.hid (F7.out.later hb8)
      have X8 := Lib.hid (X7.out.later hb8)
      clear hb8 F7 X7 H x0 x1 x2 x3
      clear w7
      obtain ⟨x2, x3⟩ : w8.cell? ⟨w.heap.size + 1, 0, none⟩ = some (.slice r k f) ∧ w8.cell? ⟨w.heap.size + 1, 1, none⟩ = some (.slice s l g) := ⟨F8.out.bb.1, F8.out.bb.2⟩
      have H := Lib.hid (refright_any r s k f l g T U N w8 F8.out.i3 F8.out.i4)
      rw [HRB.out] at H
      go_wp2_with fail
      refine H.out.mono ?_
      rintro _ w9 ⟨rfl, hb9⟩
      have F9 := Lib.hid (F8.out.later hb9)
      have X9 := Lib.hid (X8.out.later hb9)
      clear hb9 F8 X8 H x2 x3
      clear w8
      obtain ⟨x0, x1, -, -⟩ := X9.out.bx.facts
      have H := Lib.hid (refright_any _ _ N N N N _ _ N w9 X9.out.i1 X9.out.i2)
      rw [HH4.out] at H
      go_wp2_with fail
      refine H.out.mono ?_
      rintro _ w10 ⟨rfl, hb10⟩
      have F10 := Lib.hid (F9.out.later hb10)
      clear hb10
      go_wp2_with fail
      go_ret
      exact ⟨rfl, F10.out.below⟩
end Go.Proofs.Ythmloljnpjolmaa
