/- Proved: whatever two rows and box it is handed, the Go function indenturelaw06.ZrangeBetween returns true (no code in a box stands from any code on, ahead of the one that Skip tells; none up to it, behind the one that Back tells), and each argument reads afterwards as it read before. Conditions: none beyond the given row's own. -/
import Derived.Test.YtbhpmigblkaihaaM7
/- The law ZrangeBetween. gen_lbetween.py writes it. -/
namespace Go.Proofs.Ytbhpmigblkaihaa.Zr
open Go.RowKit Go.Proofs.Ytbhpmigblkaihaa.Mo Zm

theorem first_told {w w' : World} {L H P Q : List Int} {e : Ending} (hq : Q.length = P.length) (hQ : Mm.inI Q) (hb : inB L H Q) (h1 : Cm.cmpL (Mm.code P) (Mm.code Q) ≤ 0) (hp : FindPost w false L H P e w') :
    ∃ X q c, FirstIn L H P X ∧ Cm.cmpL (Mm.code X) (Mm.code Q) ≤ 0 ∧ e = .returned (.tuple #[.slice q (8 * P.length) c, .bool true]) ∧ Bytes w' q (8 * P.length) c (Mm.code X) ∧ Below w.heap.size w w' := by
  obtain ⟨ok, v, rfl, hb2, hno, hok⟩ := hp
  cases ok with
  | false => exact absurd h1 ((hno rfl).2 Q hq hQ hb)
  | true =>
    obtain ⟨X, q, c, hX, rfl, hq2⟩ := hok rfl
    exact ⟨X, q, c, hX, FirstIn.least hX Q hq hQ hb h1, rfl, hq2, hb2⟩
theorem last_told {w w' : World} {L H P Q : List Int} {e : Ending} (hq : Q.length = P.length) (hQ : Mm.inI Q) (hb : inB L H Q) (h1 : Cm.cmpL (Mm.code Q) (Mm.code P) ≤ 0) (hp : FindPost w true L H P e w') :
    ∃ X q c, LastIn L H P X ∧ Cm.cmpL (Mm.code Q) (Mm.code X) ≤ 0 ∧ e = .returned (.tuple #[.slice q (8 * P.length) c, .bool true]) ∧ Bytes w' q (8 * P.length) c (Mm.code X) ∧ Below w.heap.size w w' := by
  obtain ⟨ok, v, rfl, hb2, hno, hok⟩ := hp
  cases ok with
  | false => exact absurd h1 ((hno rfl).2 Q hq hQ hb)
  | true =>
    obtain ⟨X, q, c, hX, rfl, hq2⟩ := hok rfl
    exact ⟨X, q, c, hX, LastIn.last hX Q hq hQ hb h1, rfl, hq2, hb2⟩
theorem no_lt {A B : List Int} (h : Cm.cmpL (Mm.code A) (Mm.code B) ≤ 0) : decide (Cm.cmpL (Mm.code B) (Mm.code A) < 0) = false := by
  have := Cm.cmpL_neg (Mm.code B) (Mm.code A)
  exact decide_eq_false (by omega)
set_option maxRecDepth 100000 in
set_option maxHeartbeats 4000000 in
theorem zlbetween_any (R S P Q : List Int) (p q s r : Option Addr) (n c m e l f k h : Nat) (w : World) (hR : Ints w p n c R) (hS : Ints w q m e S) (hP : Ints w s l f P) (hQ : Ints w r k h Q) (hn : n ≤ 9223372036854775807) (hl : l ≤ 9223372036854775807) (hk : k ≤ 9223372036854775807) :
    Calls Try.prog 4 #[.slice s l f, .slice r k h, .agg #[.slice p n c, .slice q m e]] w fun e w' => e = .returned (.bool true) ∧ Below w.heap.size w w' := by
  obtain ⟨w1, hw1⟩ : ∃ w1, w1 = w.alloc (.cells #[.slice p n c, .slice q m e] 26) := ⟨_, rfl⟩
  obtain ⟨hbi, hb1⟩ := lbox hR hS hw1
  have HP1 := Lib.hid (hP.later hb1)
  have HQ1 := Lib.hid (hQ.later hb1)
  go_enter Try.func4, Try.ntmps4
  go_upto_region 1 with fail
  rw [← hw1]
  have HBI := Lib.hid hbi
  have HB1 := Lib.hid hb1
  clear hw1 hbi hb1 hR hS hP hQ
  go_wp2_with fail
  refine (zalive_any w1).mono ?_
  rintro _ w2 ⟨rfl, hb2⟩
  have HI2 := Lib.hid (HBI.out.later hb2)
  have HP2 := Lib.hid (HP1.out.later hb2)
  have HQ2 := Lib.hid (HQ1.out.later hb2)
  have HB2 := Lib.hid (HB1.out.trans (hb2.mono HB1.out.size))
  clear hb2 HBI HP1 HQ1 HB1
  obtain ⟨a0, a1⟩ := HI2.out.cells
  go_wp2_with fail
  refine (lright (Below.refl w2.heap.size w2) n HI2.out.i1 HI2.out.i2).mono ?_
  rintro _ w3 ⟨rfl, hb3⟩
  have B3 := Lib.hid hb3
  clear hb3 a0 a1
  obtain ⟨a0, a1⟩ := (HI2.out.later B3.out).cells
  cases hr : rightB R S n m n with
  | false =>
    clear hr
    go_wp2_with fail
    go_ret
    exact ⟨rfl, HB2.out.trans (B3.out.mono HB2.out.size)⟩
  | true =>
  obtain ⟨d1, d8, -, d4⟩ := rightB_dims hr
  obtain rfl : m = n := by omega
  have HR := Lib.hid hr
  clear hr d4
  by_cases hlm : l = m
  case neg =>
    have e1 : ((l : Int) != m) = true := by simp; omega
    go_wp2_with fail
    go_ret
    exact ⟨rfl, HB2.out.trans (B3.out.mono HB2.out.size)⟩
  subst hlm
  have e1 : ((l : Int) != l) = false := by simp
  go_wp2_with fail
  refine (lhas (w0 := w2) B3.out (HI2.out.later B3.out).i1 (HI2.out.later B3.out).i2 (HQ2.out.later B3.out)).mono ?_
  rintro _ w4 ⟨rfl, hb4⟩
  have B4 := Lib.hid hb4
  clear hb4 a0 a1 e1
  cases hh : hasB R S Q l l k with
  | false =>
    clear hh
    go_wp2_with fail
    go_ret
    exact ⟨rfl, HB2.out.trans (B4.out.mono HB2.out.size)⟩
  | true =>
  obtain ⟨-, -, hlk, -⟩ := zl_dims hh
  obtain rfl : k = l := hlk.symm
  have hin := (hasB_in HI2.out.i1.size.symm HQ2.out.size.symm HR.out).1 hh
  have HIN := Lib.hid hin
  clear hh hlk hin
  go_wp2_with fail
  refine (lcode (w0 := w2) B4.out (HP2.out.later B4.out) (by omega)).mono ?_
  rintro _ w5 ⟨q5, c5, rfl, hq5, hb5⟩
  have Q5 := Lib.hid hq5
  have B5 := Lib.hid hb5
  clear hq5 hb5
  go_wp2_with fail
  refine (lcode (w0 := w5) (Below.refl _ _) (HQ2.out.later B5.out) (by omega)).mono ?_
  rintro _ w6 ⟨q6, c6, rfl, hq6, hb6⟩
  have Q6 := Lib.hid hq6
  have C6 := Lib.hid (Q5.out.later hb6 Q5.out.lt)
  have B6 := Lib.hid (B5.out.trans (hb6.mono B5.out.size))
  clear hq6 hb6 Q5
  obtain ⟨a0, a1⟩ := (HI2.out.later B6.out).cells
  obtain ⟨X1, ok1, hpin1⟩ := find_pin false R S P
  have PIN1 := Lib.hid hpin1
  obtain ⟨X2, ok2, hpin2⟩ := find_pin true R S P
  have PIN2 := Lib.hid hpin2
  clear hpin1 hpin2
  have LPk := Lib.hid (show P.length = k from HP2.out.size.symm)
  have LQP := Lib.hid (show Q.length = P.length from HQ2.out.size.symm.trans HP2.out.size)
  by_cases hc : Cm.cmpL (Mm.code Q) (Mm.code P) < 0
  · have HC := Lib.hid (show Cm.cmpL (Mm.code Q) (Mm.code P) ≤ 0 by omega)
    have HD := Lib.hid (decide_eq_true hc)
    clear hc
    go_wp2_with fail
    refine (zskip_good P R S q5 p q k c5 c e w6 HP2.out.ok LPk.out C6.out (HI2.out.later B6.out).i1 (HI2.out.later B6.out).i2 HR.out).mono ?_
    rintro _ w7 hp7
    obtain ⟨q7, n7, c7, rfl, ht7, hb7⟩ := PIN1.out w6 w6 _ w7 (Below.refl _ _) hp7
    have B7 := Lib.hid (B6.out.trans (hb7.mono B6.out.size))
    have C7 := Lib.hid (C6.out.later hb7 C6.out.lt)
    have Q7 := Lib.hid (Q6.out.later hb7 Q6.out.lt)
    clear hp7 ht7 hb7 a0 a1
    obtain ⟨a0, a1⟩ := (HI2.out.later B7.out).cells
    go_wp2_with fail
    refine (zback_good P R S q5 p q k c5 c e w7 HP2.out.ok LPk.out C7.out (HI2.out.later B7.out).i1 (HI2.out.later B7.out).i2 HR.out).mono ?_
    rintro _ w8 hp8
    obtain ⟨X, q8, c8, hX, hXQ, rfl, hq8, hb8⟩ := last_told LQP.out HQ2.out.ok HIN.out HC.out hp8
    rw [LPk.out] at hq8 ⊢
    have U1 := Lib.hid (no_lt hXQ)
    have U2 := Lib.hid (no_lt hX.upto)
    have HXX := Lib.hid hX
    clear hp8 hXQ hX
    have B8 := Lib.hid (B7.out.trans (hb8.mono B7.out.size))
    have C8 := Lib.hid (C7.out.later hb8 C7.out.lt)
    have E8 := Lib.hid (Q7.out.later hb8 Q7.out.lt)
    have X8 := Lib.hid hq8
    clear hq8 hb8 a0 a1
    go_wp2_with fail
    refine (lless (Below.refl w8.heap.size w8) E8.out C8.out).mono ?_
    rintro _ w9 ⟨rfl, hb9⟩
    rw [HD.out]
    have B9 := Lib.hid (B8.out.trans (hb9.mono B8.out.size))
    have HG := Lib.hid (show ∀ w', Below w9.heap.size w9 w' → BI w' w.heap.size p q k c k e R S ∧ Bytes w' q5 (8 * k) c5 (Mm.code P) ∧ Bytes w' q6 (8 * k) c6 (Mm.code Q) ∧ Bytes w' q8 (8 * k) c8 (Mm.code X) from fun w' hb => by
      have h8 := hb9.trans (hb.mono hb9.size)
      exact ⟨HI2.out.later (B9.out.trans (hb.mono B9.out.size)), C8.out.later h8 C8.out.lt, E8.out.later h8 E8.out.lt, X8.out.later h8 X8.out.lt⟩)
    clear hb9
    have hpX := Mm.point_code HXX.out.ok
    rw [HXX.out.len, LPk.out] at hpX
    have HPX := Lib.hid hpX
    have HHX := Lib.hid ((hasB_in (HI2.out.i1.size.symm) (HXX.out.len.trans LPk.out) HR.out).2 HXX.out.box)
    clear hpX
    go_upto_region 10 with fail
    refine wp_region_held_drew (S := fun w' => Below w9.heap.size w9 w') (by kernel_rfl) (Below.refl _ _).drew (fun hHeld => ?_)
    refine wpAnyH_take (i := 0) (oi := ⟨some 54, .move (.tmp 13), _, _, _, _⟩) (v := ?_) rfl (by kernel_rfl) (by kernel_rfl) (by kernel_rfl) (fun _ _ _ h => h) (Or.inl ⟨by rfl, ?_⟩) (by assumption) ?_
    rotate_left
    · intro w' hSw
      go_simp
      try with_reducible rfl
    try simp only [Act.put, List.setIfInBounds_toArray, List.set_cons_zero, List.set_cons_succ]
    refine wpAnyH_take (i := 1) (oi := ⟨some 55, .move (.tmp 54), _, _, _, _⟩) (v := ?_) rfl (by kernel_rfl) (by kernel_rfl) (by kernel_rfl) (fun _ _ _ h => h) (Or.inl ⟨by rfl, ?_⟩) (by assumption) ?_
    rotate_left
    · intro w' hSw
      go_simp
      try with_reducible rfl
    try simp only [Act.put, List.setIfInBounds_toArray, List.set_cons_zero, List.set_cons_succ]
    refine wpAnyH_take (i := 2) (oi := ⟨some 56, .move (.tmp 12), _, _, _, _⟩) (v := ?_) rfl (by kernel_rfl) (by kernel_rfl) (by kernel_rfl) (fun _ _ _ h => h) (Or.inl ⟨by rfl, ?_⟩) (by assumption) ?_
    rotate_left
    · intro w' hSw
      go_simp
      try with_reducible rfl
    try simp only [Act.put, List.setIfInBounds_toArray, List.set_cons_zero, List.set_cons_succ]
    refine wpAnyH_take (i := 3) (oi := ⟨some 57, .move (.tmp 9), _, _, _, _⟩) (v := ?_) rfl (by kernel_rfl) (by kernel_rfl) (by kernel_rfl) (fun _ _ _ h => h) (Or.inl ⟨by rfl, ?_⟩) (by assumption) ?_
    rotate_left
    · intro w' hSw
      go_simp
      try with_reducible rfl
    try simp only [Act.put, List.setIfInBounds_toArray, List.set_cons_zero, List.set_cons_succ]
    refine wpAnyH_ready (rs := [4]) (by kernel_rfl) (by simp) ?_
    refine AllReadyH.cons (o := ⟨some 58, .call ⟨.value (.func 15), #[.tmp 56, .tmp 57], #[22, 22]⟩, _, _, _, _⟩) rfl (fun K hK => ?_) AllReadyH.nil
    go_simp
    with_reducible refine (lless (w0 := w9) hHeld (HG.out _ hHeld).2.2.2 (HG.out _ hHeld).2.2.1).mono ?_
    rintro _ w58 ⟨rfl, hS58⟩
    rw [U1.out]
    try go_wp2_with fail
    refine hK.out _ _ hS58 (fun hHeld => ?_)
    clear hK K
    try simp only [Act.put, List.setIfInBounds_toArray, List.set_cons_zero, List.set_cons_succ]
    refine wpAnyH_take (i := 5) (oi := ⟨some 59, .unOp .not 4 (.tmp 58), _, _, _, _⟩) (v := ?_) rfl (by kernel_rfl) (by kernel_rfl) (by kernel_rfl) (fun _ _ _ h => h) (Or.inl ⟨by rfl, ?_⟩) (by assumption) ?_
    rotate_left
    · intro w' hSw
      go_simp
      try with_reducible rfl
    try simp only [Act.put, List.setIfInBounds_toArray, List.set_cons_zero, List.set_cons_succ]
    refine wpAnyH_take (i := 6) (oi := ⟨some 60, .pick (.tmp 55) (.tmp 59) (.const (.bool false)), _, _, _, _⟩) (v := ?_) rfl (by kernel_rfl) (by kernel_rfl) (by kernel_rfl) (fun _ _ _ h => h) (Or.inl ⟨by rfl, ?_⟩) (by assumption) ?_
    rotate_left
    · intro w' hSw
      go_simp
      try with_reducible rfl
    try simp only [Act.put, List.setIfInBounds_toArray, List.set_cons_zero, List.set_cons_succ]
    refine wpAnyH_take (i := 7) (oi := ⟨some 61, .move (.tmp 60), _, _, _, _⟩) (v := ?_) rfl (by kernel_rfl) (by kernel_rfl) (by kernel_rfl) (fun _ _ _ h => h) (Or.inl ⟨by rfl, ?_⟩) (by assumption) ?_
    rotate_left
    · intro w' hSw
      go_simp
      try with_reducible rfl
    try simp only [Act.put, List.setIfInBounds_toArray, List.set_cons_zero, List.set_cons_succ]
    refine wpAnyH_take (i := 8) (oi := ⟨some 62, .move (.tmp 8), _, _, _, _⟩) (v := ?_) rfl (by kernel_rfl) (by kernel_rfl) (by kernel_rfl) (fun _ _ _ h => h) (Or.inl ⟨by rfl, ?_⟩) (by assumption) ?_
    rotate_left
    · intro w' hSw
      go_simp
      try with_reducible rfl
    try simp only [Act.put, List.setIfInBounds_toArray, List.set_cons_zero, List.set_cons_succ]
    refine wpAnyH_take (i := 9) (oi := ⟨some 63, .move (.tmp 12), _, _, _, _⟩) (v := ?_) rfl (by kernel_rfl) (by kernel_rfl) (by kernel_rfl) (fun _ _ _ h => h) (Or.inl ⟨by rfl, ?_⟩) (by assumption) ?_
    rotate_left
    · intro w' hSw
      go_simp
      try with_reducible rfl
    try simp only [Act.put, List.setIfInBounds_toArray, List.set_cons_zero, List.set_cons_succ]
    refine wpAnyH_ready (rs := [10]) (by kernel_rfl) (by simp) ?_
    refine AllReadyH.cons (o := ⟨some 64, .call ⟨.value (.func 15), #[.tmp 62, .tmp 63], #[22, 22]⟩, _, _, _, _⟩) rfl (fun K hK => ?_) AllReadyH.nil
    go_simp
    with_reducible refine (lless (w0 := w9) hHeld (HG.out _ hHeld).2.1 (HG.out _ hHeld).2.2.2).mono ?_
    rintro _ w64 ⟨rfl, hS64⟩
    rw [U2.out]
    try go_wp2_with fail
    refine hK.out _ _ hS64 (fun hHeld => ?_)
    clear hK K
    try simp only [Act.put, List.setIfInBounds_toArray, List.set_cons_zero, List.set_cons_succ]
    refine wpAnyH_take (i := 11) (oi := ⟨some 65, .unOp .not 4 (.tmp 64), _, _, _, _⟩) (v := ?_) rfl (by kernel_rfl) (by kernel_rfl) (by kernel_rfl) (fun _ _ _ h => h) (Or.inl ⟨by rfl, ?_⟩) (by assumption) ?_
    rotate_left
    · intro w' hSw
      go_simp
      try with_reducible rfl
    try simp only [Act.put, List.setIfInBounds_toArray, List.set_cons_zero, List.set_cons_succ]
    refine wpAnyH_take (i := 12) (oi := ⟨some 66, .pick (.tmp 61) (.tmp 65) (.const (.bool false)), _, _, _, _⟩) (v := ?_) rfl (by kernel_rfl) (by kernel_rfl) (by kernel_rfl) (fun _ _ _ h => h) (Or.inl ⟨by rfl, ?_⟩) (by assumption) ?_
    rotate_left
    · intro w' hSw
      go_simp
      try with_reducible rfl
    try simp only [Act.put, List.setIfInBounds_toArray, List.set_cons_zero, List.set_cons_succ]
    refine wpAnyH_take (i := 13) (oi := ⟨some 67, .move (.tmp 66), _, _, _, _⟩) (v := ?_) rfl (by kernel_rfl) (by kernel_rfl) (by kernel_rfl) (fun _ _ _ h => h) (Or.inl ⟨by rfl, ?_⟩) (by assumption) ?_
    rotate_left
    · intro w' hSw
      go_simp
      try with_reducible rfl
    try simp only [Act.put, List.setIfInBounds_toArray, List.set_cons_zero, List.set_cons_succ]
    refine wpAnyH_take (i := 14) (oi := ⟨some 68, .load 26 (.tmp 5), _, _, _, _⟩) (v := ?_) rfl (by kernel_rfl) (by kernel_rfl) (by kernel_rfl) (fun _ _ _ h => h) (Or.inl ⟨by rfl, ?_⟩) (by assumption) ?_
    rotate_left
    · intro w' hSw
      obtain ⟨a0, a1⟩ := (HG.out _ hSw).1.cells
      go_simp
      try with_reducible rfl
    try simp only [Act.put, List.setIfInBounds_toArray, List.set_cons_zero, List.set_cons_succ]
    refine wpAnyH_take (i := 15) (oi := ⟨some 69, .move (.tmp 12), _, _, _, _⟩) (v := ?_) rfl (by kernel_rfl) (by kernel_rfl) (by kernel_rfl) (fun _ _ _ h => h) (Or.inl ⟨by rfl, ?_⟩) (by assumption) ?_
    rotate_left
    · intro w' hSw
      go_simp
      try with_reducible rfl
    try simp only [Act.put, List.setIfInBounds_toArray, List.set_cons_zero, List.set_cons_succ]
    refine wpAnyH_take (i := 16) (oi := ⟨some 70, .move (.tmp 7), _, _, _, _⟩) (v := ?_) rfl (by kernel_rfl) (by kernel_rfl) (by kernel_rfl) (fun _ _ _ h => h) (Or.inl ⟨by rfl, ?_⟩) (by assumption) ?_
    rotate_left
    · intro w' hSw
      go_simp
      try with_reducible rfl
    try simp only [Act.put, List.setIfInBounds_toArray, List.set_cons_zero, List.set_cons_succ]
    refine wpAnyH_ready (rs := [17]) (by kernel_rfl) (by simp) ?_
    refine AllReadyH.cons (o := ⟨some 71, .call ⟨.value (.func 16), #[.tmp 69, .tmp 70], #[22, 3]⟩, _, _, _, _⟩) rfl (fun K hK => ?_) AllReadyH.nil
    go_simp
    with_reducible refine (lpoint (w0 := w64) (d := k) (Below.refl _ _) (HG.out _ hHeld).2.2.2 (by omega) (by omega) rfl).mono ?_
    rintro _ w71 ⟨q71, c71, rfl, hq71, hT71⟩
    rw [HPX.out] at hq71
    have hS71 := hS64.trans (hT71.mono hS64.size)
    try go_wp2_with fail
    refine hK.out _ _ hS71 (fun hHeld => ?_)
    clear hK K
    try simp only [Act.put, List.setIfInBounds_toArray, List.set_cons_zero, List.set_cons_succ]
    refine wpAnyH_ready (rs := [18]) (by kernel_rfl) (by simp) ?_
    refine AllReadyH.cons (o := ⟨some 72, .call ⟨.value (.func 13), #[.tmp 68, .tmp 71], #[26, 24]⟩, _, _, _, _⟩) rfl (fun K hK => ?_) AllReadyH.nil
    go_simp
    with_reducible refine (lhas (w0 := w9) hHeld (HG.out _ hHeld).1.i1 (HG.out _ hHeld).1.i2 hq71).mono ?_
    rintro _ w72 ⟨rfl, hS72⟩
    rw [HHX.out]
    try go_wp2_with fail
    refine hK.out _ _ hS72 (fun hHeld => ?_)
    clear hK K
    try simp only [Act.put, List.setIfInBounds_toArray, List.set_cons_zero, List.set_cons_succ]
    refine wpAnyH_take (i := 19) (oi := ⟨some 73, .pick (.tmp 67) (.tmp 72) (.const (.bool false)), _, _, _, _⟩) (v := ?_) rfl (by kernel_rfl) (by kernel_rfl) (by kernel_rfl) (fun _ _ _ h => h) (Or.inl ⟨by rfl, ?_⟩) (by assumption) ?_
    rotate_left
    · intro w' hSw
      go_simp
      try with_reducible rfl
    try simp only [Act.put, List.setIfInBounds_toArray, List.set_cons_zero, List.set_cons_succ]
    refine wpAnyH_take (i := 20) (oi := ⟨some 6, .assign (.tmp 73), _, _, _, _⟩) (v := ?_) rfl (by kernel_rfl) (by kernel_rfl) (by kernel_rfl) (fun _ _ _ h => h) (Or.inl ⟨by rfl, ?_⟩) (by assumption) ?_
    rotate_left
    · intro w' hSw
      go_simp
      try with_reducible rfl
    try simp only [Act.put, List.setIfInBounds_toArray, List.set_cons_zero, List.set_cons_succ]
    refine wpAnyH_done (by kernel_rfl) ?_ _
    go_wp2_with fail
    go_ret
    exact ⟨by first | rfl | simp, HB2.out.trans ((B9.out.trans (hS72.mono B9.out.size)).mono HB2.out.size)⟩
  · have HC := Lib.hid (show Cm.cmpL (Mm.code P) (Mm.code Q) ≤ 0 by have := Cm.cmpL_neg (Mm.code P) (Mm.code Q); omega)
    have HD := Lib.hid (decide_eq_false hc)
    clear hc
    go_wp2_with fail
    refine (zskip_good P R S q5 p q k c5 c e w6 HP2.out.ok LPk.out C6.out (HI2.out.later B6.out).i1 (HI2.out.later B6.out).i2 HR.out).mono ?_
    rintro _ w7 hp7
    obtain ⟨X, q8, c8, hX, hXQ, rfl, hq8, hb7⟩ := first_told LQP.out HQ2.out.ok HIN.out HC.out hp7
    rw [LPk.out] at hq8 ⊢
    have U1 := Lib.hid (no_lt hXQ)
    have U2 := Lib.hid (no_lt hX.from')
    have HXX := Lib.hid hX
    clear hp7 hXQ hX
    have B7 := Lib.hid (B6.out.trans (hb7.mono B6.out.size))
    have C7 := Lib.hid (C6.out.later hb7 C6.out.lt)
    have Q7 := Lib.hid (Q6.out.later hb7 Q6.out.lt)
    have X7 := Lib.hid hq8
    clear hb7 a0 a1 hq8
    obtain ⟨a0, a1⟩ := (HI2.out.later B7.out).cells
    go_wp2_with fail
    refine (zback_good P R S q5 p q k c5 c e w7 HP2.out.ok LPk.out C7.out (HI2.out.later B7.out).i1 (HI2.out.later B7.out).i2 HR.out).mono ?_
    rintro _ w8 hp8
    obtain ⟨q9, n9, c9, rfl, ht8, hb8⟩ := PIN2.out w7 w7 _ w8 (Below.refl _ _) hp8
    have B8 := Lib.hid (B7.out.trans (hb8.mono B7.out.size))
    have C8 := Lib.hid (C7.out.later hb8 C7.out.lt)
    have E8 := Lib.hid (Q7.out.later hb8 Q7.out.lt)
    have X8 := Lib.hid (X7.out.later hb8 X7.out.lt)
    clear hp8 ht8 hb8 a0 a1
    go_wp2_with fail
    refine (lless (Below.refl w8.heap.size w8) E8.out C8.out).mono ?_
    rintro _ w9 ⟨rfl, hb9⟩
    rw [HD.out]
    have B9 := Lib.hid (B8.out.trans (hb9.mono B8.out.size))
    have HG := Lib.hid (show ∀ w', Below w9.heap.size w9 w' → BI w' w.heap.size p q k c k e R S ∧ Bytes w' q5 (8 * k) c5 (Mm.code P) ∧ Bytes w' q6 (8 * k) c6 (Mm.code Q) ∧ Bytes w' q8 (8 * k) c8 (Mm.code X) from fun w' hb => by
      have h8 := hb9.trans (hb.mono hb9.size)
      exact ⟨HI2.out.later (B9.out.trans (hb.mono B9.out.size)), C8.out.later h8 C8.out.lt, E8.out.later h8 E8.out.lt, X8.out.later h8 X8.out.lt⟩)
    clear hb9
    have hpX := Mm.point_code HXX.out.ok
    rw [HXX.out.len, LPk.out] at hpX
    have HPX := Lib.hid hpX
    have HHX := Lib.hid ((hasB_in (HI2.out.i1.size.symm) (HXX.out.len.trans LPk.out) HR.out).2 HXX.out.box)
    clear hpX
    go_upto_region 11 with fail
    refine wp_region_held_drew (S := fun w' => Below w9.heap.size w9 w') (by kernel_rfl) (Below.refl _ _).drew (fun hHeld => ?_)
    refine wpAnyH_take (i := 0) (oi := ⟨some 74, .move (.tmp 11), _, _, _, _⟩) (v := ?_) rfl (by kernel_rfl) (by kernel_rfl) (by kernel_rfl) (fun _ _ _ h => h) (Or.inl ⟨by rfl, ?_⟩) (by assumption) ?_
    rotate_left
    · intro w' hSw
      go_simp
      try with_reducible rfl
    try simp only [Act.put, List.setIfInBounds_toArray, List.set_cons_zero, List.set_cons_succ]
    refine wpAnyH_take (i := 1) (oi := ⟨some 75, .move (.tmp 74), _, _, _, _⟩) (v := ?_) rfl (by kernel_rfl) (by kernel_rfl) (by kernel_rfl) (fun _ _ _ h => h) (Or.inl ⟨by rfl, ?_⟩) (by assumption) ?_
    rotate_left
    · intro w' hSw
      go_simp
      try with_reducible rfl
    try simp only [Act.put, List.setIfInBounds_toArray, List.set_cons_zero, List.set_cons_succ]
    refine wpAnyH_take (i := 2) (oi := ⟨some 76, .move (.tmp 9), _, _, _, _⟩) (v := ?_) rfl (by kernel_rfl) (by kernel_rfl) (by kernel_rfl) (fun _ _ _ h => h) (Or.inl ⟨by rfl, ?_⟩) (by assumption) ?_
    rotate_left
    · intro w' hSw
      go_simp
      try with_reducible rfl
    try simp only [Act.put, List.setIfInBounds_toArray, List.set_cons_zero, List.set_cons_succ]
    refine wpAnyH_take (i := 3) (oi := ⟨some 77, .move (.tmp 10), _, _, _, _⟩) (v := ?_) rfl (by kernel_rfl) (by kernel_rfl) (by kernel_rfl) (fun _ _ _ h => h) (Or.inl ⟨by rfl, ?_⟩) (by assumption) ?_
    rotate_left
    · intro w' hSw
      go_simp
      try with_reducible rfl
    try simp only [Act.put, List.setIfInBounds_toArray, List.set_cons_zero, List.set_cons_succ]
    refine wpAnyH_ready (rs := [4]) (by kernel_rfl) (by simp) ?_
    refine AllReadyH.cons (o := ⟨some 78, .call ⟨.value (.func 15), #[.tmp 76, .tmp 77], #[22, 22]⟩, _, _, _, _⟩) rfl (fun K hK => ?_) AllReadyH.nil
    go_simp
    with_reducible refine (lless (w0 := w9) hHeld (HG.out _ hHeld).2.2.1 (HG.out _ hHeld).2.2.2).mono ?_
    rintro _ w78 ⟨rfl, hS78⟩
    rw [U1.out]
    try go_wp2_with fail
    refine hK.out _ _ hS78 (fun hHeld => ?_)
    clear hK K
    try simp only [Act.put, List.setIfInBounds_toArray, List.set_cons_zero, List.set_cons_succ]
    refine wpAnyH_take (i := 5) (oi := ⟨some 79, .unOp .not 4 (.tmp 78), _, _, _, _⟩) (v := ?_) rfl (by kernel_rfl) (by kernel_rfl) (by kernel_rfl) (fun _ _ _ h => h) (Or.inl ⟨by rfl, ?_⟩) (by assumption) ?_
    rotate_left
    · intro w' hSw
      go_simp
      try with_reducible rfl
    try simp only [Act.put, List.setIfInBounds_toArray, List.set_cons_zero, List.set_cons_succ]
    refine wpAnyH_take (i := 6) (oi := ⟨some 80, .pick (.tmp 75) (.tmp 79) (.const (.bool false)), _, _, _, _⟩) (v := ?_) rfl (by kernel_rfl) (by kernel_rfl) (by kernel_rfl) (fun _ _ _ h => h) (Or.inl ⟨by rfl, ?_⟩) (by assumption) ?_
    rotate_left
    · intro w' hSw
      go_simp
      try with_reducible rfl
    try simp only [Act.put, List.setIfInBounds_toArray, List.set_cons_zero, List.set_cons_succ]
    refine wpAnyH_take (i := 7) (oi := ⟨some 81, .move (.tmp 80), _, _, _, _⟩) (v := ?_) rfl (by kernel_rfl) (by kernel_rfl) (by kernel_rfl) (fun _ _ _ h => h) (Or.inl ⟨by rfl, ?_⟩) (by assumption) ?_
    rotate_left
    · intro w' hSw
      go_simp
      try with_reducible rfl
    try simp only [Act.put, List.setIfInBounds_toArray, List.set_cons_zero, List.set_cons_succ]
    refine wpAnyH_take (i := 8) (oi := ⟨some 82, .move (.tmp 10), _, _, _, _⟩) (v := ?_) rfl (by kernel_rfl) (by kernel_rfl) (by kernel_rfl) (fun _ _ _ h => h) (Or.inl ⟨by rfl, ?_⟩) (by assumption) ?_
    rotate_left
    · intro w' hSw
      go_simp
      try with_reducible rfl
    try simp only [Act.put, List.setIfInBounds_toArray, List.set_cons_zero, List.set_cons_succ]
    refine wpAnyH_take (i := 9) (oi := ⟨some 83, .move (.tmp 8), _, _, _, _⟩) (v := ?_) rfl (by kernel_rfl) (by kernel_rfl) (by kernel_rfl) (fun _ _ _ h => h) (Or.inl ⟨by rfl, ?_⟩) (by assumption) ?_
    rotate_left
    · intro w' hSw
      go_simp
      try with_reducible rfl
    try simp only [Act.put, List.setIfInBounds_toArray, List.set_cons_zero, List.set_cons_succ]
    refine wpAnyH_ready (rs := [10]) (by kernel_rfl) (by simp) ?_
    refine AllReadyH.cons (o := ⟨some 84, .call ⟨.value (.func 15), #[.tmp 82, .tmp 83], #[22, 22]⟩, _, _, _, _⟩) rfl (fun K hK => ?_) AllReadyH.nil
    go_simp
    with_reducible refine (lless (w0 := w9) hHeld (HG.out _ hHeld).2.2.2 (HG.out _ hHeld).2.1).mono ?_
    rintro _ w84 ⟨rfl, hS84⟩
    rw [U2.out]
    try go_wp2_with fail
    refine hK.out _ _ hS84 (fun hHeld => ?_)
    clear hK K
    try simp only [Act.put, List.setIfInBounds_toArray, List.set_cons_zero, List.set_cons_succ]
    refine wpAnyH_take (i := 11) (oi := ⟨some 85, .unOp .not 4 (.tmp 84), _, _, _, _⟩) (v := ?_) rfl (by kernel_rfl) (by kernel_rfl) (by kernel_rfl) (fun _ _ _ h => h) (Or.inl ⟨by rfl, ?_⟩) (by assumption) ?_
    rotate_left
    · intro w' hSw
      go_simp
      try with_reducible rfl
    try simp only [Act.put, List.setIfInBounds_toArray, List.set_cons_zero, List.set_cons_succ]
    refine wpAnyH_take (i := 12) (oi := ⟨some 86, .pick (.tmp 81) (.tmp 85) (.const (.bool false)), _, _, _, _⟩) (v := ?_) rfl (by kernel_rfl) (by kernel_rfl) (by kernel_rfl) (fun _ _ _ h => h) (Or.inl ⟨by rfl, ?_⟩) (by assumption) ?_
    rotate_left
    · intro w' hSw
      go_simp
      try with_reducible rfl
    try simp only [Act.put, List.setIfInBounds_toArray, List.set_cons_zero, List.set_cons_succ]
    refine wpAnyH_take (i := 13) (oi := ⟨some 87, .move (.tmp 86), _, _, _, _⟩) (v := ?_) rfl (by kernel_rfl) (by kernel_rfl) (by kernel_rfl) (fun _ _ _ h => h) (Or.inl ⟨by rfl, ?_⟩) (by assumption) ?_
    rotate_left
    · intro w' hSw
      go_simp
      try with_reducible rfl
    try simp only [Act.put, List.setIfInBounds_toArray, List.set_cons_zero, List.set_cons_succ]
    refine wpAnyH_take (i := 14) (oi := ⟨some 88, .load 26 (.tmp 5), _, _, _, _⟩) (v := ?_) rfl (by kernel_rfl) (by kernel_rfl) (by kernel_rfl) (fun _ _ _ h => h) (Or.inl ⟨by rfl, ?_⟩) (by assumption) ?_
    rotate_left
    · intro w' hSw
      obtain ⟨a0, a1⟩ := (HG.out _ hSw).1.cells
      go_simp
      try with_reducible rfl
    try simp only [Act.put, List.setIfInBounds_toArray, List.set_cons_zero, List.set_cons_succ]
    refine wpAnyH_take (i := 15) (oi := ⟨some 89, .move (.tmp 10), _, _, _, _⟩) (v := ?_) rfl (by kernel_rfl) (by kernel_rfl) (by kernel_rfl) (fun _ _ _ h => h) (Or.inl ⟨by rfl, ?_⟩) (by assumption) ?_
    rotate_left
    · intro w' hSw
      go_simp
      try with_reducible rfl
    try simp only [Act.put, List.setIfInBounds_toArray, List.set_cons_zero, List.set_cons_succ]
    refine wpAnyH_take (i := 16) (oi := ⟨some 90, .move (.tmp 7), _, _, _, _⟩) (v := ?_) rfl (by kernel_rfl) (by kernel_rfl) (by kernel_rfl) (fun _ _ _ h => h) (Or.inl ⟨by rfl, ?_⟩) (by assumption) ?_
    rotate_left
    · intro w' hSw
      go_simp
      try with_reducible rfl
    try simp only [Act.put, List.setIfInBounds_toArray, List.set_cons_zero, List.set_cons_succ]
    refine wpAnyH_ready (rs := [17]) (by kernel_rfl) (by simp) ?_
    refine AllReadyH.cons (o := ⟨some 91, .call ⟨.value (.func 16), #[.tmp 89, .tmp 90], #[22, 3]⟩, _, _, _, _⟩) rfl (fun K hK => ?_) AllReadyH.nil
    go_simp
    with_reducible refine (lpoint (w0 := w84) (d := k) (Below.refl _ _) (HG.out _ hHeld).2.2.2 (by omega) (by omega) rfl).mono ?_
    rintro _ w91 ⟨q91, c91, rfl, hq91, hT91⟩
    rw [HPX.out] at hq91
    have hS91 := hS84.trans (hT91.mono hS84.size)
    try go_wp2_with fail
    refine hK.out _ _ hS91 (fun hHeld => ?_)
    clear hK K
    try simp only [Act.put, List.setIfInBounds_toArray, List.set_cons_zero, List.set_cons_succ]
    refine wpAnyH_ready (rs := [18]) (by kernel_rfl) (by simp) ?_
    refine AllReadyH.cons (o := ⟨some 92, .call ⟨.value (.func 13), #[.tmp 88, .tmp 91], #[26, 24]⟩, _, _, _, _⟩) rfl (fun K hK => ?_) AllReadyH.nil
    go_simp
    with_reducible refine (lhas (w0 := w9) hHeld (HG.out _ hHeld).1.i1 (HG.out _ hHeld).1.i2 hq91).mono ?_
    rintro _ w92 ⟨rfl, hS92⟩
    rw [HHX.out]
    try go_wp2_with fail
    refine hK.out _ _ hS92 (fun hHeld => ?_)
    clear hK K
    try simp only [Act.put, List.setIfInBounds_toArray, List.set_cons_zero, List.set_cons_succ]
    refine wpAnyH_take (i := 19) (oi := ⟨some 93, .pick (.tmp 87) (.tmp 92) (.const (.bool false)), _, _, _, _⟩) (v := ?_) rfl (by kernel_rfl) (by kernel_rfl) (by kernel_rfl) (fun _ _ _ h => h) (Or.inl ⟨by rfl, ?_⟩) (by assumption) ?_
    rotate_left
    · intro w' hSw
      go_simp
      try with_reducible rfl
    try simp only [Act.put, List.setIfInBounds_toArray, List.set_cons_zero, List.set_cons_succ]
    refine wpAnyH_take (i := 20) (oi := ⟨some 6, .assign (.tmp 93), _, _, _, _⟩) (v := ?_) rfl (by kernel_rfl) (by kernel_rfl) (by kernel_rfl) (fun _ _ _ h => h) (Or.inl ⟨by rfl, ?_⟩) (by assumption) ?_
    rotate_left
    · intro w' hSw
      go_simp
      try with_reducible rfl
    try simp only [Act.put, List.setIfInBounds_toArray, List.set_cons_zero, List.set_cons_succ]
    refine wpAnyH_done (by kernel_rfl) ?_ _
    go_wp2_with fail
    go_ret
    exact ⟨by first | rfl | simp, HB2.out.trans ((B9.out.trans (hS92.mono B9.out.size)).mono HB2.out.size)⟩
end Go.Proofs.Ytbhpmigblkaihaa.Zr

/- Proved: whatever two rows and box it is handed, the Go function indenturelaw06.ZrangeBetween returns true (no code in a box stands from any code on, ahead of the one that Skip tells; none up to it, behind the one that Back tells), and each argument reads afterwards as it read before. Conditions: none beyond the given row's own. -/
namespace Go.Proofs.Ytbhpmigblkaihaa
open Go.ChangeShapes Go.WideShapes Go.ChangeAt Go.RowKit Go.Deep

set_option maxRecDepth 100000 in
theorem zlbetween_lifted (os : Os) (started : os.Started) (H : Type) (enc : TypeId × Value → H) :
    ReturnsInHanded {} Try.checked os 4 .any (Rows.zrangeBetweenSpec.pre6 enc Try.prog Try.f4 Rows.zrangeBetweenRow.domain false) (Rows.zrangeBetweenSpec.post enc Try.prog Try.f4 false true false false) := by
  refine returnsInHanded_of_change (C := Try.checked) gen_own started (by kernel_rfl) Try.func4
    (ChangeSpec.witness6 (enc := enc) (C := Try.checked) false ⟨#[], #[.slice none 0 0, .slice none 0 0, .agg #[.slice none 0 0, .slice none 0 0]], []⟩ 8 (by kernel_rfl) (by kernel_rfl) (by kernel_rfl) (by kernel_rfl)) ?_
  intro W base args ds gs before hval0 hW _ _
  have hval : ∀ (j : Nat) t v, Try.f4.params[j]? = some t → args[j]? = some v → Value.okWide Try.prog W .any base t v := hval0
  have hW' := hW
  obtain ⟨p, q, hA0, hV, rfl, _, _⟩ := hW
  have hA : DataW.TrodAll enc Try.prog W 0 (fun _ => true) true Try.f4.params.toList args.toList ds p := hA0
  rw [Try.params4] at hA hval
  obtain ⟨v0, vs0, d0, ds0, p0, q0, hargs, rfl, rfl, h0, r0⟩ := trodAll_cons hA
  obtain ⟨v1, vs1, d1, ds1, p1, q1, rfl, rfl, rfl, h1, r1⟩ := trodAll_cons r0
  obtain ⟨v2, vs2, d2, ds2, p2, q2, rfl, rfl, rfl, h2, r2⟩ := trodAll_cons r1
  obtain ⟨rfl, rfl, rfl⟩ := trodAll_nil r2
  obtain rfl : args = #[v0, v1, v2] := by cases args; simp_all
  obtain ⟨rfl, rfl⟩ := trodVars_none hV
  obtain ⟨a0, len0, cap0, R0, rfl, hR0, hl0⟩ := open_row (hval 0 24 v0 rfl rfl) h0
  obtain ⟨a1, len1, cap1, R1, rfl, hR1, hl1⟩ := open_row (hval 1 24 v1 rfl rfl) h1
  obtain ⟨a2, len2, cap2, R2, b2, ben2, bap2, S2, rfl, hR2, hS2, hm2, hn2⟩ := open_box (hval 2 26 v2 rfl rfl) h2
  have k0 := h0
  have k1 := h1
  have k2 := h2
  have lt0 : ∀ x ∈ p0, x.block < W.heap.size := by obtain ⟨m, hm⟩ := k0; exact DataW.trod_lt m _ _ _ hm
  have lt1 : ∀ x ∈ p1, x.block < W.heap.size := by obtain ⟨m, hm⟩ := k1; exact DataW.trod_lt m _ _ _ hm
  have lt2 : ∀ x ∈ p2, x.block < W.heap.size := by obtain ⟨m, hm⟩ := k2; exact DataW.trod_lt m _ _ _ hm
  clear hA0 hval0
  refine (Zr.zlbetween_any R2 S2 R0 R1 a2 b2 a0 a1 len2 cap2 ben2 bap2 len0 cap0 len1 cap1 W hR2 hS2 hR0 hR1 hm2 hl0 hl1).mono fun e W' ⟨he, bel⟩ => ?_
  subst he
  exact ⟨_, rfl, _, _, _, [], _, [], hW', trodAll_mk1 (shut_bool Try.underlying4 _),
    (trodAll_cons_mk (Below.trod gen_laidOut (by kernel_rfl) (of_decide_eq_true (by kernel_rfl)) k0 bel lt0) (trodAll_cons_mk (Below.trod gen_laidOut (by kernel_rfl) (of_decide_eq_true (by kernel_rfl)) k1 bel lt1) (trodAll_cons_mk (Below.trod gen_laidOut (by kernel_rfl) (of_decide_eq_true (by kernel_rfl)) k2 bel lt2) trodAll_mk0))), rfl, bel.frame _, fun h => by cases h⟩
theorem zlbetween_holds : Rows.ZrangeBetweenSaid :=
  OpenClaim.holds_of_wide 4 Try.f4 rfl rfl rfl rfl rfl rfl rfl ⟨rfl, rfl, rfl, rfl, rfl⟩ rfl rfl rfl rfl rfl (by kernel_rfl) Try.func4 (by kernel_rfl)
    (of_decide_eq_true (by kernel_rfl)) (by unfold Func.isWrapper; first | (rw [if_pos (by decide +kernel)]; kernel_rfl) | (rw [if_neg (by decide +kernel)]; exact ⟨rfl, rfl⟩))
    (fun os started H enc _ => zlbetween_lifted os started H enc)
end Go.Proofs.Ytbhpmigblkaihaa
