/- Proved: whatever box, number and two rows it is handed, the Go function indenturelaw06.ZrangeRanges returns true (a box's ranges are the document's: each of its points is in just one, and they stand in order; what is no box, or no depth, is refused), and each argument reads afterwards as it read before. Conditions: none beyond the given row's own. -/
import Derived.Test.YtbhpmigblkaihaaM7
/- The law ZrangeRanges. gen_lranges.py writes it. -/
namespace Go.Proofs.Ytbhpmigblkaihaa.Zr
open Go.RowKit Go.Proofs.Ytbhpmigblkaihaa.Mo Zm

def RLr (w6 : World) (fP fQ : Nat → Bool) (N : Nat) (one two many i : Value) (wr : World) : Prop :=
  ∃ j : Nat, j ≤ N ∧ i = .int .i64 j ∧ one = .int .i64 (lastI fP j) ∧ two = .int .i64 (lastI fQ j) ∧ many = .int .i64 (cntI fP j : Nat) ∧ Below w6.heap.size w6 wr
theorem lsame2 {w0 w : World} (hW : Below w0.heap.size w0 w) {p q r s : Option Addr} {d c e f g : Nat} {R S : List Int} (hd : d ≤ 8) (h1 : Ints w p d c R) (h2 : Ints w q d e S) (h3 : Ints w r d f R) (h4 : Ints w s d g S) :
    Calls Try.prog 19 #[.agg #[.slice p d c, .slice q d e], .agg #[.slice r d f, .slice s d g]] w fun e w' => e = .returned (.bool true) ∧ Below w0.heap.size w0 w' := by
  have := refsame_any p q r s d c d e d f d g R S R S w h1 h2 h3 h4 (by omega) (by omega)
  rw [decide_eq_true ⟨rfl, rfl⟩] at this
  exact this.mono fun e w' h => ⟨h.1, hW.trans (h.2.mono hW.size)⟩
set_option maxRecDepth 100000 in
set_option maxHeartbeats 4000000 in
theorem zlranges_any (R S P Q : List Int) (dep : Int) (p q s r : Option Addr) (n c m e l f k h : Nat) (w : World) (hR : Ints w p n c R) (hS : Ints w q m e S) (hP : Ints w s l f P) (hQ : Ints w r k h Q) (hn : n ≤ 9223372036854775807) (hl : l ≤ 9223372036854775807) (hk : k ≤ 9223372036854775807) (hd1 : -9223372036854775808 ≤ dep) (hd2 : dep ≤ 9223372036854775807) :
    Calls Try.prog 6 #[.agg #[.slice p n c, .slice q m e], .int .i64 dep, .slice s l f, .slice r k h] w fun e w' => e = .returned (.bool true) ∧ Below w.heap.size w w' := by
  obtain ⟨w1, hw1⟩ : ∃ w1, w1 = w.alloc (.cells #[.slice p n c, .slice q m e] 26) := ⟨_, rfl⟩
  obtain ⟨hbi, hb1⟩ := lbox hR hS hw1
  have HP1 := Lib.hid (hP.later hb1)
  have HQ1 := Lib.hid (hQ.later hb1)
  go_enter Try.func6, Try.ntmps6
  go_upto_region 1 with fail
  rw [← hw1]
  have HBI := Lib.hid hbi
  have HB1 := Lib.hid hb1
  clear hw1 hbi hb1 hR hS hP hQ
  go_wp2_with fail
  refine (zalive_any w1).mono ?_
  rintro _ w2 ⟨rfl, hb2⟩
  have HI2 := Lib.hid (HBI.out.later hb2)
  have HP2 := Lib.hid (HP1.out.later hb2)
  have HQ2 := Lib.hid (HQ1.out.later hb2)
  have HB2 := Lib.hid (HB1.out.trans (hb2.mono HB1.out.size))
  clear hb2 HBI HP1 HQ1 HB1
  obtain ⟨a0, a1⟩ := HI2.out.cells
  by_cases h8 : 8 < n
  · have b2 : (8 : Int) < n := by omega
    go_wp2_with fail
    go_ret
    exact ⟨rfl, HB2.out⟩
  have b2 : ¬ (8 : Int) < n := by omega
  by_cases hg : rightB R S n m n = true ∧ 0 ≤ dep ∧ dep ≤ 10
  case neg =>
    have HG := Lib.hid hg
    have HBD := Lib.hid (show rightB R S n m n = false ∨ dep < 0 ∨ 10 < dep from by
      cases hr : rightB R S n m n with
      | false => exact Or.inl rfl
      | true =>
        by_cases c1 : dep < 0
        · exact Or.inr (Or.inl c1)
        · by_cases c2 : 10 < dep
          · exact Or.inr (Or.inr c2)
          · exact absurd ⟨hr, by omega, by omega⟩ hg)
    clear hg
    go_wp2_with fail
    refine (zranges_bad dep R S p q n c m e w2 HI2.out.i1 HI2.out.i2 HBD.out).mono ?_
    rintro _ w3 ⟨rfl, hb3⟩
    have B3 := Lib.hid hb3
    clear hb3 a0 a1
    obtain ⟨a0, a1⟩ := (HI2.out.later B3.out).cells
    go_wp2_with fail
    refine (lright (w0 := w2) B3.out n (HI2.out.later B3.out).i1 (HI2.out.later B3.out).i2).mono ?_
    rintro _ w4 ⟨rfl, hb4⟩
    have B4 := Lib.hid hb4
    clear hb4
    cases hr : rightB R S n m n with
    | false =>
      clear hr
      go_wp2_with fail
      go_ret
      exact ⟨rfl, HB2.out.trans (B4.out.mono HB2.out.size)⟩
    | true =>
      by_cases c1 : dep < 0
      · clear hr
        go_wp2_with fail
        go_ret
        exact ⟨rfl, HB2.out.trans (B4.out.mono HB2.out.size)⟩
      · have c2 : 10 < dep := by
          rcases HBD.out with h | h | h
          · rw [hr] at h; cases h
          · exact absurd h c1
          · exact h
        clear hr
        go_wp2_with fail
        go_ret
        exact ⟨rfl, HB2.out.trans (B4.out.mono HB2.out.size)⟩
  obtain ⟨hr, c1, c2⟩ := hg
  obtain ⟨t, rfl⟩ : ∃ t : Nat, dep = t := ⟨dep.toNat, by omega⟩
  obtain ⟨d1, d8, -, d4⟩ := rightB_dims hr
  obtain rfl : m = n := by omega
  have hbx : BX R S := ⟨HI2.out.i1.ok, HI2.out.i2.ok, by rw [← HI2.out.i1.size, ← HI2.out.i2.size], by rw [← HI2.out.i1.size]; exact hr⟩
  have BXH := Lib.hid hbx
  have HR := Lib.hid hr
  have LR := Lib.hid (show R.length = m from HI2.out.i1.size.symm)
  have c3 : ¬ (t : Int) < 0 := by omega
  have c4 : ¬ (10 : Int) < t := by omega
  clear hr hbx d4 h8
  go_wp2_with fail
  refine (zranges_good t (by omega) R S p q m c e w2 HI2.out.i1 HI2.out.i2 HR.out).mono ?_
  rintro _ w3 ⟨v, l1, rfl, hm1, hgl, hb3⟩
  obtain ⟨gv, cv, rfl, hat⟩ := list_at hgl.own (fun b hb => (hgl.ok b hb).1) hm1 BXH.out LR.out
  have AT1 := Lib.hid hat
  have B3 := Lib.hid hb3
  clear hm1 hgl hb3 hat a0 a1
  obtain ⟨a0, a1⟩ := (HI2.out.later B3.out).cells
  go_wp2_with fail
  refine (lright (w0 := w3) (Below.refl _ _) m (HI2.out.later B3.out).i1 (HI2.out.later B3.out).i2).mono ?_
  rintro _ w4 ⟨rfl, hb4⟩
  rw [HR.out]
  have B34 := Lib.hid hb4
  have B4 := Lib.hid (B3.out.trans (hb4.mono B3.out.size))
  clear hb4 a0 a1
  obtain ⟨a0, a1⟩ := (HI2.out.later B4.out).cells
  go_wp2_with fail
  refine (ranges_any t (by omega) R S p q m c e w4 (HI2.out.later B4.out).i1 (HI2.out.later B4.out).i2 HR.out).mono ?_
  rintro _ w5 ⟨v2, l2, rfl, hm2, ho2, hk2, hb5⟩
  obtain ⟨gm, cm, rfl, hat⟩ := list_at ho2 (fun b hb => (hk2 b hb).1) hm2 BXH.out LR.out
  have AT2 := Lib.hid hat
  have B45 := Lib.hid hb5
  have B5 := Lib.hid (B4.out.trans (hb5.mono B4.out.size))
  clear hm2 ho2 hk2 hb5 hat a0 a1
  have HLI := Lib.hid (show ∀ i, i < (rgs t R S).length → ∃ p1 c1 q1 e1 p2 c2 q2 e2, ∀ w', Below w5.heap.size w5 w' → (w'.cell? ⟨gv, i * 2, none⟩ = some (.slice p1 m c1) ∧ w'.cell? ⟨gv, i * 2 + 1, none⟩ = some (.slice q1 m e1) ∧ w'.cell? ⟨gm, i * 2, none⟩ = some (.slice p2 m c2) ∧ w'.cell? ⟨gm, i * 2 + 1, none⟩ = some (.slice q2 m e2)) ∧
      Ints w' p1 m c1 (rgAt t R S i).1 ∧ Ints w' q1 m e1 (rgAt t R S i).2 ∧ Ints w' p2 m c2 (rgAt t R S i).1 ∧ Ints w' q2 m e2 (rgAt t R S i).2 from fun i hi => by
    obtain ⟨p1, c1, q1, e1, h1⟩ := AT1.out i hi
    obtain ⟨p2, c2, q2, e2, h2⟩ := AT2.out i hi
    refine ⟨p1, c1, q1, e1, p2, c2, q2, e2, fun w' hb => ?_⟩
    obtain ⟨x1, x2, x3, x4⟩ := h1 w' (B34.out.trans ((B45.out.trans (hb.mono B45.out.size)).mono B34.out.size))
    obtain ⟨y1, y2, y3, y4⟩ := h2 w' hb
    exact ⟨⟨x1, x2, y1, y2⟩, x3, x4, y3, y4⟩)
  have HNN := Lib.hid (show (rgs t R S).length ≤ 1024 from Nat.le_trans (rgs_length t R S) (Nat.le_trans (Nat.pow_le_pow_right (by omega) (show t ≤ 10 by omega)) (by decide)))
  have HGP := Lib.hid (rg_point (k := t) BXH.out LR.out HP2.out.ok HP2.out.size)
  have HOP := Lib.hid (fun (i j : Nat) (hi : i < (rgs t R S).length) (hj : j < (rgs t R S).length) (h1 : inRg t R S P m l i = true) (h2 : inRg t R S Q m k j = true) (hij : i < j) => rg_order BXH.out LR.out HP2.out.ok HP2.out.size HQ2.out.ok HQ2.out.size hi hj h1 h2 hij)
  have HOQ := Lib.hid (fun (i j : Nat) (hi : i < (rgs t R S).length) (hj : j < (rgs t R S).length) (h1 : inRg t R S Q m k i = true) (h2 : inRg t R S P m l j = true) (hij : i < j) => rg_order BXH.out LR.out HQ2.out.ok HQ2.out.size HP2.out.ok HP2.out.size hi hj h1 h2 hij)
  have HDP := Lib.hid (fun (i : Nat) (h : inRg t R S P m l i = true) => inRg_dims h)
  have HDQ := Lib.hid (fun (i : Nat) (h : inRg t R S Q m k i = true) => inRg_dims h)
  have HFP := Lib.hid (show ∀ i, hasB (rgAt t R S i).1 (rgAt t R S i).2 P m m l = inRg t R S P m l i from fun _ => rfl)
  have HFQ := Lib.hid (show ∀ i, hasB (rgAt t R S i).1 (rgAt t R S i).2 Q m m k = inRg t R S Q m k i from fun _ => rfl)
  have HSQ := Lib.hid (some_I (inRg t R S Q m k) (rgs t R S).length)
  clear AT1 AT2
  generalize inRg t R S P m l = fP at *
  generalize inRg t R S Q m k = fQ at *
  generalize (rgs t R S).length = N at *
  go_wp2_with fail
  go_loopw [12, 13, 14, 15] (fun one two many i wr => RLr w5 fP fQ N one two many i wr) (fun _ _ _ i _ => N - (intOf i).toNat)
  case atStart => exact ⟨0, by omega, rfl, rfl, rfl, rfl, Below.refl _ _⟩
  case round =>
    obtain ⟨j, hj, rfl, rfl, rfl, rfl, hbr⟩ := hrel
    have HBR := Lib.hid hbr
    clear hbr
    by_cases hlt : j < N
    · obtain ⟨p1, x1, q1, e1, p2, x2, q2, e2, hat⟩ := HLI.out j hlt
      have AT := Lib.hid (show ∀ w', Below wr.heap.size wr w' → _ from fun w' hb => hat w' (HBR.out.trans (hb.mono HBR.out.size)))
      have i1 : (0 : Int) ≤ j ∧ (j : Int) < N := by omega
      have hN := HNN.out
      have HMZ := Lib.hid (show N - (j + 1) < N - j by omega)
      have HTZ := Lib.hid (show ((j : Int) + 1).toNat = j + 1 by omega)
      clear hat
      go_upto_region 15 with fail
      refine wp_region_held_drew (S := fun w' => Below wr.heap.size wr w') (by kernel_rfl) (Below.refl _ _).drew (fun hHeld => ?_)
      refine wpAnyH_take (i := 0) (oi := ⟨some 67, .move (.tmp 9), _, _, _, _⟩) (v := ?_) rfl (by kernel_rfl) (by kernel_rfl) (by kernel_rfl) (fun _ _ _ h => h) (Or.inl ⟨by rfl, ?_⟩) (by assumption) ?_
      rotate_left
      · intro w' hSw
        go_simp
        try with_reducible rfl
      try simp only [Act.put, List.setIfInBounds_toArray, List.set_cons_zero, List.set_cons_succ]
      refine wpAnyH_take (i := 1) (oi := ⟨some 68, .move (.tmp 15), _, _, _, _⟩) (v := ?_) rfl (by kernel_rfl) (by kernel_rfl) (by kernel_rfl) (fun _ _ _ h => h) (Or.inl ⟨by rfl, ?_⟩) (by assumption) ?_
      rotate_left
      · intro w' hSw
        go_simp
        try with_reducible rfl
      try simp only [Act.put, List.setIfInBounds_toArray, List.set_cons_zero, List.set_cons_succ]
      refine wpAnyH_take (i := 2) (oi := ⟨some 69, .indexAddr 43 (.tmp 67) (.tmp 68), _, _, _, _⟩) (v := ?_) rfl (by kernel_rfl) (by kernel_rfl) (by kernel_rfl) (fun _ _ _ h => h) (Or.inl ⟨by rfl, ?_⟩) (by assumption) ?_
      rotate_left
      · intro w' hSw
        go_simp
        try with_reducible rfl
      try simp only [Act.put, List.setIfInBounds_toArray, List.set_cons_zero, List.set_cons_succ]
      refine wpAnyH_take (i := 3) (oi := ⟨some 70, .load 26 (.tmp 69), _, _, _, _⟩) (v := ?_) rfl (by kernel_rfl) (by kernel_rfl) (by kernel_rfl) (fun _ _ _ h => h) (Or.inl ⟨by rfl, ?_⟩) (by assumption) ?_
      rotate_left
      · intro w' hSw
        obtain ⟨⟨y0, y1, y2, y3⟩, -⟩ := AT.out _ hSw
        go_simp
        try with_reducible rfl
      try simp only [Act.put, List.setIfInBounds_toArray, List.set_cons_zero, List.set_cons_succ]
      refine wpAnyH_take (i := 4) (oi := ⟨some 71, .move (.tmp 11), _, _, _, _⟩) (v := ?_) rfl (by kernel_rfl) (by kernel_rfl) (by kernel_rfl) (fun _ _ _ h => h) (Or.inl ⟨by rfl, ?_⟩) (by assumption) ?_
      rotate_left
      · intro w' hSw
        go_simp
        try with_reducible rfl
      try simp only [Act.put, List.setIfInBounds_toArray, List.set_cons_zero, List.set_cons_succ]
      refine wpAnyH_take (i := 5) (oi := ⟨some 72, .move (.tmp 15), _, _, _, _⟩) (v := ?_) rfl (by kernel_rfl) (by kernel_rfl) (by kernel_rfl) (fun _ _ _ h => h) (Or.inl ⟨by rfl, ?_⟩) (by assumption) ?_
      rotate_left
      · intro w' hSw
        go_simp
        try with_reducible rfl
      try simp only [Act.put, List.setIfInBounds_toArray, List.set_cons_zero, List.set_cons_succ]
      refine wpAnyH_take (i := 6) (oi := ⟨some 73, .indexAddr 43 (.tmp 71) (.tmp 72), _, _, _, _⟩) (v := ?_) rfl (by kernel_rfl) (by kernel_rfl) (by kernel_rfl) (fun _ _ _ h => h) (Or.inl ⟨by rfl, ?_⟩) (by assumption) ?_
      rotate_left
      · intro w' hSw
        go_simp
        try with_reducible rfl
      try simp only [Act.put, List.setIfInBounds_toArray, List.set_cons_zero, List.set_cons_succ]
      refine wpAnyH_take (i := 7) (oi := ⟨some 74, .load 26 (.tmp 73), _, _, _, _⟩) (v := ?_) rfl (by kernel_rfl) (by kernel_rfl) (by kernel_rfl) (fun _ _ _ h => h) (Or.inl ⟨by rfl, ?_⟩) (by assumption) ?_
      rotate_left
      · intro w' hSw
        obtain ⟨⟨y0, y1, y2, y3⟩, -⟩ := AT.out _ hSw
        go_simp
        try with_reducible rfl
      try simp only [Act.put, List.setIfInBounds_toArray, List.set_cons_zero, List.set_cons_succ]
      refine wpAnyH_ready (rs := [8]) (by kernel_rfl) (by simp) ?_
      refine AllReadyH.cons (o := ⟨some 75, .call ⟨.value (.func 19), #[.tmp 70, .tmp 74], #[26, 26]⟩, _, _, _, _⟩) rfl (fun K hK => ?_) AllReadyH.nil
      go_simp
      with_reducible refine (lsame2 (w0 := wr) hHeld (by omega) (AT.out _ hHeld).2.1 (AT.out _ hHeld).2.2.1 (AT.out _ hHeld).2.2.2.1 (AT.out _ hHeld).2.2.2.2).mono ?_
      rintro _ w75 ⟨rfl, hS75⟩
      try go_wp2_with fail
      refine hK.out _ _ hS75 (fun hHeld => ?_)
      clear hK K
      try simp only [Act.put, List.setIfInBounds_toArray, List.set_cons_zero, List.set_cons_succ]
      refine wpAnyH_take (i := 9) (oi := ⟨some 76, .unOp .not 4 (.tmp 75), _, _, _, _⟩) (v := ?_) rfl (by kernel_rfl) (by kernel_rfl) (by kernel_rfl) (fun _ _ _ h => h) (Or.inl ⟨by rfl, ?_⟩) (by assumption) ?_
      rotate_left
      · intro w' hSw
        go_simp
        try with_reducible rfl
      try simp only [Act.put, List.setIfInBounds_toArray, List.set_cons_zero, List.set_cons_succ]
      refine wpAnyH_done (by kernel_rfl) ?_ _
      have B7 := Lib.hid hS75
      clear hS75 hHeld
      obtain ⟨⟨y0, y1, -, -⟩, -⟩ := AT.out w75 B7.out
      go_wp2_with fail
      refine (lhas (w0 := wr) B7.out (AT.out w75 B7.out).2.1 (AT.out w75 B7.out).2.2.1 (HP2.out.later (B5.out.trans ((HBR.out.trans (B7.out.mono HBR.out.size)).mono B5.out.size)))).mono ?_
      rintro _ w8 ⟨rfl, hb8⟩
      rw [HFP.out j]
      have B8 := Lib.hid hb8
      clear hb8 y0 y1
      obtain ⟨⟨y0, y1, -, -⟩, -⟩ := AT.out w8 B8.out
      have hcl := cntI_le fP j
      have K := Lib.hid (lhas (w0 := wr) B8.out (AT.out w8 B8.out).2.1 (AT.out w8 B8.out).2.2.1 (HQ2.out.later (B5.out.trans ((HBR.out.trans (B8.out.mono HBR.out.size)).mono B5.out.size))))
      rw [HFQ.out j] at K
      cases ep : fP j with
      | true =>
        have L1 := Lib.hid (lastI_yes ep)
        have C1 := Lib.hid (cntI_yes ep)
        clear ep
        go_wp2_with fail
        refine K.out.mono ?_
        rintro _ w9 ⟨rfl, hb9⟩
        have B9 := Lib.hid (HBR.out.trans (hb9.mono HBR.out.size))
        clear hb9 y0 y1
        cases eq : fQ j with
        | true =>
          have L2 := Lib.hid (lastI_yes eq)
          clear eq
          go_wp2_with fail
          go_roundw
          case rel => exact ⟨j + 1, by omega, by go_num, by rw [L1.out], by rw [L2.out], by rw [C1.out]; rfl, B9.out⟩
          case measure =>
            simp only [intOf, Int.toNat_natCast]
            rw [HTZ.out]
            exact HMZ.out
        | false =>
          have L2 := Lib.hid (lastI_no eq)
          clear eq
          go_wp2_with fail
          go_roundw
          case rel => exact ⟨j + 1, by omega, by go_num, by rw [L1.out], by rw [L2.out], by rw [C1.out]; rfl, B9.out⟩
          case measure =>
            simp only [intOf, Int.toNat_natCast]
            rw [HTZ.out]
            exact HMZ.out
      | false =>
        have L1 := Lib.hid (lastI_no ep)
        have C1 := Lib.hid (cntI_no ep)
        clear ep
        go_wp2_with fail
        refine K.out.mono ?_
        rintro _ w9 ⟨rfl, hb9⟩
        have B9 := Lib.hid (HBR.out.trans (hb9.mono HBR.out.size))
        clear hb9 y0 y1
        cases eq : fQ j with
        | true =>
          have L2 := Lib.hid (lastI_yes eq)
          clear eq
          go_wp2_with fail
          go_roundw
          case rel => exact ⟨j + 1, by omega, by go_num, by rw [L1.out], by rw [L2.out], by rw [C1.out], B9.out⟩
          case measure =>
            simp only [intOf, Int.toNat_natCast]
            rw [HTZ.out]
            exact HMZ.out
        | false =>
          have L2 := Lib.hid (lastI_no eq)
          clear eq
          go_wp2_with fail
          go_roundw
          case rel => exact ⟨j + 1, by omega, by go_num, by rw [L1.out], by rw [L2.out], by rw [C1.out], B9.out⟩
          case measure =>
            simp only [intOf, Int.toNat_natCast]
            rw [HTZ.out]
            exact HMZ.out
    · obtain rfl : j = N := by omega
      have B6 := Lib.hid (B5.out.trans (HBR.out.mono B5.out.size))
      have BW := Lib.hid (HB2.out.trans (B6.out.mono HB2.out.size))
      obtain ⟨a0, a1⟩ := (HI2.out.later B6.out).cells
      cases hh : hasB R S P m m l with
      | false =>
        obtain ⟨h1, h2⟩ := HGP.out.2 hh
        rw [h1, h2]
        have K := Lib.hid (lhas (w0 := w2) B6.out (HI2.out.later B6.out).i1 (HI2.out.later B6.out).i2 (HP2.out.later B6.out))
        rw [hh] at K
        clear h1 h2 hh
        generalize lastI fQ j = two
        go_wp2_with fail
        refine K.out.mono ?_
        rintro _ w7 ⟨rfl, hb7⟩
        have B7 := Lib.hid hb7
        clear hb7 a0 a1
        go_wp2_with fail
        go_ret
        exact ⟨rfl, HB2.out.trans (B7.out.mono HB2.out.size)⟩
      | true =>
        obtain ⟨j1, hj1, h1, h2, hf1⟩ := HGP.out.1 hh
        rw [h1, h2]
        have K := Lib.hid (lhas (w0 := w2) B6.out (HI2.out.later B6.out).i1 (HI2.out.later B6.out).i2 (HP2.out.later B6.out))
        rw [hh] at K
        have n1 : ¬ ((j1 : Nat) : Int) < 0 := by omega
        have F1 := Lib.hid hf1
        have J1 := Lib.hid hj1
        clear h1 h2 hh hf1 hj1
        rcases HSQ.out with ht | ⟨j2, hj2, ht, hf2⟩
        · rw [ht]
          clear ht
          go_wp2_with fail
          refine K.out.mono ?_
          rintro _ w7 ⟨rfl, hb7⟩
          have B7 := Lib.hid hb7
          clear hb7 a0 a1
          go_wp2_with fail
          go_ret
          exact ⟨rfl, HB2.out.trans (B7.out.mono HB2.out.size)⟩
        · rw [ht]
          have n2 : ¬ ((j2 : Nat) : Int) < 0 := by omega
          have F2 := Lib.hid hf2
          have J2 := Lib.hid hj2
          clear ht hf2 hj2
          go_wp2_with fail
          refine K.out.mono ?_
          rintro _ w7 ⟨rfl, hb7⟩
          have B7 := Lib.hid hb7
          clear hb7 a0 a1
          by_cases hjj : j1 = j2
          · subst hjj
            go_wp2_with fail
            go_ret
            exact ⟨by first | rfl | simp, HB2.out.trans (B7.out.mono HB2.out.size)⟩
          · have e1 : ((j1 : Int) == j2) = false := by simp; omega
            have hdp : l = m := HDP.out _ F1.out
            have hdq : k = m := HDQ.out _ F2.out
            subst hdp
            obtain rfl : k = l := hdq
            have HLT := Lib.hid (show decide ((j1 : Int) < j2) = decide (Cm.cmpL (Mm.code P) (Mm.code Q) < 0) from by
              rcases Nat.lt_or_gt_of_ne hjj with c | c
              · rw [decide_eq_true (show (j1 : Int) < j2 by omega), decide_eq_true (HOP.out j1 j2 J1.out J2.out F1.out F2.out c)]
              · have h3 := HOQ.out j2 j1 J2.out J1.out F2.out F1.out c
                have h4 := Cm.cmpL_neg (Mm.code Q) (Mm.code P)
                rw [decide_eq_false (show ¬ (j1 : Int) < j2 by omega), decide_eq_false (by omega)])
            clear hjj
            go_wp2_with fail
            refine (lcode (w0 := w2) B7.out (HP2.out.later B7.out) (by omega)).mono ?_
            rintro _ w11 ⟨q11, c11, rfl, hq11, hb11⟩
            have Q11 := Lib.hid hq11
            have B11 := Lib.hid hb11
            clear hq11 hb11
            go_wp2_with fail
            refine (lcode (w0 := w11) (Below.refl _ _) (HQ2.out.later B11.out) (by omega)).mono ?_
            rintro _ w12 ⟨q12, c12, rfl, hq12, hb12⟩
            have Q12 := Lib.hid hq12
            have R11 := Lib.hid (Q11.out.later hb12 Q11.out.lt)
            have B12 := Lib.hid (B11.out.trans (hb12.mono B11.out.size))
            clear hq12 hb12
            go_wp2_with fail
            refine (lless (w0 := w2) B12.out R11.out Q12.out).mono ?_
            rintro _ w13 ⟨rfl, hb13⟩
            rw [← HLT.out]
            have B13 := Lib.hid hb13
            clear hb13
            go_wp2_with fail
            go_ret
            exact ⟨by first | rfl | simp, HB2.out.trans (B13.out.mono HB2.out.size)⟩
end Go.Proofs.Ytbhpmigblkaihaa.Zr

/- Proved: whatever box, number and two rows it is handed, the Go function indenturelaw06.ZrangeRanges returns true (a box's ranges are the document's: each of its points is in just one, and they stand in order; what is no box, or no depth, is refused), and each argument reads afterwards as it read before. Conditions: none beyond the given row's own. -/
namespace Go.Proofs.Ytbhpmigblkaihaa
open Go.ChangeShapes Go.WideShapes Go.ChangeAt Go.RowKit Go.Deep

set_option maxRecDepth 100000 in
theorem zlranges_lifted (os : Os) (started : os.Started) (H : Type) (enc : TypeId × Value → H) :
    ReturnsInHanded {} Try.checked os 6 .any (Rows.zrangeRangesSpec.pre6 enc Try.prog Try.f6 Rows.zrangeRangesRow.domain false) (Rows.zrangeRangesSpec.post enc Try.prog Try.f6 false true false false) := by
  refine returnsInHanded_of_change (C := Try.checked) gen_own started (by kernel_rfl) Try.func6
    (ChangeSpec.witness6 (enc := enc) (C := Try.checked) false ⟨#[], #[.agg #[.slice none 0 0, .slice none 0 0], .int .i64 0, .slice none 0 0, .slice none 0 0], []⟩ 8 (by kernel_rfl) (by kernel_rfl) (by kernel_rfl) (by kernel_rfl)) ?_
  intro W base args ds gs before hval0 hW _ _
  have hval : ∀ (j : Nat) t v, Try.f6.params[j]? = some t → args[j]? = some v → Value.okWide Try.prog W .any base t v := hval0
  have hW' := hW
  obtain ⟨p, q, hA0, hV, rfl, _, _⟩ := hW
  have hA : DataW.TrodAll enc Try.prog W 0 (fun _ => true) true Try.f6.params.toList args.toList ds p := hA0
  rw [Try.params6] at hA hval
  obtain ⟨v0, vs0, d0, ds0, p0, q0, hargs, rfl, rfl, h0, r0⟩ := trodAll_cons hA
  obtain ⟨v1, vs1, d1, ds1, p1, q1, rfl, rfl, rfl, h1, r1⟩ := trodAll_cons r0
  obtain ⟨v2, vs2, d2, ds2, p2, q2, rfl, rfl, rfl, h2, r2⟩ := trodAll_cons r1
  obtain ⟨v3, vs3, d3, ds3, p3, q3, rfl, rfl, rfl, h3, r3⟩ := trodAll_cons r2
  obtain ⟨rfl, rfl, rfl⟩ := trodAll_nil r3
  obtain rfl : args = #[v0, v1, v2, v3] := by cases args; simp_all
  obtain ⟨rfl, rfl⟩ := trodVars_none hV
  obtain ⟨a0, len0, cap0, R0, b0, ben0, bap0, S0, rfl, hR0, hS0, hm0, hn0⟩ := open_box (hval 0 26 v0 rfl rfl) h0
  obtain ⟨n1, rfl, rfl, rfl, hn1⟩ := open_int Try.underlying3 (hval 1 3 v1 rfl rfl) h1
  obtain ⟨a2, len2, cap2, R2, rfl, hR2, hl2⟩ := open_row (hval 2 24 v2 rfl rfl) h2
  obtain ⟨a3, len3, cap3, R3, rfl, hR3, hl3⟩ := open_row (hval 3 24 v3 rfl rfl) h3
  have k0 := h0
  have k1 := h1
  have k2 := h2
  have k3 := h3
  have lt0 : ∀ x ∈ p0, x.block < W.heap.size := by obtain ⟨m, hm⟩ := k0; exact DataW.trod_lt m _ _ _ hm
  have lt2 : ∀ x ∈ p2, x.block < W.heap.size := by obtain ⟨m, hm⟩ := k2; exact DataW.trod_lt m _ _ _ hm
  have lt3 : ∀ x ∈ p3, x.block < W.heap.size := by obtain ⟨m, hm⟩ := k3; exact DataW.trod_lt m _ _ _ hm
  have bn1 := bounds_i64 hn1
  clear hA0 hval0
  refine (Zr.zlranges_any R0 S0 R2 R3 n1 a0 b0 a2 a3 len0 cap0 ben0 bap0 len2 cap2 len3 cap3 W hR0 hS0 hR2 hR3 hm0 hl2 hl3 bn1.1 bn1.2).mono fun e W' ⟨he, bel⟩ => ?_
  subst he
  exact ⟨_, rfl, _, _, _, [], _, [], hW', trodAll_mk1 (shut_bool Try.underlying4 _),
    (trodAll_cons_mk (Below.trod gen_laidOut (by kernel_rfl) (of_decide_eq_true (by kernel_rfl)) k0 bel lt0) (trodAll_cons_mk (Below.trod gen_laidOut (by kernel_rfl) (of_decide_eq_true (by kernel_rfl)) k1 bel (fun x hx => by cases hx)) (trodAll_cons_mk (Below.trod gen_laidOut (by kernel_rfl) (of_decide_eq_true (by kernel_rfl)) k2 bel lt2) (trodAll_cons_mk (Below.trod gen_laidOut (by kernel_rfl) (of_decide_eq_true (by kernel_rfl)) k3 bel lt3) trodAll_mk0)))), rfl, bel.frame _, fun h => by cases h⟩
theorem zlranges_holds : Rows.ZrangeRangesSaid :=
  OpenClaim.holds_of_wide 6 Try.f6 rfl rfl rfl rfl rfl rfl rfl ⟨rfl, rfl, rfl, rfl, rfl⟩ rfl rfl rfl rfl rfl (by kernel_rfl) Try.func6 (by kernel_rfl)
    (of_decide_eq_true (by kernel_rfl)) (by unfold Func.isWrapper; first | (rw [if_pos (by decide +kernel)]; kernel_rfl) | (rw [if_neg (by decide +kernel)]; exact ⟨rfl, rfl⟩))
    (fun os started H enc _ => zlranges_lifted os started H enc)
end Go.Proofs.Ytbhpmigblkaihaa
