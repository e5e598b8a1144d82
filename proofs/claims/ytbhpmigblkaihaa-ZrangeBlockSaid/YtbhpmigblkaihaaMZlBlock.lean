/- Proved: whatever box and bytes it is handed, the Go function indenturelaw06.ZrangeBlock returns true (of a block each code between the corners' is in it; of a box that is none the program does not say so), and each argument reads afterwards as it read before. Conditions: none beyond the given row's own. -/
import Derived.Test.YtbhpmigblkaihaaM7
/- The law ZrangeBlock. gen_lblock.py writes it. -/
namespace Go.Proofs.Ytbhpmigblkaihaa.Zr
open Go.RowKit Go.Proofs.Ytbhpmigblkaihaa.Mo

set_option maxRecDepth 100000 in
set_option maxHeartbeats 4000000 in
theorem zlblock_any (R S : List Int) (B : List Nat) (p q r : Option Addr) (n c m e l f : Nat) (w : World) (hR : Ints w p n c R) (hS : Ints w q m e S) (hB : Tx w r l f B) (hn : n ≤ 9223372036854775807) (hl : l ≤ 9223372036854775807) :
    Calls Try.prog 7 #[.agg #[.slice p n c, .slice q m e], .slice r l f] w fun e w' => e = .returned (.bool true) ∧ Below w.heap.size w w' := by
  have SR := Lib.hid hR.size
  have SS := Lib.hid hS.size
  have OR := Lib.hid hR.ok
  have OS := Lib.hid hS.ok
  have OB := Lib.hid hB.ok
  have SB := Lib.hid hB.size
  obtain ⟨w1, hw1⟩ : ∃ w1, w1 = w.alloc (.cells #[.slice p n c, .slice q m e] 26) := ⟨_, rfl⟩
  obtain ⟨hbi, hb1⟩ := lbox hR hS hw1
  have HTX := Lib.hid (hB.bytes.later hb1 hB.bytes.lt)
  go_enter Try.func7, Try.ntmps7
  go_upto_region 1 with fail
  rw [← hw1]
  have HBI := Lib.hid hbi
  have HB1 := Lib.hid hb1
  clear hw1 hbi hb1 hR hS hB
  go_wp2_with fail
  refine (zalive_any w1).mono ?_
  rintro _ w2 ⟨rfl, hb2⟩
  have HI2 := Lib.hid (HBI.out.later hb2)
  have HT2 := Lib.hid (HTX.out.later hb2 HTX.out.lt)
  have HB2 := Lib.hid (HB1.out.trans (hb2.mono HB1.out.size))
  clear hb2 HBI HTX HB1
  obtain ⟨a0, a1⟩ := HI2.out.cells
  go_wp2_with fail
  refine (lright (Below.refl w2.heap.size w2) n HI2.out.i1 HI2.out.i2).mono ?_
  rintro _ w3 ⟨rfl, hb3⟩
  have HI3 := Lib.hid (HI2.out.later hb3)
  have HT3 := Lib.hid (HT2.out.later hb3 HT2.out.lt)
  have HB3 := Lib.hid (HB2.out.trans (hb3.mono HB2.out.size))
  clear hb3 HI2 HT2 HB2 a0 a1
  obtain ⟨a0, a1⟩ := HI3.out.cells
  cases hr : rightB R S n m n with
  | false =>
    by_cases h0 : n = 0
    · subst h0
      have HBK := Lib.hid (show blockB R S 0 m = false by unfold blockB; rw [hr, Bool.false_and])
      clear hr
      go_wp2_with fail
      refine (lblock (Below.refl w3.heap.size w3) HI3.out.i1 HI3.out.i2).mono ?_
      rintro _ w4 ⟨rfl, hb4⟩
      rw [HBK.out]
      go_wp2_with fail
      go_ret
      exact ⟨rfl, HB3.out.trans (hb4.mono HB3.out.size)⟩
    · have b0 : (0 : Int) < n := by omega
      clear hr
      go_wp2_with fail
      go_ret
      exact ⟨rfl, HB3.out⟩
  | true =>
    obtain ⟨d1, d2, -, d4⟩ := rightB_dims hr
    obtain rfl : m = n := by omega
    have hw8 : wrap64 (8 * (m : Int)) = 8 * m := by unfold wrap64; omega
    by_cases hlen : l = 8 * m
    case neg =>
      have e1 : ((l : Int) != 8 * m) = true := by simp; omega
      have b0 : (0 : Int) < m := by omega
      clear hr
      go_wp2_with fail
      go_ret
      exact ⟨rfl, HB3.out⟩
    have e1 : ((l : Int) != 8 * m) = false := by simp; omega
    have HRR := Lib.hid hr
    have HL := Lib.hid hlen
    have HG := Lib.hid (show ∀ w', Below w3.heap.size w3 w' → BI w' w.heap.size p q m c m e R S ∧ Bytes w' r l f B from fun w' hb => ⟨HI3.out.later hb, HT3.out.later hb HT3.out.lt⟩)
    clear hr hlen
    go_upto_region 6 with fail
    clear a0 a1
    refine wp_region_held_drew (S := fun w' => Below w3.heap.size w3 w') (by kernel_rfl) (Below.refl _ _).drew (fun hHeld => ?_)
    refine wpAnyH_take (i := 0) (oi := ⟨some 34, .fieldAddr 26 (.tmp 2) 0, _, _, _, _⟩) (v := ?_) rfl (by kernel_rfl) (by kernel_rfl) (by kernel_rfl) (fun _ _ _ h => h) (Or.inl ⟨by rfl, ?_⟩) (by assumption) ?_
    rotate_left
    · intro w' hSw
      go_simp
      try with_reducible rfl
    try simp only [Act.put, List.setIfInBounds_toArray, List.set_cons_zero, List.set_cons_succ]
    refine wpAnyH_take (i := 1) (oi := ⟨some 35, .load 24 (.tmp 34), _, _, _, _⟩) (v := ?_) rfl (by kernel_rfl) (by kernel_rfl) (by kernel_rfl) (fun _ _ _ h => h) (Or.inl ⟨by rfl, ?_⟩) (by assumption) ?_
    rotate_left
    · intro w' hSw
      obtain ⟨a0, a1⟩ := (HG.out _ hSw).1.cells
      go_simp
      try with_reducible rfl
    try simp only [Act.put, List.setIfInBounds_toArray, List.set_cons_zero, List.set_cons_succ]
    refine wpAnyH_take (i := 3) (oi := ⟨some 37, .fieldAddr 26 (.tmp 2) 1, _, _, _, _⟩) (v := ?_) rfl (by kernel_rfl) (by kernel_rfl) (by kernel_rfl) (fun _ _ _ h => h) (Or.inl ⟨by rfl, ?_⟩) (by assumption) ?_
    rotate_left
    · intro w' hSw
      go_simp
      try with_reducible rfl
    try simp only [Act.put, List.setIfInBounds_toArray, List.set_cons_zero, List.set_cons_succ]
    refine wpAnyH_take (i := 4) (oi := ⟨some 38, .load 24 (.tmp 37), _, _, _, _⟩) (v := ?_) rfl (by kernel_rfl) (by kernel_rfl) (by kernel_rfl) (fun _ _ _ h => h) (Or.inl ⟨by rfl, ?_⟩) (by assumption) ?_
    rotate_left
    · intro w' hSw
      obtain ⟨a0, a1⟩ := (HG.out _ hSw).1.cells
      go_simp
      try with_reducible rfl
    try simp only [Act.put, List.setIfInBounds_toArray, List.set_cons_zero, List.set_cons_succ]
    refine wpAnyH_ready (rs := [2]) (by kernel_rfl) (by simp) ?_
    refine AllReadyH.cons (o := ⟨some 36, .call ⟨.value (.func 14), #[.tmp 35], #[24]⟩, _, _, _, _⟩) rfl (fun K hK => ?_) AllReadyH.nil
    go_simp
    with_reducible refine (lcode (w0 := w3) hHeld (HG.out _ hHeld).1.i1 (by omega)).mono ?_
    rintro _ w36 ⟨q36, c36, rfl, hq36, hS36⟩
    try go_wp2_with fail
    refine hK.out _ _ hS36 (fun hHeld => ?_)
    clear hK K
    try simp only [Act.put, List.setIfInBounds_toArray, List.set_cons_zero, List.set_cons_succ]
    refine wpAnyH_ready (rs := [5]) (by kernel_rfl) (by simp) ?_
    refine AllReadyH.cons (o := ⟨some 39, .call ⟨.value (.func 14), #[.tmp 38], #[24]⟩, _, _, _, _⟩) rfl (fun K hK => ?_) AllReadyH.nil
    go_simp
    with_reducible refine (lcode (w0 := w36) (Below.refl _ _) (HG.out _ hHeld).1.i2 (by omega)).mono ?_
    rintro _ w39 ⟨q39, c39, rfl, hq39, hT39⟩
    have hS39 := hS36.trans (hT39.mono hS36.size)
    try go_wp2_with fail
    refine hK.out _ _ hS39 (fun hHeld => ?_)
    clear hK K
    try simp only [Act.put, List.setIfInBounds_toArray, List.set_cons_zero, List.set_cons_succ]
    refine wpAnyH_take (i := 6) (oi := ⟨some 6, .assign (.tmp 36), _, _, _, _⟩) (v := ?_) rfl (by kernel_rfl) (by kernel_rfl) (by kernel_rfl) (fun _ _ _ h => h) (Or.inl ⟨by rfl, ?_⟩) (by assumption) ?_
    rotate_left
    · intro w' hSw
      go_simp
      try with_reducible rfl
    try simp only [Act.put, List.setIfInBounds_toArray, List.set_cons_zero, List.set_cons_succ]
    refine wpAnyH_take (i := 7) (oi := ⟨some 7, .assign (.tmp 39), _, _, _, _⟩) (v := ?_) rfl (by kernel_rfl) (by kernel_rfl) (by kernel_rfl) (fun _ _ _ h => h) (Or.inl ⟨by rfl, ?_⟩) (by assumption) ?_
    rotate_left
    · intro w' hSw
      go_simp
      try with_reducible rfl
    try simp only [Act.put, List.setIfInBounds_toArray, List.set_cons_zero, List.set_cons_succ]
    refine wpAnyH_done (by kernel_rfl) ?_ _
    have HF := Lib.hid (hq36.later hT39 hq36.lt)
    have HT := Lib.hid hq39
    have HS := Lib.hid hS39
    clear hq36 hq39 hS36 hT39 hS39 hHeld
    have HTX := Lib.hid (HG.out _ HS.out).2
    obtain rfl : l = 8 * m := HL.out
    have K1 := Lib.hid (lless (Below.refl w39.heap.size w39) HTX.out HF.out)
    have hlP := Mm.point_length B m
    have hcP := Mm.code_point OB.out m SB.out.symm
    have hiff := block_iff (P := Mm.point B m) OR.out OS.out (Mm.point_in B m) SR.out SS.out hlP
    rw [hcP] at hiff
    have hbt : decide (¬ Cm.cmpL B (Mm.code R) < 0 ∧ ¬ Cm.cmpL (Mm.code S) B < 0) = decide (Cm.cmpL (Mm.code R) B ≤ 0 ∧ Cm.cmpL B (Mm.code S) ≤ 0) := by
      have h1 := Cm.cmpL_neg B (Mm.code R)
      have h2 := Cm.cmpL_neg (Mm.code S) B
      exact decide_eq_decide.2 ⟨fun h => ⟨by omega, by omega⟩, fun h => ⟨by omega, by omega⟩⟩
    have hin := hasB_in (L := R) (H := S) (Q := Mm.point B m) SR.out.symm hlP HRR.out
    have HBW := Lib.hid (show blockB R S m m = true → decide (¬ Cm.cmpL B (Mm.code R) < 0 ∧ ¬ Cm.cmpL (Mm.code S) B < 0) = hasB R S (Mm.point B m) m m m from fun h => by
      rw [hbt, Bool.eq_iff_iff, decide_eq_true_eq, hiff h, hin])
    clear hiff hbt hin hcP hlP
    obtain ⟨x, hx⟩ : ∃ x, x = decide (¬ Cm.cmpL B (Mm.code R) < 0 ∧ ¬ Cm.cmpL (Mm.code S) B < 0) := ⟨_, rfl⟩
    rw [← hx] at HBW
    have HXE := Lib.hid hx
    clear hx
    go_upto_region 7 with fail
    go_cut [8] (fun s8 wx => s8 = .bool x ∧ Below w3.heap.size w3 wx)
    case first =>
      go_wp2_with fail
      refine K1.out.mono ?_
      rintro _ w4 ⟨rfl, hb4⟩
      have HS4 := Lib.hid (HS.out.trans (hb4.mono HS.out.size))
      have HT4 := Lib.hid (HT.out.later hb4 HT.out.lt)
      have HX4 := Lib.hid (HTX.out.later hb4 HTX.out.lt)
      clear hb4
      by_cases hc : Cm.cmpL B (Mm.code R) < 0
      · rw [decide_eq_true hc]
        have HX := Lib.hid (show x = false by rw [HXE.out]; exact decide_eq_false (fun h => by have := h.1; omega))
        clear hc
        go_wp2_with fail
        go_meet
        exact ⟨by rw [HX.out], HS4.out⟩
      · rw [decide_eq_false hc]
        have K2 := Lib.hid (lless (Below.refl w4.heap.size w4) HT4.out HX4.out)
        have HC := Lib.hid hc
        clear hc
        go_wp2_with fail
        refine K2.out.mono ?_
        rintro _ w5 ⟨rfl, hb5⟩
        have HS5 := Lib.hid (HS4.out.trans (hb5.mono HS4.out.size))
        by_cases hd : Cm.cmpL (Mm.code S) B < 0
        · rw [decide_eq_true hd]
          have HX := Lib.hid (show x = false by rw [HXE.out]; exact decide_eq_false (fun h => by have := h.2; omega))
          clear hd hb5
          go_wp2_with fail
          go_meet
          exact ⟨by rw [HX.out], HS5.out⟩
        · rw [decide_eq_false hd]
          have HX := Lib.hid (show x = true by rw [HXE.out]; exact decide_eq_true (by have := HC.out; omega))
          clear hd hb5
          go_wp2_with fail
          go_meet
          exact ⟨by rw [HX.out], HS5.out⟩
    case rest =>
      obtain ⟨rfl, hcw⟩ := hcut
      have HSC := Lib.hid hcw
      clear hcw
      have HGC := Lib.hid (show ∀ w', Below wc.heap.size wc w' → BI w' w.heap.size p q m c m e R S ∧ Bytes w' r (8 * m) f B from fun w' hb => HG.out w' (HSC.out.trans (hb.mono HSC.out.size)))
      cases hbk : blockB R S m m with
      | false =>
        have HBK := Lib.hid hbk
        clear hbk
        go_upto_region 8 with fail
        refine wp_region_held_drew (S := fun w' => Below wc.heap.size wc w') (by kernel_rfl) (Below.refl _ _).drew (fun hHeld => ?_)
        refine wpAnyH_take (i := 0) (oi := ⟨some 50, .load 26 (.tmp 2), _, _, _, _⟩) (v := ?_) rfl (by kernel_rfl) (by kernel_rfl) (by kernel_rfl) (fun _ _ _ h => h) (Or.inl ⟨by rfl, ?_⟩) (by assumption) ?_
        rotate_left
        · intro w' hSw
          obtain ⟨a0, a1⟩ := (HGC.out _ hSw).1.cells
          go_simp
          try with_reducible rfl
        try simp only [Act.put, List.setIfInBounds_toArray, List.set_cons_zero, List.set_cons_succ]
        refine wpAnyH_ready (rs := [1]) (by kernel_rfl) (by simp) ?_
        refine AllReadyH.cons (o := ⟨some 51, .call ⟨.value (.func 20), #[.tmp 50], #[26]⟩, _, _, _, _⟩) rfl (fun K hK => ?_) AllReadyH.nil
        go_simp
        with_reducible refine (lblock (w0 := wc) hHeld (HGC.out _ hHeld).1.i1 (HGC.out _ hHeld).1.i2).mono ?_
        rintro _ w51 ⟨rfl, hS51⟩
        rw [HBK.out]
        try go_wp2_with fail
        refine hK.out _ _ hS51 (fun hHeld => ?_)
        clear hK K
        try simp only [Act.put, List.setIfInBounds_toArray, List.set_cons_zero, List.set_cons_succ]
        refine wpAnyH_take (i := 2) (oi := ⟨some 52, .unOp .not 4 (.tmp 51), _, _, _, _⟩) (v := ?_) rfl (by kernel_rfl) (by kernel_rfl) (by kernel_rfl) (fun _ _ _ h => h) (Or.inl ⟨by rfl, ?_⟩) (by assumption) ?_
        rotate_left
        · intro w' hSw
          go_simp
          try with_reducible rfl
        try simp only [Act.put, List.setIfInBounds_toArray, List.set_cons_zero, List.set_cons_succ]
        refine wpAnyH_take (i := 3) (oi := ⟨some 53, .move (.tmp 52), _, _, _, _⟩) (v := ?_) rfl (by kernel_rfl) (by kernel_rfl) (by kernel_rfl) (fun _ _ _ h => h) (Or.inl ⟨by rfl, ?_⟩) (by assumption) ?_
        rotate_left
        · intro w' hSw
          go_simp
          try with_reducible rfl
        try simp only [Act.put, List.setIfInBounds_toArray, List.set_cons_zero, List.set_cons_succ]
        refine wpAnyH_take (i := 4) (oi := ⟨some 54, .move (.tmp 8), _, _, _, _⟩) (v := undef) rfl (by kernel_rfl) (by kernel_rfl) (by kernel_rfl) (fun _ _ _ h => h) (Or.inr ⟨by rfl, rfl⟩) (by assumption) ?_
        try simp only [Act.put, List.setIfInBounds_toArray, List.set_cons_zero, List.set_cons_succ]
        refine wpAnyH_take (i := 5) (oi := ⟨some 55, .load 26 (.tmp 2), _, _, _, _⟩) (v := undef) rfl (by kernel_rfl) (by kernel_rfl) (by kernel_rfl) (fun _ _ _ h => h) (Or.inr ⟨by rfl, rfl⟩) (by assumption) ?_
        try simp only [Act.put, List.setIfInBounds_toArray, List.set_cons_zero, List.set_cons_succ]
        refine wpAnyH_take (i := 6) (oi := ⟨some 56, .move (.tmp 1), _, _, _, _⟩) (v := undef) rfl (by kernel_rfl) (by kernel_rfl) (by kernel_rfl) (fun _ _ _ h => h) (Or.inr ⟨by rfl, rfl⟩) (by assumption) ?_
        try simp only [Act.put, List.setIfInBounds_toArray, List.set_cons_zero, List.set_cons_succ]
        refine wpAnyH_take (i := 7) (oi := ⟨some 57, .move (.tmp 5), _, _, _, _⟩) (v := undef) rfl (by kernel_rfl) (by kernel_rfl) (by kernel_rfl) (fun _ _ _ h => h) (Or.inr ⟨by rfl, rfl⟩) (by assumption) ?_
        try simp only [Act.put, List.setIfInBounds_toArray, List.set_cons_zero, List.set_cons_succ]
        refine wpAnyH_take (i := 8) (oi := ⟨some 58, .call ⟨.value (.func 16), #[.tmp 56, .tmp 57], #[22, 3]⟩, _, _, _, _⟩) (v := undef) rfl (by kernel_rfl) (by kernel_rfl) (by kernel_rfl) (fun _ _ _ h => h) (Or.inr ⟨by rfl, rfl⟩) (by assumption) ?_
        try simp only [Act.put, List.setIfInBounds_toArray, List.set_cons_zero, List.set_cons_succ]
        refine wpAnyH_take (i := 9) (oi := ⟨some 59, .call ⟨.value (.func 13), #[.tmp 55, .tmp 58], #[26, 24]⟩, _, _, _, _⟩) (v := undef) rfl (by kernel_rfl) (by kernel_rfl) (by kernel_rfl) (fun _ _ _ h => h) (Or.inr ⟨by rfl, rfl⟩) (by assumption) ?_
        try simp only [Act.put, List.setIfInBounds_toArray, List.set_cons_zero, List.set_cons_succ]
        refine wpAnyH_take (i := 10) (oi := ⟨some 60, .binOp .eql 4 (.tmp 54) (.tmp 59) 4, _, _, _, _⟩) (v := undef) rfl (by kernel_rfl) (by kernel_rfl) (by kernel_rfl) (fun _ _ _ h => h) (Or.inr ⟨by rfl, rfl⟩) (by assumption) ?_
        try simp only [Act.put, List.setIfInBounds_toArray, List.set_cons_zero, List.set_cons_succ]
        refine wpAnyH_take (i := 11) (oi := ⟨some 61, .pick (.tmp 53) (.const (.bool true)) (.tmp 60), _, _, _, _⟩) (v := ?_) rfl (by kernel_rfl) (by kernel_rfl) (by kernel_rfl) (fun _ _ _ h => h) (Or.inl ⟨by rfl, ?_⟩) (by assumption) ?_
        rotate_left
        · intro w' hSw
          go_simp
          try with_reducible rfl
        try simp only [Act.put, List.setIfInBounds_toArray, List.set_cons_zero, List.set_cons_succ]
        refine wpAnyH_take (i := 12) (oi := ⟨some 4, .assign (.tmp 61), _, _, _, _⟩) (v := ?_) rfl (by kernel_rfl) (by kernel_rfl) (by kernel_rfl) (fun _ _ _ h => h) (Or.inl ⟨by rfl, ?_⟩) (by assumption) ?_
        rotate_left
        · intro w' hSw
          go_simp
          try with_reducible rfl
        try simp only [Act.put, List.setIfInBounds_toArray, List.set_cons_zero, List.set_cons_succ]
        refine wpAnyH_done (by kernel_rfl) ?_ _
        go_wp2_with fail
        go_ret
        exact ⟨by first | rfl | simp, HB3.out.trans ((HSC.out.trans (hS51.mono HSC.out.size)).mono HB3.out.size)⟩
      | true =>
        have HBK := Lib.hid (HBW.out hbk)
        have HBT := Lib.hid hbk
        clear hbk
        go_upto_region 8 with fail
        refine wp_region_held_drew (S := fun w' => Below wc.heap.size wc w') (by kernel_rfl) (Below.refl _ _).drew (fun hHeld => ?_)
        refine wpAnyH_take (i := 0) (oi := ⟨some 50, .load 26 (.tmp 2), _, _, _, _⟩) (v := ?_) rfl (by kernel_rfl) (by kernel_rfl) (by kernel_rfl) (fun _ _ _ h => h) (Or.inl ⟨by rfl, ?_⟩) (by assumption) ?_
        rotate_left
        · intro w' hSw
          obtain ⟨a0, a1⟩ := (HGC.out _ hSw).1.cells
          go_simp
          try with_reducible rfl
        try simp only [Act.put, List.setIfInBounds_toArray, List.set_cons_zero, List.set_cons_succ]
        refine wpAnyH_ready (rs := [1]) (by kernel_rfl) (by simp) ?_
        refine AllReadyH.cons (o := ⟨some 51, .call ⟨.value (.func 20), #[.tmp 50], #[26]⟩, _, _, _, _⟩) rfl (fun K hK => ?_) AllReadyH.nil
        go_simp
        with_reducible refine (lblock (w0 := wc) hHeld (HGC.out _ hHeld).1.i1 (HGC.out _ hHeld).1.i2).mono ?_
        rintro _ w51 ⟨rfl, hS51⟩
        rw [HBT.out]
        try go_wp2_with fail
        refine hK.out _ _ hS51 (fun hHeld => ?_)
        clear hK K
        try simp only [Act.put, List.setIfInBounds_toArray, List.set_cons_zero, List.set_cons_succ]
        refine wpAnyH_take (i := 2) (oi := ⟨some 52, .unOp .not 4 (.tmp 51), _, _, _, _⟩) (v := ?_) rfl (by kernel_rfl) (by kernel_rfl) (by kernel_rfl) (fun _ _ _ h => h) (Or.inl ⟨by rfl, ?_⟩) (by assumption) ?_
        rotate_left
        · intro w' hSw
          go_simp
          try with_reducible rfl
        try simp only [Act.put, List.setIfInBounds_toArray, List.set_cons_zero, List.set_cons_succ]
        refine wpAnyH_take (i := 3) (oi := ⟨some 53, .move (.tmp 52), _, _, _, _⟩) (v := ?_) rfl (by kernel_rfl) (by kernel_rfl) (by kernel_rfl) (fun _ _ _ h => h) (Or.inl ⟨by rfl, ?_⟩) (by assumption) ?_
        rotate_left
        · intro w' hSw
          go_simp
          try with_reducible rfl
        try simp only [Act.put, List.setIfInBounds_toArray, List.set_cons_zero, List.set_cons_succ]
        refine wpAnyH_take (i := 4) (oi := ⟨some 54, .move (.tmp 8), _, _, _, _⟩) (v := ?_) rfl (by kernel_rfl) (by kernel_rfl) (by kernel_rfl) (fun _ _ _ h => h) (Or.inl ⟨by rfl, ?_⟩) (by assumption) ?_
        rotate_left
        · intro w' hSw
          go_simp
          try with_reducible rfl
        try simp only [Act.put, List.setIfInBounds_toArray, List.set_cons_zero, List.set_cons_succ]
        refine wpAnyH_take (i := 5) (oi := ⟨some 55, .load 26 (.tmp 2), _, _, _, _⟩) (v := ?_) rfl (by kernel_rfl) (by kernel_rfl) (by kernel_rfl) (fun _ _ _ h => h) (Or.inl ⟨by rfl, ?_⟩) (by assumption) ?_
        rotate_left
        · intro w' hSw
          obtain ⟨a0, a1⟩ := (HGC.out _ hSw).1.cells
          go_simp
          try with_reducible rfl
        try simp only [Act.put, List.setIfInBounds_toArray, List.set_cons_zero, List.set_cons_succ]
        refine wpAnyH_take (i := 6) (oi := ⟨some 56, .move (.tmp 1), _, _, _, _⟩) (v := ?_) rfl (by kernel_rfl) (by kernel_rfl) (by kernel_rfl) (fun _ _ _ h => h) (Or.inl ⟨by rfl, ?_⟩) (by assumption) ?_
        rotate_left
        · intro w' hSw
          go_simp
          try with_reducible rfl
        try simp only [Act.put, List.setIfInBounds_toArray, List.set_cons_zero, List.set_cons_succ]
        refine wpAnyH_take (i := 7) (oi := ⟨some 57, .move (.tmp 5), _, _, _, _⟩) (v := ?_) rfl (by kernel_rfl) (by kernel_rfl) (by kernel_rfl) (fun _ _ _ h => h) (Or.inl ⟨by rfl, ?_⟩) (by assumption) ?_
        rotate_left
        · intro w' hSw
          go_simp
          try with_reducible rfl
        try simp only [Act.put, List.setIfInBounds_toArray, List.set_cons_zero, List.set_cons_succ]
        refine wpAnyH_ready (rs := [8]) (by kernel_rfl) (by simp) ?_
        refine AllReadyH.cons (o := ⟨some 58, .call ⟨.value (.func 16), #[.tmp 56, .tmp 57], #[22, 3]⟩, _, _, _, _⟩) rfl (fun K hK => ?_) AllReadyH.nil
        go_simp
        with_reducible refine (lpoint (w0 := w51) (d := m) (Below.refl _ _) (HGC.out _ hHeld).2 (by omega) (by omega) rfl).mono ?_
        rintro _ w58 ⟨q58, c58, rfl, hq58, hT58⟩
        have hS58 := hS51.trans (hT58.mono hS51.size)
        try go_wp2_with fail
        refine hK.out _ _ hS58 (fun hHeld => ?_)
        clear hK K
        try simp only [Act.put, List.setIfInBounds_toArray, List.set_cons_zero, List.set_cons_succ]
        refine wpAnyH_ready (rs := [9]) (by kernel_rfl) (by simp) ?_
        refine AllReadyH.cons (o := ⟨some 59, .call ⟨.value (.func 13), #[.tmp 55, .tmp 58], #[26, 24]⟩, _, _, _, _⟩) rfl (fun K hK => ?_) AllReadyH.nil
        go_simp
        with_reducible refine (lhas (w0 := wc) hHeld (HGC.out _ hHeld).1.i1 (HGC.out _ hHeld).1.i2 hq58).mono ?_
        rintro _ w59 ⟨rfl, hS59⟩
        rw [← HBK.out]
        try go_wp2_with fail
        refine hK.out _ _ hS59 (fun hHeld => ?_)
        clear hK K
        try simp only [Act.put, List.setIfInBounds_toArray, List.set_cons_zero, List.set_cons_succ]
        refine wpAnyH_take (i := 10) (oi := ⟨some 60, .binOp .eql 4 (.tmp 54) (.tmp 59) 4, _, _, _, _⟩) (v := ?_) rfl (by kernel_rfl) (by kernel_rfl) (by kernel_rfl) (fun _ _ _ h => h) (Or.inl ⟨by rfl, ?_⟩) (by assumption) ?_
        rotate_left
        · intro w' hSw
          go_simp
          try with_reducible rfl
        try simp only [Act.put, List.setIfInBounds_toArray, List.set_cons_zero, List.set_cons_succ]
        refine wpAnyH_take (i := 11) (oi := ⟨some 61, .pick (.tmp 53) (.const (.bool true)) (.tmp 60), _, _, _, _⟩) (v := ?_) rfl (by kernel_rfl) (by kernel_rfl) (by kernel_rfl) (fun _ _ _ h => h) (Or.inl ⟨by rfl, ?_⟩) (by assumption) ?_
        rotate_left
        · intro w' hSw
          go_simp
          try with_reducible rfl
        try simp only [Act.put, List.setIfInBounds_toArray, List.set_cons_zero, List.set_cons_succ]
        refine wpAnyH_take (i := 12) (oi := ⟨some 4, .assign (.tmp 61), _, _, _, _⟩) (v := ?_) rfl (by kernel_rfl) (by kernel_rfl) (by kernel_rfl) (fun _ _ _ h => h) (Or.inl ⟨by rfl, ?_⟩) (by assumption) ?_
        rotate_left
        · intro w' hSw
          go_simp
          try with_reducible rfl
        try simp only [Act.put, List.setIfInBounds_toArray, List.set_cons_zero, List.set_cons_succ]
        refine wpAnyH_done (by kernel_rfl) ?_ _
        go_wp2_with fail
        go_ret
        exact ⟨by first | rfl | simp, HB3.out.trans ((HSC.out.trans (hS59.mono HSC.out.size)).mono HB3.out.size)⟩
end Go.Proofs.Ytbhpmigblkaihaa.Zr

/- Proved: whatever box and bytes it is handed, the Go function indenturelaw06.ZrangeBlock returns true (of a block each code between the corners' is in it; of a box that is none the program does not say so), and each argument reads afterwards as it read before. Conditions: none beyond the given row's own. -/
namespace Go.Proofs.Ytbhpmigblkaihaa
open Go.ChangeShapes Go.WideShapes Go.ChangeAt Go.RowKit Go.Deep

set_option maxRecDepth 100000 in
theorem zlblock_lifted (os : Os) (started : os.Started) (H : Type) (enc : TypeId × Value → H) :
    ReturnsInHanded {} Try.checked os 7 .any (Rows.zrangeBlockSpec.pre6 enc Try.prog Try.f7 Rows.zrangeBlockRow.domain false) (Rows.zrangeBlockSpec.post enc Try.prog Try.f7 false true false false) := by
  refine returnsInHanded_of_change (C := Try.checked) gen_own started (by kernel_rfl) Try.func7
    (ChangeSpec.witness6 (enc := enc) (C := Try.checked) false ⟨#[], #[.agg #[.slice none 0 0, .slice none 0 0], .slice none 0 0], []⟩ 8 (by kernel_rfl) (by kernel_rfl) (by kernel_rfl) (by kernel_rfl)) ?_
  intro W base args ds gs before hval0 hW _ _
  have hval : ∀ (j : Nat) t v, Try.f7.params[j]? = some t → args[j]? = some v → Value.okWide Try.prog W .any base t v := hval0
  have hW' := hW
  obtain ⟨p, q, hA0, hV, rfl, _, _⟩ := hW
  have hA : DataW.TrodAll enc Try.prog W 0 (fun _ => true) true Try.f7.params.toList args.toList ds p := hA0
  rw [Try.params7] at hA hval
  obtain ⟨v0, vs0, d0, ds0, p0, q0, hargs, rfl, rfl, h0, r0⟩ := trodAll_cons hA
  obtain ⟨v1, vs1, d1, ds1, p1, q1, rfl, rfl, rfl, h1, r1⟩ := trodAll_cons r0
  obtain ⟨rfl, rfl, rfl⟩ := trodAll_nil r1
  obtain rfl : args = #[v0, v1] := by cases args; simp_all
  obtain ⟨rfl, rfl⟩ := trodVars_none hV
  obtain ⟨a0, len0, cap0, R0, b0, ben0, bap0, S0, rfl, hR0, hS0, hm0, hn0⟩ := open_box (hval 0 26 v0 rfl rfl) h0
  obtain ⟨a1, len1, cap1, rfl⟩ := okWide_slice Try.underlying22 (hval 1 22 v1 rfl rfl)
  have k0 := h0
  have k1 := h1
  have lt0 : ∀ x ∈ p0, x.block < W.heap.size := by obtain ⟨m, hm⟩ := k0; exact DataW.trod_lt m _ _ _ hm
  have lt1 : ∀ x ∈ p1, x.block < W.heap.size := by obtain ⟨m, hm⟩ := k1; exact DataW.trod_lt m _ _ _ hm
  obtain ⟨⟨B1, hB1⟩, hl1⟩ : (∃ B, Tx W a1 len1 cap1 B) ∧ len1 ≤ 9223372036854775807 := by
    obtain ⟨fuel, hf⟩ := h1
    exact open_bytes hf
  clear hA0 hval0
  refine (Zr.zlblock_any R0 S0 B1 a0 b0 a1 len0 cap0 ben0 bap0 len1 cap1 W hR0 hS0 hB1 hm0 hl1).mono fun e W' ⟨he, bel⟩ => ?_
  subst he
  exact ⟨_, rfl, _, _, _, [], _, [], hW', trodAll_mk1 (shut_bool Try.underlying4 _),
    (trodAll_cons_mk (Below.trod gen_laidOut (by kernel_rfl) (of_decide_eq_true (by kernel_rfl)) k0 bel lt0) (trodAll_cons_mk (Below.trod gen_laidOut (by kernel_rfl) (of_decide_eq_true (by kernel_rfl)) k1 bel lt1) trodAll_mk0)), rfl, bel.frame _, fun h => by cases h⟩
theorem zlblock_holds : Rows.ZrangeBlockSaid :=
  OpenClaim.holds_of_wide 7 Try.f7 rfl rfl rfl rfl rfl rfl rfl ⟨rfl, rfl, rfl, rfl, rfl⟩ rfl rfl rfl rfl rfl (by kernel_rfl) Try.func7 (by kernel_rfl)
    (of_decide_eq_true (by kernel_rfl)) (by unfold Func.isWrapper; first | (rw [if_pos (by decide +kernel)]; kernel_rfl) | (rw [if_neg (by decide +kernel)]; exact ⟨rfl, rfl⟩))
    (fun os started H enc _ => zlblock_lifted os started H enc)
end Go.Proofs.Ytbhpmigblkaihaa
