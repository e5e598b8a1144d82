/- Proved: whatever bytes it is handed, the Go function indenturelaw09.PageSums returns true (any page's sum, and the bytes whose sum it is, are the document's), and each argument reads afterwards as it read before. Conditions: none beyond the given row's own. -/
import Derived.Test.YtlmbicelngpgoaaM6
/- The law PageSums, over whatever store keeps the contracts. -/
namespace Go.Proofs.Ytlmbicelngpgoaa.Pg
open Go.RowKit

variable {PL : World → Nat → (Nat → Prop) → S → Prop}
theorem wpAnyH_monoP {P : Program} {md : Region.Mode} {ops : Array Oper} {Q : Exit → Act → World → Prop} {S S' : World → Prop} (h : ∀ w, S' w → S w) : ∀ (fuel : Nat) (listed : Array Bool) (a : Act) (w : World), wpAnyH P md ops Q S' fuel listed a w → wpAnyH P md ops Q S fuel listed a w
  | 0, _, _, _, k => k
  | fuel + 1, _, _, _, k => ⟨k.1, fun i hi => wpOp_mono (fun a' w' h' => ⟨h _ h'.1, wpAnyH_monoP h fuel _ a' w' h'.2⟩) (k.2 i hi)⟩
theorem Texts.later' {w w' : World} {p : Option Addr} {n c : Nat} {L : List (List Nat)} (h : Texts w p n c L) (hb : Below w.heap.size w w') : Texts w' p n c L := h.later hb
set_option maxRecDepth 100000 in
set_option maxHeartbeats 2000000 in
theorem psums_any (A : Api PL) (b : List Nat) (p : Option Addr) (n c : Nat) (w : World) (hT : Tx w p n c b) (hn : n ≤ 9223372036854775807) :
    Calls Try.prog 4 #[.slice p n c] w fun e w' => e = .returned (.bool true) ∧ Below w.heap.size w w' := by
  have HT := Lib.hid hT
  have HSZ := Lib.hid hT.size
  obtain ⟨D, hD⟩ : ∃ D, D = sumOf b := ⟨_, rfl⟩
  have HD := Lib.hid hD
  have HDL := Lib.hid (show D.length = 32 from by rw [hD]; rfl)
  clear hT hD
  go_enter Try.func4, Try.ntmps4
  go_wp2_with fail
  refine (palive_any A w).mono ?_
  rintro e w1 ⟨rfl, b1⟩
  have B1 := Lib.hid b1
  have T1 := Lib.hid (HT.out.later b1)
  clear b1
  by_cases h5 : n > 500
  · have l5 : (n : Int) > 500 := by omega
    clear h5
    go_wp2_with fail
    go_ret
    exact ⟨rfl, B1.out⟩
  · have l5 : ¬ (n : Int) > 500 := by omega
    have hn5 : n ≤ 500 := by omega
    have HP1 := Lib.hid (pre_one 80 b)
    have HPO := Lib.hid (pre_ok (L := [b]) 80 (by omega) (fun x hx => by rw [List.mem_singleton.1 hx]; exact T1.out.ok))
    have HTO := Lib.hid (show tot [b] < 1099511627776 from by have := HSZ.out; rw [tot_one]; omega)
    obtain ⟨PP, hPP⟩ : ∃ PP, PP = pre 80 [b] := ⟨_, rfl⟩
    have HPP := Lib.hid hPP
    clear h5 hPP
    go_upto_region 5 with fail
    refine wp_region_held_drew (S := fun w' => Below w1.heap.size w1 w') (by kernel_rfl) (Below.refl _ _).drew (fun hHeld => ?_)
    refine wpAnyH_take (i := 0) (oi := ⟨some 8, .move (.tmp 0), _, _, _, _⟩) (v := ?_) rfl (by kernel_rfl) (by kernel_rfl) (by kernel_rfl) (fun _ _ _ h => h) (Or.inl ⟨by rfl, ?_⟩) (by assumption) ?_
    rotate_left
    · intro w' hSw
      go_simp
      try with_reducible rfl
    try simp only [Act.put, List.setIfInBounds_toArray, List.set_cons_zero, List.set_cons_succ]
    refine wpAnyH_take (i := 2) (oi := ⟨some 10, .move (.tmp 0), _, _, _, _⟩) (v := ?_) rfl (by kernel_rfl) (by kernel_rfl) (by kernel_rfl) (fun _ _ _ h => h) (Or.inl ⟨by rfl, ?_⟩) (by assumption) ?_
    rotate_left
    · intro w' hSw
      go_simp
      try with_reducible rfl
    try simp only [Act.put, List.setIfInBounds_toArray, List.set_cons_zero, List.set_cons_succ]
    refine wpAnyH_ready (rs := [1]) (by kernel_rfl) (by simp) ?_
    refine AllReadyH.cons (o := ⟨some 9, .call ⟨.value (.func 19), #[.tmp 8], #[27]⟩, _, _, _, _⟩) rfl (fun K hK => ?_) AllReadyH.nil
    go_simp
    refine (A.sum b p n c _ (T1.out.later hHeld) (by omega)).mono ?_
    rintro _ w9 ⟨rfl, b9⟩
    rw [← HD.out]
    have hS9 : Below w1.heap.size w1 w9 := hHeld.trans (b9.mono hHeld.size)
    try go_wp2_with fail
    refine hK.out _ _ hS9 (fun hHeld => ?_)
    clear hK K
    try simp only [Act.put, List.setIfInBounds_toArray, List.set_cons_zero, List.set_cons_succ]
    refine wpAnyH_ready (rs := [3]) (by kernel_rfl) (by simp) ?_
    refine AllReadyH.cons (o := ⟨some 11, .call ⟨.value (.func 8), #[.tmp 10], #[27]⟩, _, _, _, _⟩) rfl (fun K hK => ?_) AllReadyH.nil
    go_simp
    refine (rsum_any b p n c _ (T1.out.later hHeld) (by omega)).mono ?_
    rintro _ w11 ⟨rfl, b11⟩
    rw [← HD.out]
    have hS11 : Below w1.heap.size w1 w11 := hHeld.trans (b11.mono hHeld.size)
    try go_wp2_with fail
    refine hK.out _ _ hS11 (fun hHeld => ?_)
    clear hK K
    try simp only [Act.put, List.setIfInBounds_toArray, List.set_cons_zero, List.set_cons_succ]
    refine wpAnyH_take (i := 4) (oi := ⟨some 12, .binOp .eql 32 (.tmp 9) (.tmp 11) 32, _, _, _, _⟩) (v := ?_) rfl (by kernel_rfl) (by kernel_rfl) (by kernel_rfl) (fun _ _ _ h => h) (Or.inl ⟨by rfl, ?_⟩) (by assumption) ?_
    rotate_left
    · intro w' hSw
      refine Eq.trans (b := Result.ok (Next.value (.bool (decide (D = D)))) w') ?_ ?_
      · exact op_eql_dig (x := 9) (y := 11) (by rfl) (by rfl) (by rfl) HDL.out HDL.out w'
      · with_reducible rfl
    try simp only [Act.put, List.setIfInBounds_toArray, List.set_cons_zero, List.set_cons_succ]
    refine wpAnyH_take (i := 5) (oi := ⟨some 13, .move (.tmp 12), _, _, _, _⟩) (v := ?_) rfl (by kernel_rfl) (by kernel_rfl) (by kernel_rfl) (fun _ _ _ h => h) (Or.inl ⟨by rfl, ?_⟩) (by assumption) ?_
    rotate_left
    · intro w' hSw
      go_simp
      try with_reducible rfl
    try simp only [Act.put, List.setIfInBounds_toArray, List.set_cons_zero, List.set_cons_succ]
    refine wpAnyH_take (i := 6) (oi := ⟨some 14, .move (.tmp 0), _, _, _, _⟩) (v := ?_) rfl (by kernel_rfl) (by kernel_rfl) (by kernel_rfl) (fun _ _ _ h => h) (Or.inl ⟨by rfl, ?_⟩) (by assumption) ?_
    rotate_left
    · intro w' hSw
      go_simp
      try with_reducible rfl
    try simp only [Act.put, List.setIfInBounds_toArray, List.set_cons_zero, List.set_cons_succ]
    refine wpAnyH_take (i := 9) (oi := ⟨some 17, .move (.tmp 0), _, _, _, _⟩) (v := ?_) rfl (by kernel_rfl) (by kernel_rfl) (by kernel_rfl) (fun _ _ _ h => h) (Or.inl ⟨by rfl, ?_⟩) (by assumption) ?_
    rotate_left
    · intro w' hSw
      go_simp
      try with_reducible rfl
    try simp only [Act.put, List.setIfInBounds_toArray, List.set_cons_zero, List.set_cons_succ]
    refine wpAnyH_ready (rs := [7, 10]) (by kernel_rfl) (by simp) ?_
    refine AllReadyH.cons (o := ⟨some 15, .call ⟨.value (.func 20), #[.tmp 14], #[27]⟩, _, _, _, _⟩) rfl (fun K hK => ?_) (AllReadyH.cons (o := ⟨some 18, .buildSlice 28 1 #[(0, (.tmp 17))], _, _, _, _⟩) rfl (fun K hK => ?_) AllReadyH.nil)
    ·
      go_simp
      refine (A.pre b p n c _ (T1.out.later hHeld) (by omega)).mono ?_
      rintro _ w15 ⟨q15, m15, c15, rfl, t15, b15⟩
      rw [← HPP.out] at t15
      have hS15 : Below w1.heap.size w1 w15 := hHeld.trans (b15.mono hHeld.size)
      try go_wp2_with fail
      refine hK.out _ _ hS15 (fun hHeld => ?_)
      clear hK K
      try simp only [Act.put, List.setIfInBounds_toArray, List.set_cons_zero, List.set_cons_succ]
      refine wpAnyH_monoP (S' := fun w' => (Below w1.heap.size w1 w') ∧ Tx w' q15 m15 c15 PP) (fun _ h => h.1) _ _ _ _ ?_
      have hHeld : (Below w1.heap.size w1 w15) ∧ Tx w15 q15 m15 c15 PP := ⟨hS15, t15⟩
      clear hS15
      refine wpAnyH_take (i := 8) (oi := ⟨some 16, .convert 27 9 (.tmp 15), _, _, _, _⟩) (v := ?_) rfl (by kernel_rfl) (by kernel_rfl) (by kernel_rfl) (fun _ _ _ h => h) (Or.inl ⟨by rfl, ?_⟩) (by assumption) ?_
      rotate_left
      · intro w' hSw
        have hcv := convert_tx (hSw.2)
        go_simp
        try with_reducible rfl
      try simp only [Act.put, List.setIfInBounds_toArray, List.set_cons_zero, List.set_cons_succ]
      refine wpAnyH_ready (rs := [10]) (by kernel_rfl) (by simp) ?_
      refine AllReadyH.cons (o := ⟨some 18, .buildSlice 28 1 #[(0, (.tmp 17))], _, _, _, _⟩) rfl (fun K hK => ?_) AllReadyH.nil
      go_simp
      have hba := (Below.refl w15.heap.size w15).alloc (Nat.le_refl _) (.cells #[.slice p n c] 27)
      have hS18 : (Below w1.heap.size w1 (w15.alloc (.cells #[.slice p n c] 27))) ∧ Tx (w15.alloc (.cells #[.slice p n c] 27)) q15 m15 c15 PP := ⟨hHeld.1.trans (hba.mono hHeld.1.size), hHeld.2.later hba⟩
      have x18 := one_text (heap_alloc_new w15 (.cells #[.slice p n c] 27)) (T1.out.later hS18.1)
      generalize w15.alloc (.cells #[.slice p n c] 27) = w18 at *
      generalize w15.heap.size = g18 at *
      try go_wp2_with fail
      refine hK.out _ _ hS18 (fun hHeld => ?_)
      clear hK K
      try simp only [Act.put, List.setIfInBounds_toArray, List.set_cons_zero, List.set_cons_succ]
      refine wpAnyH_monoP (S' := fun w' => ((Below w1.heap.size w1 w') ∧ Tx w' q15 m15 c15 PP) ∧ Texts w' (some ⟨g18, 0, none⟩) 1 1 [b]) (fun _ h => h.1) _ _ _ _ ?_
      have hHeld : ((Below w1.heap.size w1 w18) ∧ Tx w18 q15 m15 c15 PP) ∧ Texts w18 (some ⟨g18, 0, none⟩) 1 1 [b] := ⟨hS18, x18⟩
      clear hS18
      refine wpAnyH_ready (rs := [11]) (by kernel_rfl) (by simp) ?_
      refine AllReadyH.cons (o := ⟨some 19, .call ⟨.value (.func 21), #[.const (.int .u8 80), .tmp 18], #[5, 28]⟩, _, _, _, _⟩) rfl (fun K hK => ?_) AllReadyH.nil
      go_simp
      refine (refpre_any 80 (by omega) [b] _ 1 1 _ hHeld.2 HTO.out).mono ?_
      rintro _ w19 ⟨q19, m19, c19, rfl, o19, b19⟩
      rw [← HPP.out] at o19
      have t19 := tx_of_owns o19 (by rw [HPP.out]; exact HPO.out)
      have hS19 : ((Below w1.heap.size w1 w19) ∧ Tx w19 q15 m15 c15 PP) ∧ Texts w19 (some ⟨g18, 0, none⟩) 1 1 [b] := ⟨⟨hHeld.1.1.trans (b19.mono hHeld.1.1.size), hHeld.1.2.later b19⟩, hHeld.2.later b19⟩
      try go_wp2_with fail
      refine hK.out _ _ hS19 (fun hHeld => ?_)
      clear hK K
      try simp only [Act.put, List.setIfInBounds_toArray, List.set_cons_zero, List.set_cons_succ]
      refine wpAnyH_monoP (S' := fun w' => (((Below w1.heap.size w1 w') ∧ Tx w' q15 m15 c15 PP) ∧ Texts w' (some ⟨g18, 0, none⟩) 1 1 [b]) ∧ Tx w' q19 m19 c19 PP) (fun _ h => h.1) _ _ _ _ ?_
      have hHeld : (((Below w1.heap.size w1 w19) ∧ Tx w19 q15 m15 c15 PP) ∧ Texts w19 (some ⟨g18, 0, none⟩) 1 1 [b]) ∧ Tx w19 q19 m19 c19 PP := ⟨hS19, t19⟩
      clear hS19
      refine wpAnyH_take (i := 12) (oi := ⟨some 20, .convert 27 9 (.tmp 19), _, _, _, _⟩) (v := ?_) rfl (by kernel_rfl) (by kernel_rfl) (by kernel_rfl) (fun _ _ _ h => h) (Or.inl ⟨by rfl, ?_⟩) (by assumption) ?_
      rotate_left
      · intro w' hSw
        have hcv := convert_tx (hSw.2)
        go_simp
        try with_reducible rfl
      try simp only [Act.put, List.setIfInBounds_toArray, List.set_cons_zero, List.set_cons_succ]
      refine wpAnyH_take (i := 13) (oi := ⟨some 21, .binOp .eql 9 (.tmp 16) (.tmp 20) 9, _, _, _, _⟩) (v := ?_) rfl (by kernel_rfl) (by kernel_rfl) (by kernel_rfl) (fun _ _ _ h => h) (Or.inl ⟨by rfl, ?_⟩) (by assumption) ?_
      rotate_left
      · intro w' hSw
        go_simp
        try with_reducible rfl
      try simp only [Act.put, List.setIfInBounds_toArray, List.set_cons_zero, List.set_cons_succ]
      refine wpAnyH_take (i := 14) (oi := ⟨some 22, .pick (.tmp 13) (.tmp 21) (.const (.bool false)), _, _, _, _⟩) (v := ?_) rfl (by kernel_rfl) (by kernel_rfl) (by kernel_rfl) (fun _ _ _ h => h) (Or.inl ⟨by rfl, ?_⟩) (by assumption) ?_
      rotate_left
      · intro w' hSw
        go_simp
        try with_reducible rfl
      try simp only [Act.put, List.setIfInBounds_toArray, List.set_cons_zero, List.set_cons_succ]
      refine wpAnyH_take (i := 15) (oi := ⟨some 2, .assign (.tmp 22), _, _, _, _⟩) (v := ?_) rfl (by kernel_rfl) (by kernel_rfl) (by kernel_rfl) (fun _ _ _ h => h) (Or.inl ⟨by rfl, ?_⟩) (by assumption) ?_
      rotate_left
      · intro w' hSw
        go_simp
        try with_reducible rfl
      try simp only [Act.put, List.setIfInBounds_toArray, List.set_cons_zero, List.set_cons_succ]
      refine wpAnyH_done (by kernel_rfl) ?_ _
      go_wp2_with fail
      go_ret
      exact ⟨rfl, B1.out.trans ((hHeld.1.1.1).mono B1.out.size)⟩
    ·
      go_simp
      have hba := (Below.refl w11.heap.size w11).alloc (Nat.le_refl _) (.cells #[.slice p n c] 27)
      have hS18 : Below w1.heap.size w1 (w11.alloc (.cells #[.slice p n c] 27)) := hHeld.trans (hba.mono hHeld.size)
      have x18 := one_text (heap_alloc_new w11 (.cells #[.slice p n c] 27)) (T1.out.later hS18)
      generalize w11.alloc (.cells #[.slice p n c] 27) = w18 at *
      generalize w11.heap.size = g18 at *
      try go_wp2_with fail
      refine hK.out _ _ hS18 (fun hHeld => ?_)
      clear hK K
      try simp only [Act.put, List.setIfInBounds_toArray, List.set_cons_zero, List.set_cons_succ]
      refine wpAnyH_monoP (S' := fun w' => (Below w1.heap.size w1 w') ∧ Texts w' (some ⟨g18, 0, none⟩) 1 1 [b]) (fun _ h => h.1) _ _ _ _ ?_
      have hHeld : (Below w1.heap.size w1 w18) ∧ Texts w18 (some ⟨g18, 0, none⟩) 1 1 [b] := ⟨hS18, x18⟩
      clear hS18
      refine wpAnyH_ready (rs := [7]) (by kernel_rfl) (by simp) ?_
      refine AllReadyH.cons (o := ⟨some 15, .call ⟨.value (.func 20), #[.tmp 14], #[27]⟩, _, _, _, _⟩) rfl (fun K hK => ?_) AllReadyH.nil
      go_simp
      refine (A.pre b p n c _ (T1.out.later hHeld.1) (by omega)).mono ?_
      rintro _ w15 ⟨q15, m15, c15, rfl, t15, b15⟩
      rw [← HPP.out] at t15
      have hS15 : (Below w1.heap.size w1 w15) ∧ Texts w15 (some ⟨g18, 0, none⟩) 1 1 [b] := ⟨hHeld.1.trans (b15.mono hHeld.1.size), hHeld.2.later b15⟩
      try go_wp2_with fail
      refine hK.out _ _ hS15 (fun hHeld => ?_)
      clear hK K
      try simp only [Act.put, List.setIfInBounds_toArray, List.set_cons_zero, List.set_cons_succ]
      refine wpAnyH_monoP (S' := fun w' => ((Below w1.heap.size w1 w') ∧ Texts w' (some ⟨g18, 0, none⟩) 1 1 [b]) ∧ Tx w' q15 m15 c15 PP) (fun _ h => h.1) _ _ _ _ ?_
      have hHeld : ((Below w1.heap.size w1 w15) ∧ Texts w15 (some ⟨g18, 0, none⟩) 1 1 [b]) ∧ Tx w15 q15 m15 c15 PP := ⟨hS15, t15⟩
      clear hS15
      refine wpAnyH_take (i := 8) (oi := ⟨some 16, .convert 27 9 (.tmp 15), _, _, _, _⟩) (v := ?_) rfl (by kernel_rfl) (by kernel_rfl) (by kernel_rfl) (fun _ _ _ h => h) (Or.inl ⟨by rfl, ?_⟩) (by assumption) ?_
      rotate_left
      · intro w' hSw
        have hcv := convert_tx (hSw.2)
        go_simp
        try with_reducible rfl
      try simp only [Act.put, List.setIfInBounds_toArray, List.set_cons_zero, List.set_cons_succ]
      refine wpAnyH_ready (rs := [11]) (by kernel_rfl) (by simp) ?_
      refine AllReadyH.cons (o := ⟨some 19, .call ⟨.value (.func 21), #[.const (.int .u8 80), .tmp 18], #[5, 28]⟩, _, _, _, _⟩) rfl (fun K hK => ?_) AllReadyH.nil
      go_simp
      refine (refpre_any 80 (by omega) [b] _ 1 1 _ hHeld.1.2 HTO.out).mono ?_
      rintro _ w19 ⟨q19, m19, c19, rfl, o19, b19⟩
      rw [← HPP.out] at o19
      have t19 := tx_of_owns o19 (by rw [HPP.out]; exact HPO.out)
      have hS19 : ((Below w1.heap.size w1 w19) ∧ Texts w19 (some ⟨g18, 0, none⟩) 1 1 [b]) ∧ Tx w19 q15 m15 c15 PP := ⟨⟨hHeld.1.1.trans (b19.mono hHeld.1.1.size), hHeld.1.2.later b19⟩, hHeld.2.later b19⟩
      try go_wp2_with fail
      refine hK.out _ _ hS19 (fun hHeld => ?_)
      clear hK K
      try simp only [Act.put, List.setIfInBounds_toArray, List.set_cons_zero, List.set_cons_succ]
      refine wpAnyH_monoP (S' := fun w' => (((Below w1.heap.size w1 w') ∧ Texts w' (some ⟨g18, 0, none⟩) 1 1 [b]) ∧ Tx w' q15 m15 c15 PP) ∧ Tx w' q19 m19 c19 PP) (fun _ h => h.1) _ _ _ _ ?_
      have hHeld : (((Below w1.heap.size w1 w19) ∧ Texts w19 (some ⟨g18, 0, none⟩) 1 1 [b]) ∧ Tx w19 q15 m15 c15 PP) ∧ Tx w19 q19 m19 c19 PP := ⟨hS19, t19⟩
      clear hS19
      refine wpAnyH_take (i := 12) (oi := ⟨some 20, .convert 27 9 (.tmp 19), _, _, _, _⟩) (v := ?_) rfl (by kernel_rfl) (by kernel_rfl) (by kernel_rfl) (fun _ _ _ h => h) (Or.inl ⟨by rfl, ?_⟩) (by assumption) ?_
      rotate_left
      · intro w' hSw
        have hcv := convert_tx (hSw.2)
        go_simp
        try with_reducible rfl
      try simp only [Act.put, List.setIfInBounds_toArray, List.set_cons_zero, List.set_cons_succ]
      refine wpAnyH_take (i := 13) (oi := ⟨some 21, .binOp .eql 9 (.tmp 16) (.tmp 20) 9, _, _, _, _⟩) (v := ?_) rfl (by kernel_rfl) (by kernel_rfl) (by kernel_rfl) (fun _ _ _ h => h) (Or.inl ⟨by rfl, ?_⟩) (by assumption) ?_
      rotate_left
      · intro w' hSw
        go_simp
        try with_reducible rfl
      try simp only [Act.put, List.setIfInBounds_toArray, List.set_cons_zero, List.set_cons_succ]
      refine wpAnyH_take (i := 14) (oi := ⟨some 22, .pick (.tmp 13) (.tmp 21) (.const (.bool false)), _, _, _, _⟩) (v := ?_) rfl (by kernel_rfl) (by kernel_rfl) (by kernel_rfl) (fun _ _ _ h => h) (Or.inl ⟨by rfl, ?_⟩) (by assumption) ?_
      rotate_left
      · intro w' hSw
        go_simp
        try with_reducible rfl
      try simp only [Act.put, List.setIfInBounds_toArray, List.set_cons_zero, List.set_cons_succ]
      refine wpAnyH_take (i := 15) (oi := ⟨some 2, .assign (.tmp 22), _, _, _, _⟩) (v := ?_) rfl (by kernel_rfl) (by kernel_rfl) (by kernel_rfl) (fun _ _ _ h => h) (Or.inl ⟨by rfl, ?_⟩) (by assumption) ?_
      rotate_left
      · intro w' hSw
        go_simp
        try with_reducible rfl
      try simp only [Act.put, List.setIfInBounds_toArray, List.set_cons_zero, List.set_cons_succ]
      refine wpAnyH_done (by kernel_rfl) ?_ _
      go_wp2_with fail
      go_ret
      exact ⟨rfl, B1.out.trans ((hHeld.1.1.1).mono B1.out.size)⟩
end Go.Proofs.Ytlmbicelngpgoaa.Pg

/- Proved: whatever bytes it is handed, the Go function indenturelaw09.PageSums returns true (any page's sum, and the bytes whose sum it is, are the document's), and each argument reads afterwards as it read before. Conditions: none beyond the given row's own. -/
namespace Go.Proofs.Ytlmbicelngpgoaa
open Go.ChangeShapes Go.WideShapes Go.ChangeAt Go.RowKit Go.Deep

set_option maxRecDepth 100000 in
theorem pgsums_lifted (os : Os) (started : os.Started) (H : Type) (enc : TypeId × Value → H) :
    ReturnsInHanded {} Try.checked os 4 .any (Rows.pageSumsSpec.pre6 enc Try.prog Try.f4 Rows.pageSumsRow.domain false) (Rows.pageSumsSpec.post enc Try.prog Try.f4 false true false false) := by
  refine returnsInHanded_of_change (C := Try.checked) gen_own started (by kernel_rfl) Try.func4
    (ChangeSpec.witness6 (enc := enc) (C := Try.checked) false ⟨#[], #[.slice none 0 0], []⟩ 8 (by kernel_rfl) (by kernel_rfl) (by kernel_rfl) (by kernel_rfl)) ?_
  intro W base args ds gs before hval0 hW _ _
  have hval : ∀ (j : Nat) t v, Try.f4.params[j]? = some t → args[j]? = some v → Value.okWide Try.prog W .any base t v := hval0
  have hW' := hW
  obtain ⟨p, q, hA0, hV, rfl, _, _⟩ := hW
  have hA : DataW.TrodAll enc Try.prog W 0 (fun _ => true) true Try.f4.params.toList args.toList ds p := hA0
  rw [Try.params4] at hA hval
  obtain ⟨v0, vs0, d0, ds0, p0, q0, hargs, rfl, rfl, h0, r0⟩ := trodAll_cons hA
  obtain ⟨rfl, rfl, rfl⟩ := trodAll_nil r0
  obtain rfl : args = #[v0] := by cases args; simp_all
  obtain ⟨rfl, rfl⟩ := trodVars_none hV
  obtain ⟨a0, len0, cap0, rfl⟩ := okWide_slice Try.underlying27 (hval 0 27 v0 rfl rfl)
  have k0 := h0
  have lt0 : ∀ x ∈ p0, x.block < W.heap.size := by obtain ⟨m, hm⟩ := k0; exact DataW.trod_lt m _ _ _ hm
  obtain ⟨⟨B0, hB0⟩, hl0⟩ : (∃ B, Tx W a0 len0 cap0 B) ∧ len0 ≤ 9223372036854775807 := by
    obtain ⟨fuel, hf⟩ := h0
    exact open_bytes hf
  clear hA0 hval0
  refine (Pg.psums_any Pg.papi B0 a0 len0 cap0 W hB0 hl0).mono fun e W' ⟨he, bel⟩ => ?_
  subst he
  exact ⟨_, rfl, _, _, _, [], _, [], hW', trodAll_mk1 (shut_bool Try.underlying4 _),
    (trodAll_cons_mk (Below.trod gen_laidOut (by kernel_rfl) (of_decide_eq_true (by kernel_rfl)) k0 bel lt0) trodAll_mk0), rfl, bel.frame _, fun h => by cases h⟩
theorem pgsums_holds : Rows.PageSumsSaid :=
  OpenClaim.holds_of_wide 4 Try.f4 rfl rfl rfl rfl rfl rfl rfl ⟨rfl, rfl, rfl, rfl, rfl⟩ rfl rfl rfl rfl rfl (by kernel_rfl) Try.func4 (by kernel_rfl)
    (of_decide_eq_true (by kernel_rfl)) (by unfold Func.isWrapper; first | (rw [if_pos (by decide +kernel)]; kernel_rfl) | (rw [if_neg (by decide +kernel)]; exact ⟨rfl, rfl⟩))
    (fun os started H enc _ => pgsums_lifted os started H enc)
end Go.Proofs.Ytlmbicelngpgoaa
