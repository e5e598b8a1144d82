/- The walk of MortonCodes. -/
import Derived.Test.YtcekcoekbgdkaaaMorAlive
import Derived.Test.YtcekcoekbgdkaaaMorSame
import Derived.Test.YtcekcoekbgdkaaaMorRefB
namespace Go.Proofs.Ytcekcoekbgdkaaa
open Go.RowKit

/-- What is asked of the worlds may grow on the way. -/
theorem wpAnyH_mono {P : Program} {md : Region.Mode} {ops : Array Oper} {Q : Exit → Act → World → Prop} {S S' : World → Prop} (h : ∀ w, S' w → S w) : ∀ (fuel : Nat) (listed : Array Bool) (a : Act) (w : World), wpAnyH P md ops Q S' fuel listed a w → wpAnyH P md ops Q S fuel listed a w
  | 0, _, _, _, k => k
  | fuel + 1, _, _, _, k => ⟨k.1, fun i hi => wpOp_mono (fun a' w' h' => ⟨h _ h'.1, wpAnyH_mono h fuel _ a' w' h'.2⟩) (k.2 i hi)⟩
/-- The code, the point, and the point of the code lie where they lay. -/
structure KS (w0 : World) (g m : Nat) (B : List Nat) (p : Option Addr) (n c : Nat) (R : List Int) (q : Option Addr) (c2 : Nat) (w : World) : Prop where
  low : Below w0.heap.size w0 w
  tx : Tx w (some ⟨g, 0, none⟩) m m B
  ints : Ints w p n c R
  ints2 : Ints w q n c2 R
theorem KS.later {w0 : World} {g m : Nat} {B : List Nat} {p : Option Addr} {n c : Nat} {R : List Int} {q : Option Addr} {c2 : Nat} {w w' : World} (h : KS w0 g m B p n c R q c2 w) (hb : Below w.heap.size w w') : KS w0 g m B p n c R q c2 w' :=
  ⟨h.low.trans (hb.mono h.low.size), h.tx.later hb, h.ints.later hb, h.ints2.later hb⟩
set_option maxRecDepth 100000 in
set_option maxHeartbeats 4000000 in
theorem mcodes_any (R : List Int) (d : Int) (p : Option Addr) (n c : Nat) (w : World) (hR : Ints w p n c R) (hn : n ≤ 9223372036854775807) (d1 : -9223372036854775808 ≤ d) (d2 : d ≤ 9223372036854775807) :
    Calls Try.prog 3 #[.slice p n c, .int .i64 d] w fun e w' => e = .returned (.bool true) ∧ Below w.heap.size w w' := by
  have HR := Lib.hid hR
  have SR := Lib.hid hR.size
  clear hR
  go_enter Try.func3, Try.ntmps3
  go_wp2_with fail
  refine (alive_any w).mono ?_
  rintro _ w0 ⟨rfl, hb0⟩
  have B0 := Lib.hid hb0
  have HR0 := Lib.hid (HR.out.later hb0)
  clear hb0
  by_cases hd : n < 1 ∨ 8 < n
  · go_wp2_with fail
    refine (code_no p n c w0 hd hn).mono ?_
    rintro _ w2 ⟨rfl, rfl⟩
    by_cases h1 : n < 1
    · have b1 : (n : Int) < 1 := by omega
      clear hd
      go_wp2_with fail
      go_ret
      exact ⟨rfl, B0.out⟩
    · have b1 : ¬ (n : Int) < 1 := by omega
      have b2 : (8 : Int) < n := by omega
      clear hd
      go_wp2_with fail
      go_ret
      exact ⟨rfl, B0.out⟩
  have h1 : 1 ≤ n := by omega
  have h8 : n ≤ 8 := by omega
  have i1 : ¬ (n : Int) < 1 := by omega
  have i8 : ¬ (8 : Int) < n := by omega
  clear hd
  go_wp2_with fail
  refine (code_any R p n c w0 HR0.out h1 h8).mono ?_
  rintro _ w1 hp
  obtain ⟨g, rfl, -, hr1, hb1⟩ := hp
  have hl : (Mm.code R).length = 8 * n := by rw [Mm.code_length, SR.out]
  have hby := Bytes.row hr1 (Mm.code_ok R)
  rw [hl] at hby
  have BY1 := Lib.hid hby
  have HR1 := Lib.hid (HR0.out.later hb1)
  have B1 := Lib.hid (B0.out.trans (hb1.mono B0.out.size))
  clear hr1 hb1 hby
  have HL := Lib.hid hl
  clear hl
  go_wp2_with fail
  refine (point_any (Mm.code R) _ (8 * n) (8 * n) n w1 BY1.out h1 h8 rfl).mono ?_
  rintro _ w2 hp
  obtain ⟨q, c2, rfl, hq, hb2⟩ := hp
  have hpc := Mm.point_code (R := R) HR.out.ok
  rw [← SR.out] at hpc
  rw [hpc] at hq
  have hks : KS w g (8 * n) (Mm.code R) p n c R q c2 w2.drew := by
    have h : KS w g (8 * n) (Mm.code R) p n c R q c2 w2 := ⟨B1.out.trans (hb2.mono B1.out.size), BY1.out.tx.later hb2, HR1.out.later hb2, hq⟩
    exact h.later ⟨rfl, rfl, rfl, Nat.le_refl _, fun _ _ => rfl⟩
  have hcA : ∀ w', KS w g (8 * n) (Mm.code R) p n c R q c2 w' → (convert 25 9 (.slice (some ⟨g, 0, none⟩) (8 * n) (8 * n))).run Try.prog w' = .ok (.string (strOf (Mm.code R))) w' := fun w' h => convert_tx h.tx
  clear hpc hq hb2
  go_upto_region 7 with fail
  all_goals
    refine wp_region_held_drew (S := fun w' => KS w g (8 * n) (Mm.code R) p n c R q c2 w') (by kernel_rfl) hks (fun hHeld => ?_)
    refine wpAnyH_take (i := 0) (oi := ⟨some 40, .move (.tmp 6), _, _, _, _⟩) (v := ?_) rfl (by kernel_rfl) (by kernel_rfl) (by kernel_rfl) (fun _ _ _ h => h) (Or.inl ⟨by rfl, ?_⟩) (by assumption) ?_
    rotate_left
    · intro w' hSw
      go_simp
      try with_reducible rfl
    try simp only [Act.put, List.setIfInBounds_toArray, List.set_cons_zero, List.set_cons_succ]
    refine wpAnyH_take (i := 1) (oi := ⟨some 41, .binOp .neq 26 (.tmp 40) (.const (.int .i64 0)) 26, _, _, _, _⟩) (v := ?_) rfl (by kernel_rfl) (by kernel_rfl) (by kernel_rfl) (fun _ _ _ h => h) (Or.inl ⟨by rfl, ?_⟩) (by assumption) ?_
    rotate_left
    · intro w' hSw
      go_simp
      try with_reducible rfl
    try simp only [Act.put, List.setIfInBounds_toArray, List.set_cons_zero, List.set_cons_succ]
    refine wpAnyH_take (i := 2) (oi := ⟨some 42, .move (.tmp 41), _, _, _, _⟩) (v := ?_) rfl (by kernel_rfl) (by kernel_rfl) (by kernel_rfl) (fun _ _ _ h => h) (Or.inl ⟨by rfl, ?_⟩) (by assumption) ?_
    rotate_left
    · intro w' hSw
      go_simp
      try with_reducible rfl
    try simp only [Act.put, List.setIfInBounds_toArray, List.set_cons_zero, List.set_cons_succ]
    refine wpAnyH_take (i := 3) (oi := ⟨some 43, .move (.tmp 5), _, _, _, _⟩) (v := ?_) rfl (by kernel_rfl) (by kernel_rfl) (by kernel_rfl) (fun _ _ _ h => h) (Or.inl ⟨by rfl, ?_⟩) (by assumption) ?_
    rotate_left
    · intro w' hSw
      go_simp
      try with_reducible rfl
    try simp only [Act.put, List.setIfInBounds_toArray, List.set_cons_zero, List.set_cons_succ]
    refine wpAnyH_take (i := 5) (oi := ⟨some 45, .move (.tmp 0), _, _, _, _⟩) (v := ?_) rfl (by kernel_rfl) (by kernel_rfl) (by kernel_rfl) (fun _ _ _ h => h) (Or.inl ⟨by rfl, ?_⟩) (by assumption) ?_
    rotate_left
    · intro w' hSw
      go_simp
      try with_reducible rfl
    try simp only [Act.put, List.setIfInBounds_toArray, List.set_cons_zero, List.set_cons_succ]
    refine wpAnyH_take (i := 4) (oi := ⟨some 44, .convert 25 9 (.tmp 43), _, _, _, _⟩) (v := ?_) rfl (by kernel_rfl) (by kernel_rfl) (by kernel_rfl) (fun _ _ _ h => h) (Or.inl ⟨by rfl, ?_⟩) (by assumption) ?_
    rotate_left
    · intro w' hSw
      go_simp
      try with_reducible rfl
    try simp only [Act.put, List.setIfInBounds_toArray, List.set_cons_zero, List.set_cons_succ]
    refine wpAnyH_ready (rs := [6]) (by kernel_rfl) (by simp) ?_
    refine AllReadyH.cons (o := ⟨some 46, .call ⟨.value (.func 11), #[.tmp 45], #[23]⟩, _, _, _, _⟩) rfl (fun K hK => ?_) AllReadyH.nil
    go_simp
    refine (refcode_any R p n c _ hHeld.ints h8).mono ?_
    rintro _ w5 hp
    obtain ⟨q5, c5, rfl, hq5, hb5⟩ := hp
    have hs5 := hHeld.later hb5
    clear hb5
    try go_wp2_with fail
    try go_wp2_with fail
    refine hK.out _ _ hs5 (fun hHeld => ?_)
    clear hK K
    try simp only [Act.put, List.setIfInBounds_toArray, List.set_cons_zero, List.set_cons_succ]
    refine wpAnyH_mono (S' := fun w' => KS w g (8 * n) (Mm.code R) p n c R q c2 w' ∧ Tx w' q5 (Mm.code R).length c5 (Mm.code R)) (fun _ h => h.1) _ _ _ _ ?_
    have hHeld2 : KS w g (8 * n) (Mm.code R) p n c R q c2 w5 ∧ Tx w5 q5 (Mm.code R).length c5 (Mm.code R) := ⟨hs5, hq5.tx⟩
    have hc5 : ∀ w', Tx w' q5 (Mm.code R).length c5 (Mm.code R) → (convert 25 9 (.slice q5 (Mm.code R).length c5)).run Try.prog w' = .ok (.string (strOf (Mm.code R))) w' := fun w' h => convert_tx h
    refine wpAnyH_take (i := 7) (oi := ⟨some 47, .convert 25 9 (.tmp 46), _, _, _, _⟩) (v := ?_) rfl (by kernel_rfl) (by kernel_rfl) (by kernel_rfl) (fun _ _ _ h => h) (Or.inl ⟨by rfl, ?_⟩) (by assumption) ?_
    rotate_left
    · intro w' hSw
      obtain ⟨hS1, hS2⟩ := hSw
      go_simp
      try with_reducible rfl
    try simp only [Act.put, List.setIfInBounds_toArray, List.set_cons_zero, List.set_cons_succ]
    refine wpAnyH_take (i := 8) (oi := ⟨some 48, .binOp .neq 9 (.tmp 44) (.tmp 47) 9, _, _, _, _⟩) (v := ?_) rfl (by kernel_rfl) (by kernel_rfl) (by kernel_rfl) (fun _ _ _ h => h) (Or.inl ⟨by rfl, ?_⟩) (by assumption) ?_
    rotate_left
    · intro w' hSw
      obtain ⟨hS1, hS2⟩ := hSw
      go_simp
      try with_reducible rfl
    try simp only [Act.put, List.setIfInBounds_toArray, List.set_cons_zero, List.set_cons_succ]
    refine wpAnyH_take (i := 9) (oi := ⟨some 49, .pick (.tmp 42) (.const (.bool true)) (.tmp 48), _, _, _, _⟩) (v := ?_) rfl (by kernel_rfl) (by kernel_rfl) (by kernel_rfl) (fun _ _ _ h => h) (Or.inl ⟨by rfl, ?_⟩) (by assumption) ?_
    rotate_left
    · intro w' hSw
      obtain ⟨hS1, hS2⟩ := hSw
      go_simp
      try with_reducible rfl
    try simp only [Act.put, List.setIfInBounds_toArray, List.set_cons_zero, List.set_cons_succ]
    refine wpAnyH_take (i := 10) (oi := ⟨some 50, .move (.tmp 49), _, _, _, _⟩) (v := ?_) rfl (by kernel_rfl) (by kernel_rfl) (by kernel_rfl) (fun _ _ _ h => h) (Or.inl ⟨by rfl, ?_⟩) (by assumption) ?_
    rotate_left
    · intro w' hSw
      obtain ⟨hS1, hS2⟩ := hSw
      go_simp
      try with_reducible rfl
    try simp only [Act.put, List.setIfInBounds_toArray, List.set_cons_zero, List.set_cons_succ]
    refine wpAnyH_take (i := 11) (oi := ⟨some 51, .move (.tmp 8), _, _, _, _⟩) (v := ?_) rfl (by kernel_rfl) (by kernel_rfl) (by kernel_rfl) (fun _ _ _ h => h) (Or.inl ⟨by rfl, ?_⟩) (by assumption) ?_
    rotate_left
    · intro w' hSw
      obtain ⟨hS1, hS2⟩ := hSw
      go_simp
      try with_reducible rfl
    try simp only [Act.put, List.setIfInBounds_toArray, List.set_cons_zero, List.set_cons_succ]
    refine wpAnyH_take (i := 12) (oi := ⟨some 52, .binOp .neq 26 (.tmp 51) (.const (.int .i64 0)) 26, _, _, _, _⟩) (v := ?_) rfl (by kernel_rfl) (by kernel_rfl) (by kernel_rfl) (fun _ _ _ h => h) (Or.inl ⟨by rfl, ?_⟩) (by assumption) ?_
    rotate_left
    · intro w' hSw
      obtain ⟨hS1, hS2⟩ := hSw
      go_simp
      try with_reducible rfl
    try simp only [Act.put, List.setIfInBounds_toArray, List.set_cons_zero, List.set_cons_succ]
    refine wpAnyH_take (i := 13) (oi := ⟨some 53, .pick (.tmp 50) (.const (.bool true)) (.tmp 52), _, _, _, _⟩) (v := ?_) rfl (by kernel_rfl) (by kernel_rfl) (by kernel_rfl) (fun _ _ _ h => h) (Or.inl ⟨by rfl, ?_⟩) (by assumption) ?_
    rotate_left
    · intro w' hSw
      obtain ⟨hS1, hS2⟩ := hSw
      go_simp
      try with_reducible rfl
    try simp only [Act.put, List.setIfInBounds_toArray, List.set_cons_zero, List.set_cons_succ]
    refine wpAnyH_take (i := 14) (oi := ⟨some 54, .move (.tmp 53), _, _, _, _⟩) (v := ?_) rfl (by kernel_rfl) (by kernel_rfl) (by kernel_rfl) (fun _ _ _ h => h) (Or.inl ⟨by rfl, ?_⟩) (by assumption) ?_
    rotate_left
    · intro w' hSw
      obtain ⟨hS1, hS2⟩ := hSw
      go_simp
      try with_reducible rfl
    try simp only [Act.put, List.setIfInBounds_toArray, List.set_cons_zero, List.set_cons_succ]
    refine wpAnyH_take (i := 15) (oi := ⟨some 55, .move (.tmp 0), _, _, _, _⟩) (v := ?_) rfl (by kernel_rfl) (by kernel_rfl) (by kernel_rfl) (fun _ _ _ h => h) (Or.inl ⟨by rfl, ?_⟩) (by assumption) ?_
    rotate_left
    · intro w' hSw
      obtain ⟨hS1, hS2⟩ := hSw
      go_simp
      try with_reducible rfl
    try simp only [Act.put, List.setIfInBounds_toArray, List.set_cons_zero, List.set_cons_succ]
    refine wpAnyH_take (i := 16) (oi := ⟨some 56, .move (.tmp 7), _, _, _, _⟩) (v := ?_) rfl (by kernel_rfl) (by kernel_rfl) (by kernel_rfl) (fun _ _ _ h => h) (Or.inl ⟨by rfl, ?_⟩) (by assumption) ?_
    rotate_left
    · intro w' hSw
      obtain ⟨hS1, hS2⟩ := hSw
      go_simp
      try with_reducible rfl
    try simp only [Act.put, List.setIfInBounds_toArray, List.set_cons_zero, List.set_cons_succ]
    refine wpAnyH_ready (rs := [17]) (by kernel_rfl) (by simp) ?_
    refine AllReadyH.cons (o := ⟨some 57, .call ⟨.value (.func 12), #[.tmp 55, .tmp 56], #[23, 23]⟩, _, _, _, _⟩) rfl (fun K hK => ?_) AllReadyH.nil
    go_simp
    refine (msame_any p q n c n c2 R R _ hHeld2.1.ints hHeld2.1.ints2 (by omega)).mono ?_
    rintro _ w6 ⟨rfl, j6, hw6⟩
    have hs6 := hHeld2.1.later (w' := w6) (by rw [hw6]; exact Below.drewN (Below.refl _ _) _)
    have hx6 := hHeld2.2.later (w' := w6) (by rw [hw6]; exact Below.drewN (Below.refl _ _) _)
    clear hw6
    rw [decide_eq_true (rfl : R = R)]
    try go_wp2_with fail
    try go_wp2_with fail
    refine hK.out _ _ ⟨hs6, hx6⟩ (fun hHeld => ?_)
    clear hK K
    try simp only [Act.put, List.setIfInBounds_toArray, List.set_cons_zero, List.set_cons_succ]
    refine wpAnyH_take (i := 18) (oi := ⟨some 58, .unOp .not 4 (.tmp 57), _, _, _, _⟩) (v := ?_) rfl (by kernel_rfl) (by kernel_rfl) (by kernel_rfl) (fun _ _ _ h => h) (Or.inl ⟨by rfl, ?_⟩) (by assumption) ?_
    rotate_left
    · intro w' hSw
      obtain ⟨hS1, hS2⟩ := hSw
      go_simp
      try with_reducible rfl
    try simp only [Act.put, List.setIfInBounds_toArray, List.set_cons_zero, List.set_cons_succ]
    refine wpAnyH_take (i := 19) (oi := ⟨some 59, .pick (.tmp 54) (.const (.bool true)) (.tmp 58), _, _, _, _⟩) (v := ?_) rfl (by kernel_rfl) (by kernel_rfl) (by kernel_rfl) (fun _ _ _ h => h) (Or.inl ⟨by rfl, ?_⟩) (by assumption) ?_
    rotate_left
    · intro w' hSw
      obtain ⟨hS1, hS2⟩ := hSw
      go_simp
      try with_reducible rfl
    try simp only [Act.put, List.setIfInBounds_toArray, List.set_cons_zero, List.set_cons_succ]
    refine wpAnyH_done (by kernel_rfl) ?_ _
    have hT := hs6.tx
    have hL6 := hs6.low
    have HT6 := Lib.hid hT.bytes
    have HL6 := Lib.hid hL6
    clear hT hL6 hHeld hs6 hx6 hc5 hHeld2 hs5 hq5 hcA hks HR1 BY1
    by_cases hdb : d < 1 ∨ 8 < d
    · go_wp2_with fail
      refine (point_arg _ (8 * n) (8 * n) d _ hdb).mono ?_
      rintro _ w7 ⟨rfl, rfl⟩
      by_cases e1 : d < 1
      · clear hdb
        go_wp2_with fail
        go_ret
        exact ⟨rfl, HL6.out⟩
      · have e2 : 8 < d := by omega
        clear hdb
        go_wp2_with fail
        go_ret
        exact ⟨rfl, HL6.out⟩
    · have e1 : ¬ d < 1 := by omega
      have e2 : ¬ 8 < d := by omega
      clear hdb
      by_cases hne : d = n
      · subst hne
        go_wp2_with fail
        refine (point_any (Mm.code R) _ (8 * n) (8 * n) n _ HT6.out h1 h8 rfl).mono ?_
        rintro _ w7 hp
        obtain ⟨q7, c7, rfl, -, hb7⟩ := hp
        have HL7 := Lib.hid (HL6.out.trans (hb7.mono HL6.out.size))
        clear hb7
        go_wp2_with fail
        go_ret
        exact ⟨rfl, HL7.out⟩
      · go_wp2_with fail
        refine (point_form _ (8 * n) (8 * n) d _ (by omega) (by omega) (by omega)).mono ?_
        rintro _ w7 ⟨rfl, rfl⟩
        have e3 : (d != (n : Int)) = true := by simp; omega
        have HNE := Lib.hid hne
        clear hne
        go_wp2_with fail
        go_ret
        exact ⟨rfl, HL6.out⟩
end Go.Proofs.Ytcekcoekbgdkaaa
