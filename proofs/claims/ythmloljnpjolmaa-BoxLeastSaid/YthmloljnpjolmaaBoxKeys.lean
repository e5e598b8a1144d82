/- BoxKeys, walked. -/
import Derived.Test.YthmloljnpjolmaaBoxAlive
namespace Go.Proofs.Ythmloljnpjolmaa
open Go.RowKit

theorem ord_cells {w w' : World} {B : Nat} {a b c : Value} (hb : Below w.heap.size w w') (hB : B < w.heap.size) (h : w.cell? ⟨B, 0, none⟩ = some a ∧ w.cell? ⟨B, 1, none⟩ = some b ∧ w.cell? ⟨B, 2, none⟩ = some c) :
    w'.cell? ⟨B, 0, none⟩ = some a ∧ w'.cell? ⟨B, 1, none⟩ = some b ∧ w'.cell? ⟨B, 2, none⟩ = some c :=
  ⟨(hb.cell (p := ⟨B, 0, none⟩) hB).trans h.1, (hb.cell (p := ⟨B, 1, none⟩) hB).trans h.2.1, (hb.cell (p := ⟨B, 2, none⟩) hB).trans h.2.2⟩
/-- An order that lies boxed, and its point. -/
structure OrdIn (w0 w : World) (B : Nat) (kd cl : Int) (q : Option Addr) (an ac : Nat) (A : List Int) : Prop where
  cells : w.cell? ⟨B, 0, none⟩ = some (.int .u8 kd) ∧ w.cell? ⟨B, 1, none⟩ = some (.int .i64 cl) ∧ w.cell? ⟨B, 2, none⟩ = some (.slice q an ac)
  lt : B < w.heap.size
  i : Ints w q an ac A
  below : Below w0.heap.size w0 w
theorem OrdIn.later {w0 w w' : World} {B : Nat} {kd cl : Int} {q : Option Addr} {an ac : Nat} {A : List Int} (h : OrdIn w0 w B kd cl q an ac A) (hb : Below w.heap.size w w') : OrdIn w0 w' B kd cl q an ac A :=
  ⟨ord_cells hb h.lt h.cells, Nat.lt_of_lt_of_le h.lt hb.size, h.i.later hb, h.below.trans (hb.mono h.below.size)⟩
theorem ord_in {w : World} {kd cl : Int} {q : Option Addr} {an ac : Nat} {A : List Int} (h : Ints w q an ac A) : OrdIn w (w.alloc (.cells #[.int .u8 kd, .int .i64 cl, .slice q an ac] 34)) w.heap.size kd cl q an ac A := by
  have hb : Below w.heap.size w (w.alloc (.cells #[.int .u8 kd, .int .i64 cl, .slice q an ac] 34)) := (Below.refl _ _).alloc (Nat.le_refl _) _
  exact ⟨three_alloc w _ _ _ _, by simp, h.later hb, hb⟩
set_option maxRecDepth 100000 in
set_option maxHeartbeats 4000000 in
theorem bkeys_any (kd cl : Int) (q p r : Option Addr) (an ac n c m e : Nat) (A P Q : List Int) (d : Int) (w : World) (hA : Ints w q an ac A) (hP : Ints w p n c P) (hQ : Ints w r m e Q) :
    Calls Try.prog 4 #[.agg #[.int .u8 kd, .int .i64 cl, .slice q an ac], .slice p n c, .slice r m e, .int .i64 d] w fun e w' => e = .returned (.bool true) ∧ Below w.heap.size w w' := by
  obtain ⟨w1, hw1⟩ : ∃ w1, w1 = w.alloc (.cells #[.int .u8 kd, .int .i64 cl, .slice q an ac] 34) := ⟨_, rfl⟩
  have ho := ord_in (kd := kd) (cl := cl) hA
  go_enter Try.func4, Try.ntmps4
  go_upto_region 1 with fail
  rw [← hw1] at ho ⊢
  clear hw1
  have O1 := Lib.hid ho
  have P1 := Lib.hid (hP.later ho.below)
  have Q1 := Lib.hid (hQ.later ho.below)
  clear ho hA hP hQ
  have HL := Lib.hid (alive4_any w1)
  go_wp2_with ((go_at_call 8; (with_reducible refine HL.out.mono ?_)))
  rintro _ w2 ⟨rfl, hb2⟩
  have O2 := Lib.hid (O1.out.later hb2)
  have P2 := Lib.hid (P1.out.later hb2)
  have Q2 := Lib.hid (Q1.out.later hb2)
  clear hb2 O1 P1 Q1 HL
  clear w1
  obtain ⟨x0, x1, x2⟩ := O2.out.cells
  obtain ⟨hi, lo, hd⟩ := dV_two (keyI kd cl A P an n)
  have hk := key_any kd cl q p an ac n c A P w2 O2.out.i P2.out
  rw [hd] at hk
  have HK := Lib.hid hk
  have HD := Lib.hid hd
  clear hk hd
  go_wp2_with ((go_at_call 15; (with_reducible refine HK.out.mono ?_)))
  rintro _ w3 ⟨rfl, hb3⟩
  have O3 := Lib.hid (O2.out.later hb3)
  have P3 := Lib.hid (P2.out.later hb3)
  have Q3 := Lib.hid (Q2.out.later hb3)
  clear hb3 O2 P2 Q2 HK x0 x1 x2
  clear w2
  go_upto_region 4 with fail
  have b4 : Below w3.heap.size w3 (w3.alloc (.cells #[.int .u64 hi, .int .u64 lo] 37)) := (Below.refl _ _).alloc (Nat.le_refl _) _
  have T4 := Lib.hid (two_fresh w3 (.int .u64 hi) (.int .u64 lo))
  generalize w3.alloc (.cells #[.int .u64 hi, .int .u64 lo] 37) = w4 at *
  have O4 := Lib.hid (O3.out.later b4)
  have P4 := Lib.hid (P3.out.later b4)
  have Q4 := Lib.hid (Q3.out.later b4)
  clear b4 O3 P3 Q3
  generalize w3.heap.size = g1 at *
  clear w3
  obtain ⟨x0, x1, x2⟩ := O4.out.cells
  have hk := refkey_any kd cl q p an ac n c A P w4 O4.out.i P4.out
  rw [HD.out] at hk
  have HK := Lib.hid hk
  clear hk
  go_wp2_with ((go_at_call 16; (with_reducible refine HK.out.mono ?_)))
  rintro _ w5 ⟨rfl, hb5⟩
  have O5 := Lib.hid (O4.out.later hb5)
  have P5 := Lib.hid (P4.out.later hb5)
  have Q5 := Lib.hid (Q4.out.later hb5)
  have T5 := Lib.hid (T4.out.later hb5 T4.out.lt)
  clear hb5 O4 P4 Q4 T4 HK x0 x1 x2 HD
  clear w4
  go_upto_region 5 with fail
  have b6 : Below w5.heap.size w5 (w5.alloc (.cells #[.int .u64 hi, .int .u64 lo] 37)) := (Below.refl _ _).alloc (Nat.le_refl _) _
  have U6 := Lib.hid (two_fresh w5 (.int .u64 hi) (.int .u64 lo))
  generalize w5.alloc (.cells #[.int .u64 hi, .int .u64 lo] 37) = w6 at *
  have O6 := Lib.hid (O5.out.later b6)
  have P6 := Lib.hid (P5.out.later b6)
  have Q6 := Lib.hid (Q5.out.later b6)
  have T6 := Lib.hid (T5.out.later b6 T5.out.lt)
  clear b6 O5 P5 Q5 T5
  generalize w5.heap.size = g2 at *
  clear w5
  obtain ⟨bo, hbo⟩ : ∃ b, b = decide (ordP kd cl an d) := ⟨_, rfl⟩
  obtain ⟨ba, hba⟩ : ∃ b, b = decide (aheadP kd cl A P Q an n m) := ⟨_, rfl⟩
  have h1 := fun w' => ordright_any kd cl d q an ac w'
  have h2 := fun w' => refordright_any kd cl d q an ac w'
  have h3 := fun w' (hb : Below w6.heap.size w6 w') => ahead_any kd cl q p r an ac n c m e A P Q w' (O6.out.i.later hb) (P6.out.later hb) (Q6.out.later hb)
  have h4 := fun w' (hb : Below w6.heap.size w6 w') => refahead_any kd cl q p r an ac n c m e A P Q w' (O6.out.i.later hb) (P6.out.later hb) (Q6.out.later hb)
  rw [← hbo] at h1 h2
  rw [← hba] at h3 h4
  have H1 := Lib.hid (show ∀ w', Below w6.heap.size w6 w' → Calls Try.prog 17 #[.agg #[.int .u8 kd, .int .i64 cl, .slice q an ac], .int .i64 d] w' fun e w'' => e = .returned (.bool bo) ∧ Below w6.heap.size w6 w'' from fun w' hb => (h1 w').mono fun e w'' h => ⟨h.1, hb.trans (h.2.mono hb.size)⟩)
  have H2 := Lib.hid (show ∀ w', Below w6.heap.size w6 w' → Calls Try.prog 18 #[.agg #[.int .u8 kd, .int .i64 cl, .slice q an ac], .int .i64 d] w' fun e w'' => e = .returned (.bool bo) ∧ Below w6.heap.size w6 w'' from fun w' hb => (h2 w').mono fun e w'' h => ⟨h.1, hb.trans (h.2.mono hb.size)⟩)
  have H3 := Lib.hid (show ∀ w', Below w6.heap.size w6 w' → Calls Try.prog 19 #[.agg #[.int .u8 kd, .int .i64 cl, .slice q an ac], .slice p n c, .slice r m e] w' fun e w'' => e = .returned (.bool ba) ∧ Below w6.heap.size w6 w'' from fun w' hb => (h3 w' hb).mono fun e w'' h => ⟨h.1, hb.trans (h.2.mono hb.size)⟩)
  have H4 := Lib.hid (show ∀ w', Below w6.heap.size w6 w' → Calls Try.prog 20 #[.agg #[.int .u8 kd, .int .i64 cl, .slice q an ac], .slice p n c, .slice r m e] w' fun e w'' => e = .returned (.bool ba) ∧ Below w6.heap.size w6 w'' from fun w' hb => (h4 w' hb).mono fun e w'' h => ⟨h.1, hb.trans (h.2.mono hb.size)⟩)
  clear h1 h2 h3 h4 hbo hba
  have HF := Lib.hid (show ∀ w', Below w6.heap.size w6 w' → (Below w6.heap.size w6 w' ∧ w'.cell? ⟨w.heap.size, 0, none⟩ = some (.int .u8 kd) ∧ w'.cell? ⟨w.heap.size, 1, none⟩ = some (.int .i64 cl) ∧ w'.cell? ⟨w.heap.size, 2, none⟩ = some (.slice q an ac) ∧ w'.cell? ⟨g1, 0, none⟩ = some (.int .u64 hi) ∧ w'.cell? ⟨g1, 1, none⟩ = some (.int .u64 lo) ∧ w'.cell? ⟨g2, 0, none⟩ = some (.int .u64 hi) ∧ w'.cell? ⟨g2, 1, none⟩ = some (.int .u64 lo)) from fun w' hb =>
    have t := T6.out.later hb T6.out.lt
    have u := U6.out.later hb U6.out.lt
    ⟨hb, (O6.out.later hb).cells.1, (O6.out.later hb).cells.2.1, (O6.out.later hb).cells.2.2, t.facts.1, t.facts.2.1, u.facts.1, u.facts.2.1⟩)
  have e1 : (bo == bo) = true := by simp
  have e2 : (ba == ba) = true := by simp
  have eq := dist_eql hi lo hi lo
  simp only [and_self, decide_true] at eq
  obtain ⟨-, x0, x1, x2, y0, y1, y2, y3⟩ := HF.out _ (Below.refl _ _)
  cases hbk : decide (ordP kd cl an n) with
  | true =>
    rw [show errOf true = 0 from rfl]
    clear hbk
    refine wp_region_held_drew (S := (fun w' => Below w6.heap.size w6 w' ∧ w'.cell? ⟨w.heap.size, 0, none⟩ = some (.int .u8 kd) ∧ w'.cell? ⟨w.heap.size, 1, none⟩ = some (.int .i64 cl) ∧ w'.cell? ⟨w.heap.size, 2, none⟩ = some (.slice q an ac) ∧ w'.cell? ⟨g1, 0, none⟩ = some (.int .u64 hi) ∧ w'.cell? ⟨g1, 1, none⟩ = some (.int .u64 lo) ∧ w'.cell? ⟨g2, 0, none⟩ = some (.int .u64 hi) ∧ w'.cell? ⟨g2, 1, none⟩ = some (.int .u64 lo))) (by kernel_rfl) (HF.out _ (Below.drew (Below.refl _ _))) (fun hHeld => ?_)
    have hb6 := hHeld.1
    refine wpAnyH_take (i := 0) (oi := ⟨some 27, .load 34 (.tmp 4), _, _, _, _⟩) (v := ?_) rfl (by kernel_rfl) (by kernel_rfl) (by kernel_rfl) (fun _ _ _ h => h) (Or.inl ⟨by rfl, ?_⟩) (by assumption) ?_
    rotate_left
    · intro w' hSw
      (try dsimp only at hSw)
      go_simp
      try with_reducible rfl
    try simp only [Act.put, List.setIfInBounds_toArray, List.set_cons_zero, List.set_cons_succ]
    refine wpAnyH_take (i := 1) (oi := ⟨some 28, .move (.tmp 3), _, _, _, _⟩) (v := ?_) rfl (by kernel_rfl) (by kernel_rfl) (by kernel_rfl) (fun _ _ _ h => h) (Or.inl ⟨by rfl, ?_⟩) (by assumption) ?_
    rotate_left
    · intro w' hSw
      (try dsimp only at hSw)
      go_simp
      try with_reducible rfl
    try simp only [Act.put, List.setIfInBounds_toArray, List.set_cons_zero, List.set_cons_succ]
    refine wpAnyH_take (i := 3) (oi := ⟨some 30, .load 34 (.tmp 4), _, _, _, _⟩) (v := ?_) rfl (by kernel_rfl) (by kernel_rfl) (by kernel_rfl) (fun _ _ _ h => h) (Or.inl ⟨by rfl, ?_⟩) (by assumption) ?_
    rotate_left
    · intro w' hSw
      (try dsimp only at hSw)
      go_simp
      try with_reducible rfl
    try simp only [Act.put, List.setIfInBounds_toArray, List.set_cons_zero, List.set_cons_succ]
    refine wpAnyH_take (i := 4) (oi := ⟨some 31, .move (.tmp 3), _, _, _, _⟩) (v := ?_) rfl (by kernel_rfl) (by kernel_rfl) (by kernel_rfl) (fun _ _ _ h => h) (Or.inl ⟨by rfl, ?_⟩) (by assumption) ?_
    rotate_left
    · intro w' hSw
      (try dsimp only at hSw)
      go_simp
      try with_reducible rfl
    try simp only [Act.put, List.setIfInBounds_toArray, List.set_cons_zero, List.set_cons_succ]
    refine wpAnyH_ready (rs := [2]) (by kernel_rfl) (by simp) ?_
    refine AllReadyH.cons (o := ⟨some 29, .call ⟨.value (.func 17), #[.tmp 27, .tmp 28], #[34, 3]⟩, _, _, _, _⟩) rfl (fun K hK => ?_) AllReadyH.nil
    go_simp
    refine (H1.out _ (by assumption)).mono ?_
    rintro _ w7 ⟨rfl, hb7⟩
    have hs7 := HF.out _ hb7
    try go_wp2_with fail
    refine hK.out _ _ hs7 (fun hHeld => ?_)
    clear hK K
    try simp only [Act.put, List.setIfInBounds_toArray, List.set_cons_zero, List.set_cons_succ]
    refine wpAnyH_ready (rs := [5]) (by kernel_rfl) (by simp) ?_
    refine AllReadyH.cons (o := ⟨some 32, .call ⟨.value (.func 18), #[.tmp 30, .tmp 31], #[34, 3]⟩, _, _, _, _⟩) rfl (fun K hK => ?_) AllReadyH.nil
    go_simp
    refine (H2.out _ (by assumption)).mono ?_
    rintro _ w8 ⟨rfl, hb8⟩
    have hs8 := HF.out _ hb8
    try go_wp2_with fail
    refine hK.out _ _ hs8 (fun hHeld => ?_)
    clear hK K
    try simp only [Act.put, List.setIfInBounds_toArray, List.set_cons_zero, List.set_cons_succ]
    refine wpAnyH_take (i := 6) (oi := ⟨some 33, .binOp .eql 4 (.tmp 29) (.tmp 32) 4, _, _, _, _⟩) (v := ?_) rfl (by kernel_rfl) (by kernel_rfl) (by kernel_rfl) (fun _ _ _ h => h) (Or.inl ⟨by rfl, ?_⟩) (by assumption) ?_
    rotate_left
    · intro w' hSw
      (try dsimp only at hSw)
      go_simp
      try with_reducible rfl
    try simp only [Act.put, List.setIfInBounds_toArray, List.set_cons_zero, List.set_cons_succ]
    refine wpAnyH_take (i := 7) (oi := ⟨some 34, .move (.tmp 33), _, _, _, _⟩) (v := ?_) rfl (by kernel_rfl) (by kernel_rfl) (by kernel_rfl) (fun _ _ _ h => h) (Or.inl ⟨by rfl, ?_⟩) (by assumption) ?_
    rotate_left
    · intro w' hSw
      (try dsimp only at hSw)
      go_simp
      try with_reducible rfl
    try simp only [Act.put, List.setIfInBounds_toArray, List.set_cons_zero, List.set_cons_succ]
    refine wpAnyH_take (i := 8) (oi := ⟨some 35, .load 37 (.tmp 9), _, _, _, _⟩) (v := ?_) rfl (by kernel_rfl) (by kernel_rfl) (by kernel_rfl) (fun _ _ _ h => h) (Or.inl ⟨by rfl, ?_⟩) (by assumption) ?_
    rotate_left
    · intro w' hSw
      (try dsimp only at hSw)
      go_simp
      try with_reducible rfl
    try simp only [Act.put, List.setIfInBounds_toArray, List.set_cons_zero, List.set_cons_succ]
    refine wpAnyH_take (i := 9) (oi := ⟨some 36, .load 37 (.tmp 11), _, _, _, _⟩) (v := ?_) rfl (by kernel_rfl) (by kernel_rfl) (by kernel_rfl) (fun _ _ _ h => h) (Or.inl ⟨by rfl, ?_⟩) (by assumption) ?_
    rotate_left
    · intro w' hSw
      (try dsimp only at hSw)
      go_simp
      try with_reducible rfl
    try simp only [Act.put, List.setIfInBounds_toArray, List.set_cons_zero, List.set_cons_succ]
    refine wpAnyH_take (i := 10) (oi := ⟨some 37, .binOp .eql 37 (.tmp 35) (.tmp 36) 37, _, _, _, _⟩) (v := ?_) rfl (by kernel_rfl) (by kernel_rfl) (by kernel_rfl) (fun _ _ _ h => h) (Or.inl ⟨by rfl, ?_⟩) (by assumption) ?_
    rotate_left
    · intro w' hSw
      (try dsimp only at hSw)
      go_simp
      try with_reducible rfl
    try simp only [Act.put, List.setIfInBounds_toArray, List.set_cons_zero, List.set_cons_succ]
    refine wpAnyH_take (i := 11) (oi := ⟨some 38, .pick (.tmp 34) (.tmp 37) (.const (.bool false)), _, _, _, _⟩) (v := ?_) rfl (by kernel_rfl) (by kernel_rfl) (by kernel_rfl) (fun _ _ _ h => h) (Or.inl ⟨by rfl, ?_⟩) (by assumption) ?_
    rotate_left
    · intro w' hSw
      (try dsimp only at hSw)
      go_simp
      try with_reducible rfl
    try simp only [Act.put, List.setIfInBounds_toArray, List.set_cons_zero, List.set_cons_succ]
    refine wpAnyH_take (i := 12) (oi := ⟨some 39, .move (.tmp 38), _, _, _, _⟩) (v := ?_) rfl (by kernel_rfl) (by kernel_rfl) (by kernel_rfl) (fun _ _ _ h => h) (Or.inl ⟨by rfl, ?_⟩) (by assumption) ?_
    rotate_left
    · intro w' hSw
      (try dsimp only at hSw)
      go_simp
      try with_reducible rfl
    try simp only [Act.put, List.setIfInBounds_toArray, List.set_cons_zero, List.set_cons_succ]
    refine wpAnyH_take (i := 13) (oi := ⟨some 40, .move (.tmp 10), _, _, _, _⟩) (v := ?_) rfl (by kernel_rfl) (by kernel_rfl) (by kernel_rfl) (fun _ _ _ h => h) (Or.inl ⟨by rfl, ?_⟩) (by assumption) ?_
    rotate_left
    · intro w' hSw
      (try dsimp only at hSw)
      go_simp
      try with_reducible rfl
    try simp only [Act.put, List.setIfInBounds_toArray, List.set_cons_zero, List.set_cons_succ]
    refine wpAnyH_take (i := 14) (oi := ⟨some 41, .binOp .eql 38 (.tmp 40) (.const (.int .i64 0)) 38, _, _, _, _⟩) (v := ?_) rfl (by kernel_rfl) (by kernel_rfl) (by kernel_rfl) (fun _ _ _ h => h) (Or.inl ⟨by rfl, ?_⟩) (by assumption) ?_
    rotate_left
    · intro w' hSw
      (try dsimp only at hSw)
      go_simp
      try with_reducible rfl
    try simp only [Act.put, List.setIfInBounds_toArray, List.set_cons_zero, List.set_cons_succ]
    refine wpAnyH_take (i := 15) (oi := ⟨some 42, .move (.tmp 12), _, _, _, _⟩) (v := ?_) rfl (by kernel_rfl) (by kernel_rfl) (by kernel_rfl) (fun _ _ _ h => h) (Or.inl ⟨by rfl, ?_⟩) (by assumption) ?_
    rotate_left
    · intro w' hSw
      (try dsimp only at hSw)
      go_simp
      try with_reducible rfl
    try simp only [Act.put, List.setIfInBounds_toArray, List.set_cons_zero, List.set_cons_succ]
    refine wpAnyH_take (i := 16) (oi := ⟨some 43, .binOp .eql 4 (.tmp 41) (.tmp 42) 4, _, _, _, _⟩) (v := ?_) rfl (by kernel_rfl) (by kernel_rfl) (by kernel_rfl) (fun _ _ _ h => h) (Or.inl ⟨by rfl, ?_⟩) (by assumption) ?_
    rotate_left
    · intro w' hSw
      (try dsimp only at hSw)
      go_simp
      try with_reducible rfl
    try simp only [Act.put, List.setIfInBounds_toArray, List.set_cons_zero, List.set_cons_succ]
    refine wpAnyH_take (i := 17) (oi := ⟨some 44, .pick (.tmp 39) (.tmp 43) (.const (.bool false)), _, _, _, _⟩) (v := ?_) rfl (by kernel_rfl) (by kernel_rfl) (by kernel_rfl) (fun _ _ _ h => h) (Or.inl ⟨by rfl, ?_⟩) (by assumption) ?_
    rotate_left
    · intro w' hSw
      (try dsimp only at hSw)
      go_simp
      try with_reducible rfl
    try simp only [Act.put, List.setIfInBounds_toArray, List.set_cons_zero, List.set_cons_succ]
    refine wpAnyH_take (i := 18) (oi := ⟨some 45, .move (.tmp 44), _, _, _, _⟩) (v := ?_) rfl (by kernel_rfl) (by kernel_rfl) (by kernel_rfl) (fun _ _ _ h => h) (Or.inl ⟨by rfl, ?_⟩) (by assumption) ?_
    rotate_left
    · intro w' hSw
      (try dsimp only at hSw)
      go_simp
      try with_reducible rfl
    try simp only [Act.put, List.setIfInBounds_toArray, List.set_cons_zero, List.set_cons_succ]
    refine wpAnyH_take (i := 19) (oi := ⟨some 46, .move (.tmp 10), _, _, _, _⟩) (v := ?_) rfl (by kernel_rfl) (by kernel_rfl) (by kernel_rfl) (fun _ _ _ h => h) (Or.inl ⟨by rfl, ?_⟩) (by assumption) ?_
    rotate_left
    · intro w' hSw
      (try dsimp only at hSw)
      go_simp
      try with_reducible rfl
    try simp only [Act.put, List.setIfInBounds_toArray, List.set_cons_zero, List.set_cons_succ]
    refine wpAnyH_take (i := 20) (oi := ⟨some 47, .binOp .eql 38 (.tmp 46) (.const (.int .i64 0)) 38, _, _, _, _⟩) (v := ?_) rfl (by kernel_rfl) (by kernel_rfl) (by kernel_rfl) (fun _ _ _ h => h) (Or.inl ⟨by rfl, ?_⟩) (by assumption) ?_
    rotate_left
    · intro w' hSw
      (try dsimp only at hSw)
      go_simp
      try with_reducible rfl
    try simp only [Act.put, List.setIfInBounds_toArray, List.set_cons_zero, List.set_cons_succ]
    refine wpAnyH_take (i := 21) (oi := ⟨some 48, .move (.tmp 47), _, _, _, _⟩) (v := ?_) rfl (by kernel_rfl) (by kernel_rfl) (by kernel_rfl) (fun _ _ _ h => h) (Or.inl ⟨by rfl, ?_⟩) (by assumption) ?_
    rotate_left
    · intro w' hSw
      (try dsimp only at hSw)
      go_simp
      try with_reducible rfl
    try simp only [Act.put, List.setIfInBounds_toArray, List.set_cons_zero, List.set_cons_succ]
    refine wpAnyH_take (i := 22) (oi := ⟨some 49, .move (.tmp 10), _, _, _, _⟩) (v := undef) rfl (by kernel_rfl) (by kernel_rfl) (by kernel_rfl) (fun _ _ _ h => h) (Or.inr ⟨by rfl, rfl⟩) (by assumption) ?_
    try simp only [Act.put, List.setIfInBounds_toArray, List.set_cons_zero, List.set_cons_succ]
    refine wpAnyH_take (i := 23) (oi := ⟨some 50, .binOp .eql 38 (.tmp 49) (.const (.int .i64 1)) 38, _, _, _, _⟩) (v := undef) rfl (by kernel_rfl) (by kernel_rfl) (by kernel_rfl) (fun _ _ _ h => h) (Or.inr ⟨by rfl, rfl⟩) (by assumption) ?_
    try simp only [Act.put, List.setIfInBounds_toArray, List.set_cons_zero, List.set_cons_succ]
    refine wpAnyH_take (i := 24) (oi := ⟨some 51, .pick (.tmp 48) (.const (.bool true)) (.tmp 50), _, _, _, _⟩) (v := ?_) rfl (by kernel_rfl) (by kernel_rfl) (by kernel_rfl) (fun _ _ _ h => h) (Or.inl ⟨by rfl, ?_⟩) (by assumption) ?_
    rotate_left
    · intro w' hSw
      (try dsimp only at hSw)
      go_simp
      try with_reducible rfl
    try simp only [Act.put, List.setIfInBounds_toArray, List.set_cons_zero, List.set_cons_succ]
    refine wpAnyH_take (i := 25) (oi := ⟨some 52, .pick (.tmp 45) (.tmp 51) (.const (.bool false)), _, _, _, _⟩) (v := ?_) rfl (by kernel_rfl) (by kernel_rfl) (by kernel_rfl) (fun _ _ _ h => h) (Or.inl ⟨by rfl, ?_⟩) (by assumption) ?_
    rotate_left
    · intro w' hSw
      (try dsimp only at hSw)
      go_simp
      try with_reducible rfl
    try simp only [Act.put, List.setIfInBounds_toArray, List.set_cons_zero, List.set_cons_succ]
    refine wpAnyH_take (i := 26) (oi := ⟨some 53, .move (.tmp 52), _, _, _, _⟩) (v := ?_) rfl (by kernel_rfl) (by kernel_rfl) (by kernel_rfl) (fun _ _ _ h => h) (Or.inl ⟨by rfl, ?_⟩) (by assumption) ?_
    rotate_left
    · intro w' hSw
      (try dsimp only at hSw)
      go_simp
      try with_reducible rfl
    try simp only [Act.put, List.setIfInBounds_toArray, List.set_cons_zero, List.set_cons_succ]
    refine wpAnyH_take (i := 27) (oi := ⟨some 54, .load 34 (.tmp 4), _, _, _, _⟩) (v := ?_) rfl (by kernel_rfl) (by kernel_rfl) (by kernel_rfl) (fun _ _ _ h => h) (Or.inl ⟨by rfl, ?_⟩) (by assumption) ?_
    rotate_left
    · intro w' hSw
      (try dsimp only at hSw)
      go_simp
      try with_reducible rfl
    try simp only [Act.put, List.setIfInBounds_toArray, List.set_cons_zero, List.set_cons_succ]
    refine wpAnyH_take (i := 28) (oi := ⟨some 55, .move (.tmp 1), _, _, _, _⟩) (v := ?_) rfl (by kernel_rfl) (by kernel_rfl) (by kernel_rfl) (fun _ _ _ h => h) (Or.inl ⟨by rfl, ?_⟩) (by assumption) ?_
    rotate_left
    · intro w' hSw
      (try dsimp only at hSw)
      go_simp
      try with_reducible rfl
    try simp only [Act.put, List.setIfInBounds_toArray, List.set_cons_zero, List.set_cons_succ]
    refine wpAnyH_take (i := 29) (oi := ⟨some 56, .move (.tmp 2), _, _, _, _⟩) (v := ?_) rfl (by kernel_rfl) (by kernel_rfl) (by kernel_rfl) (fun _ _ _ h => h) (Or.inl ⟨by rfl, ?_⟩) (by assumption) ?_
    rotate_left
    · intro w' hSw
      (try dsimp only at hSw)
      go_simp
      try with_reducible rfl
    try simp only [Act.put, List.setIfInBounds_toArray, List.set_cons_zero, List.set_cons_succ]
    refine wpAnyH_take (i := 31) (oi := ⟨some 58, .load 34 (.tmp 4), _, _, _, _⟩) (v := ?_) rfl (by kernel_rfl) (by kernel_rfl) (by kernel_rfl) (fun _ _ _ h => h) (Or.inl ⟨by rfl, ?_⟩) (by assumption) ?_
    rotate_left
    · intro w' hSw
      (try dsimp only at hSw)
      go_simp
      try with_reducible rfl
    try simp only [Act.put, List.setIfInBounds_toArray, List.set_cons_zero, List.set_cons_succ]
    refine wpAnyH_take (i := 32) (oi := ⟨some 59, .move (.tmp 1), _, _, _, _⟩) (v := ?_) rfl (by kernel_rfl) (by kernel_rfl) (by kernel_rfl) (fun _ _ _ h => h) (Or.inl ⟨by rfl, ?_⟩) (by assumption) ?_
    rotate_left
    · intro w' hSw
      (try dsimp only at hSw)
      go_simp
      try with_reducible rfl
    try simp only [Act.put, List.setIfInBounds_toArray, List.set_cons_zero, List.set_cons_succ]
    refine wpAnyH_take (i := 33) (oi := ⟨some 60, .move (.tmp 2), _, _, _, _⟩) (v := ?_) rfl (by kernel_rfl) (by kernel_rfl) (by kernel_rfl) (fun _ _ _ h => h) (Or.inl ⟨by rfl, ?_⟩) (by assumption) ?_
    rotate_left
    · intro w' hSw
      (try dsimp only at hSw)
      go_simp
      try with_reducible rfl
    try simp only [Act.put, List.setIfInBounds_toArray, List.set_cons_zero, List.set_cons_succ]
    refine wpAnyH_ready (rs := [30]) (by kernel_rfl) (by simp) ?_
    refine AllReadyH.cons (o := ⟨some 57, .call ⟨.value (.func 19), #[.tmp 54, .tmp 55, .tmp 56], #[34, 23, 23]⟩, _, _, _, _⟩) rfl (fun K hK => ?_) AllReadyH.nil
    go_simp
    refine (H3.out _ (by assumption)).mono ?_
    rintro _ w9 ⟨rfl, hb9⟩
    have hs9 := HF.out _ hb9
    try go_wp2_with fail
    refine hK.out _ _ hs9 (fun hHeld => ?_)
    clear hK K
    try simp only [Act.put, List.setIfInBounds_toArray, List.set_cons_zero, List.set_cons_succ]
    refine wpAnyH_ready (rs := [34]) (by kernel_rfl) (by simp) ?_
    refine AllReadyH.cons (o := ⟨some 61, .call ⟨.value (.func 20), #[.tmp 58, .tmp 59, .tmp 60], #[34, 23, 23]⟩, _, _, _, _⟩) rfl (fun K hK => ?_) AllReadyH.nil
    go_simp
    refine (H4.out _ (by assumption)).mono ?_
    rintro _ w10 ⟨rfl, hb10⟩
    have hs10 := HF.out _ hb10
    try go_wp2_with fail
    refine hK.out _ _ hs10 (fun hHeld => ?_)
    clear hK K
    try simp only [Act.put, List.setIfInBounds_toArray, List.set_cons_zero, List.set_cons_succ]
    refine wpAnyH_take (i := 35) (oi := ⟨some 62, .binOp .eql 4 (.tmp 57) (.tmp 61) 4, _, _, _, _⟩) (v := ?_) rfl (by kernel_rfl) (by kernel_rfl) (by kernel_rfl) (fun _ _ _ h => h) (Or.inl ⟨by rfl, ?_⟩) (by assumption) ?_
    rotate_left
    · intro w' hSw
      (try dsimp only at hSw)
      go_simp
      try with_reducible rfl
    try simp only [Act.put, List.setIfInBounds_toArray, List.set_cons_zero, List.set_cons_succ]
    refine wpAnyH_take (i := 36) (oi := ⟨some 63, .pick (.tmp 53) (.tmp 62) (.const (.bool false)), _, _, _, _⟩) (v := ?_) rfl (by kernel_rfl) (by kernel_rfl) (by kernel_rfl) (fun _ _ _ h => h) (Or.inl ⟨by rfl, ?_⟩) (by assumption) ?_
    rotate_left
    · intro w' hSw
      (try dsimp only at hSw)
      go_simp
      try with_reducible rfl
    try simp only [Act.put, List.setIfInBounds_toArray, List.set_cons_zero, List.set_cons_succ]
    refine wpAnyH_take (i := 37) (oi := ⟨some 8, .assign (.tmp 63), _, _, _, _⟩) (v := ?_) rfl (by kernel_rfl) (by kernel_rfl) (by kernel_rfl) (fun _ _ _ h => h) (Or.inl ⟨by rfl, ?_⟩) (by assumption) ?_
    rotate_left
    · intro w' hSw
      (try dsimp only at hSw)
      go_simp
      try with_reducible rfl
    try simp only [Act.put, List.setIfInBounds_toArray, List.set_cons_zero, List.set_cons_succ]
    refine wpAnyH_done (by kernel_rfl) ?_ _
    go_wp2_with fail
    go_ret
    exact ⟨rfl, O6.out.below.trans (Below.mono (by assumption) O6.out.below.size)⟩
  | false =>
    rw [show errOf false = 1 from rfl]
    clear hbk
    go_region_held3 (fun w' => Below w6.heap.size w6 w' ∧ w'.cell? ⟨w.heap.size, 0, none⟩ = some (.int .u8 kd) ∧ w'.cell? ⟨w.heap.size, 1, none⟩ = some (.int .i64 cl) ∧ w'.cell? ⟨w.heap.size, 2, none⟩ = some (.slice q an ac) ∧ w'.cell? ⟨g1, 0, none⟩ = some (.int .u64 hi) ∧ w'.cell? ⟨g1, 1, none⟩ = some (.int .u64 lo) ∧ w'.cell? ⟨g2, 0, none⟩ = some (.int .u64 hi) ∧ w'.cell? ⟨g2, 1, none⟩ = some (.int .u64 lo)) (first | assumption | exact HF.out _ (Below.drew (Below.refl _ _)) | exact HF.out _ (Below.refl _ _)) ((first
      | (go_at_call 17; (with_reducible refine (H1.out _ ?hx1).mono ?_); (case hx1 => first | assumption | exact (Below.refl _ _).drew | exact Below.refl _ _); rintro _ w7 ⟨rfl, hb7⟩; have k7 := HF.out _ hb7)
      | (go_at_call 18; (with_reducible refine (H2.out _ ?hx2).mono ?_); (case hx2 => first | assumption | exact (Below.refl _ _).drew | exact Below.refl _ _); rintro _ w8 ⟨rfl, hb8⟩; have k8 := HF.out _ hb8)
      | (go_at_call 19; (with_reducible refine (H3.out _ ?hx3).mono ?_); (case hx3 => first | assumption | exact (Below.refl _ _).drew | exact Below.refl _ _); rintro _ w9 ⟨rfl, hb9⟩; have k9 := HF.out _ hb9)
      | (go_at_call 20; (with_reducible refine (H4.out _ ?hx4).mono ?_); (case hx4 => first | assumption | exact (Below.refl _ _).drew | exact Below.refl _ _); rintro _ w10 ⟨rfl, hb10⟩; have k10 := HF.out _ hb10)))
    all_goals
      go_wp2_with fail
      go_ret
      refine ⟨rfl, O6.out.below.trans (Below.mono ?_ O6.out.below.size)⟩
      assumption
end Go.Proofs.Ythmloljnpjolmaa
