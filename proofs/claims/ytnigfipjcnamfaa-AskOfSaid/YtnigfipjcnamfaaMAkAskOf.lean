/- Proved: whatever query, list of rows and number it is handed, the Go function indenturelaw14.AskOf returns true (which queries may be, and the answer by any rows, is the document's), and each argument reads afterwards as it read before. Conditions: none beyond the given row's own. -/
import Derived.Test.YtnigfipjcnamfaaM8
/- AskOf, walked. gen_ak.py writes it. -/
namespace Go.Proofs.Ytnigfipjcnamfaa.Ak
open Go.RowKit

def allN (n : Nat) (L : List Rw) : Bool := L.all fun t => decide (t.n = n)
theorem allN_next {n k : Nat} {L : List Rw} (h : k < L.length) : allN n (L.take (k + 1)) = (allN n (L.take k) && decide ((L.getD k default).n = n)) := by
  unfold allN
  rw [take_nextR L k h, List.all_append]
  simp
theorem allN_iff {n : Nat} {L : List Rw} : allN n L = true ↔ ∀ t ∈ L, t.n = n := by simp [allN]
def GoodRel (w5 : World) (b : Bool) (n N : Nat) (L : List Rw) (v i : Value) (wr : World) : Prop :=
  ∃ k : Nat, k ≤ N ∧ i = .int .i64 k ∧ v = .bool (b && allN n (L.take k)) ∧ wr = w5
theorem same_true {x : Int} {l m : List (List Int)} (h : l = m) : (decide (x = x) && decide (l = m)) = true := by rw [h]; simp
theorem ansR_len (R S : List Int) (kd cl : Int) (A : List Int) (an : Nat) (lim : Int) (cnt : Bool) (l : List (List Int)) : (ansR R S kd cl A an lim cnt l).length ≤ l.length := by
  unfold ansR
  split
  · exact Nat.zero_le _
  · have h1 : (sortN kd cl A an (l.filter (keepB R S))).length ≤ l.length := by
      unfold sortN
      rw [List.length_map, St.refS_length]
      exact List.length_filter_le _ _
    unfold cutL
    split
    · exact h1
    · rw [List.length_take]; omega
theorem no_rows (w : World) : RowsIn w none 0 0 [] := ⟨rfl, Nat.le_refl _, fun t h => absurd h (by simp), Or.inl rfl⟩
/-- Either way Of tells an answer and an error. -/
theorem of_either {R S A : List Int} {n m : Nat} {kd cl : Int} {an : Nat} {lim : Int} {cnt : Bool} {L : List Rw} {w w' : World} {e : Ending} (h : OfPost R S n m kd cl A an lim cnt L w e w') :
    ∃ (q7 : Option Addr) (k7 c7 : Nat) (x7 er : Int), e = .returned (.tuple #[.agg #[.slice q7 k7 c7, .int .i64 x7], .int .i64 er]) ∧ Below w.heap.size w w' ∧
      ((rightQ R S n m kd cl an lim cnt n = true ∧ ∀ t ∈ L, t.n = n) → er = 0 ∧ x7 = ansC R S cnt (nums L) ∧ ∃ M, k7 = List.length M ∧ RowsIn w' q7 k7 c7 M ∧ nums M = ansR R S kd cl A an lim cnt (nums L)) ∧
      (¬ (rightQ R S n m kd cl an lim cnt n = true ∧ ∀ t ∈ L, t.n = n) → er = 1 ∧ q7 = none ∧ k7 = 0 ∧ c7 = 0 ∧ x7 = 0) := by
  unfold OfPost at h
  by_cases hg : rightQ R S n m kd cl an lim cnt n = true ∧ ∀ t ∈ L, t.n = n
  · rw [if_pos hg] at h
    obtain ⟨q, c, M, rfl, h1, h2, h3⟩ := h
    exact ⟨q, _, c, _, _, rfl, h3, fun _ => ⟨rfl, rfl, M, rfl, h1, h2⟩, fun h => absurd hg h⟩
  · rw [if_neg hg] at h
    obtain ⟨rfl, hb⟩ := h
    exact ⟨none, 0, 0, 0, 1, rfl, hb, fun h => absurd h hg, fun _ => ⟨rfl, rfl, rfl, rfl, rfl⟩⟩
set_option maxRecDepth 100000 in
set_option maxHeartbeats 4000000 in
theorem askof_any (pl p q a : Option Addr) (N cp n c m e an ac : Nat) (L : List Rw) (R S A : List Int) (kd cl lim d : Int) (cnt : Bool) (w : World) (hL : RowsIn w pl N cp L) (hR : Ints w p n c R) (hS : Ints w q m e S) (hA : Ints w a an ac A) (hn9 : n ≤ 9223372036854775807) :
    Calls Try.prog 3 #[.agg #[.slice p n c, .slice q m e, .int .u8 kd, .int .i64 cl, .slice a an ac, .int .i64 lim, .bool cnt], .slice pl N cp, .int .i64 d] w fun e w' => e = .returned (.bool true) ∧ Below w.heap.size w w' := by
  have hq := q_in (kd := kd) (cl := cl) (lim := lim) (cnt := cnt) hR hS hA
  obtain ⟨g, hg⟩ : ∃ g, g = w.heap.size := ⟨_, rfl⟩
  go_enter Try.func3, Try.ntmps3
  go_upto_region 1 with fail
  rw [← hg] at hq ⊢
  generalize w.alloc (.cells #[.slice p n c, .slice q m e, .int .u8 kd, .int .i64 cl, .slice a an ac, .int .i64 lim, .bool cnt] 29) = w1 at *
  have HQ1 := Lib.hid hq
  have HL1 := Lib.hid (hL.later hq.below)
  clear hR hS hA hq hL hg
  have HAL := Lib.hid (alive_any w1)
  go_wp2_with fail
  refine HAL.out.mono ?_
  rintro _ w2 ⟨rfl, hb2⟩
  have HQ2 := Lib.hid (HQ1.out.later hb2)
  have HL2 := Lib.hid (HL1.out.later hb2)
  clear hb2 HQ1 HL1 HAL
  clear w1
  obtain ⟨x0, x1, x2, x3, x4, x5, x6⟩ := HQ2.out.cells
  by_cases h60 : 60 < N
  · have b1 : (60 : Int) < N := by omega
    go_wp2_with fail
    go_ret
    exact ⟨rfl, HQ2.out.below⟩
  have b1 : ¬ (60 : Int) < N := by omega
  by_cases h50 : 50 < an
  · have b2 : (50 : Int) < an := by omega
    go_wp2_with fail
    go_ret
    exact ⟨rfl, HQ2.out.below⟩
  have b2 : ¬ (50 : Int) < an := by omega
  have n60 : N ≤ 60 := by omega
  clear h60 h50
  go_upto_region 5 with fail
  clear b1 b2
  have HF := Lib.hid (show ∀ w', Below w2.heap.size w2 w' → (w'.cell? ⟨g, 0, none⟩ = some (.slice p n c) ∧ w'.cell? ⟨g, 1, none⟩ = some (.slice q m e) ∧ w'.cell? ⟨g, 2, none⟩ = some (.int .u8 kd) ∧ w'.cell? ⟨g, 3, none⟩ = some (.int .i64 cl) ∧ w'.cell? ⟨g, 4, none⟩ = some (.slice a an ac) ∧ w'.cell? ⟨g, 5, none⟩ = some (.int .i64 lim) ∧ w'.cell? ⟨g, 6, none⟩ = some (.bool cnt)) from fun w' hb => (HQ2.out.later hb).cells)
  have H1 := Lib.hid (show ∀ w', Below w2.heap.size w2 w' → Calls Try.prog 6 #[.agg #[.slice p n c, .slice q m e, .int .u8 kd, .int .i64 cl, .slice a an ac, .int .i64 lim, .bool cnt], .int .i64 d] w' fun e w'' => e = .returned (.bool (rightQ R S n m kd cl an lim cnt d)) ∧ Below w2.heap.size w2 w'' from fun w' hb => (right_any p q a n c m _ an ac R S A kd cl lim cnt d w' (HQ2.out.lo.later hb) (HQ2.out.hi.later hb) (HQ2.out.at'.later hb)).mono fun e w'' h => ⟨h.1, hb.trans (h.2.mono hb.size)⟩)
  have H2 := Lib.hid (show ∀ w', Below w2.heap.size w2 w' → Calls Try.prog 7 #[.agg #[.slice p n c, .slice q m e, .int .u8 kd, .int .i64 cl, .slice a an ac, .int .i64 lim, .bool cnt], .int .i64 d] w' fun e w'' => e = .returned (.bool (rightQ R S n m kd cl an lim cnt d)) ∧ Below w2.heap.size w2 w'' from fun w' hb => (rright_any p q a n c m _ an ac R S A kd cl lim cnt d w' (HQ2.out.lo.later hb) (HQ2.out.hi.later hb) (HQ2.out.at'.later hb)).mono fun e w'' h => ⟨h.1, hb.trans (h.2.mono hb.size)⟩)
  generalize rightQ R S n m kd cl an lim cnt d = rq at *
  clear x0 x1 x2 x3 x4 x5 x6
  refine wp_region_held_drew (S := fun w' => Below w2.heap.size w2 w') (by kernel_rfl) (Below.refl _ _).drew (fun hHeld => ?_)
  refine wpAnyH_take (i := 0) (oi := ⟨some 24, .load 29 (.tmp 3), _, _, _, _⟩) (v := ?_) rfl (by kernel_rfl) (by kernel_rfl) (by kernel_rfl) (fun _ _ _ h => h) (Or.inl ⟨by rfl, ?_⟩) (by assumption) ?_
  rotate_left
  · intro w' hSw
    obtain ⟨y0, y1, y2, y3, y4, y5, y6⟩ := HF.out _ hSw
    go_simp
    try with_reducible rfl
  try simp only [Act.put, List.setIfInBounds_toArray, List.set_cons_zero, List.set_cons_succ]
  refine wpAnyH_take (i := 1) (oi := ⟨some 25, .move (.tmp 2), _, _, _, _⟩) (v := ?_) rfl (by kernel_rfl) (by kernel_rfl) (by kernel_rfl) (fun _ _ _ h => h) (Or.inl ⟨by rfl, ?_⟩) (by assumption) ?_
  rotate_left
  · intro w' hSw
    obtain ⟨y0, y1, y2, y3, y4, y5, y6⟩ := HF.out _ hSw
    go_simp
    try with_reducible rfl
  try simp only [Act.put, List.setIfInBounds_toArray, List.set_cons_zero, List.set_cons_succ]
  refine wpAnyH_take (i := 3) (oi := ⟨some 27, .load 29 (.tmp 3), _, _, _, _⟩) (v := ?_) rfl (by kernel_rfl) (by kernel_rfl) (by kernel_rfl) (fun _ _ _ h => h) (Or.inl ⟨by rfl, ?_⟩) (by assumption) ?_
  rotate_left
  · intro w' hSw
    obtain ⟨y0, y1, y2, y3, y4, y5, y6⟩ := HF.out _ hSw
    go_simp
    try with_reducible rfl
  try simp only [Act.put, List.setIfInBounds_toArray, List.set_cons_zero, List.set_cons_succ]
  refine wpAnyH_take (i := 4) (oi := ⟨some 28, .move (.tmp 2), _, _, _, _⟩) (v := ?_) rfl (by kernel_rfl) (by kernel_rfl) (by kernel_rfl) (fun _ _ _ h => h) (Or.inl ⟨by rfl, ?_⟩) (by assumption) ?_
  rotate_left
  · intro w' hSw
    obtain ⟨y0, y1, y2, y3, y4, y5, y6⟩ := HF.out _ hSw
    go_simp
    try with_reducible rfl
  try simp only [Act.put, List.setIfInBounds_toArray, List.set_cons_zero, List.set_cons_succ]
  refine wpAnyH_ready (rs := [2]) (by kernel_rfl) (by simp) ?_
  refine AllReadyH.cons (o := ⟨some 26, .call ⟨.value (.func 6), #[.tmp 24, .tmp 25], #[29, 3]⟩, _, _, _, _⟩) rfl (fun K hK => ?_) AllReadyH.nil
  go_simp
  refine (H1.out _ hHeld).mono ?_
  rintro _ w5 ⟨rfl, hb5⟩
  try go_wp2_with fail
  refine hK.out _ _ hb5 (fun hHeld => ?_)
  clear hK K
  try simp only [Act.put, List.setIfInBounds_toArray, List.set_cons_zero, List.set_cons_succ]
  refine wpAnyH_ready (rs := [5]) (by kernel_rfl) (by simp) ?_
  refine AllReadyH.cons (o := ⟨some 29, .call ⟨.value (.func 7), #[.tmp 27, .tmp 28], #[29, 3]⟩, _, _, _, _⟩) rfl (fun K hK => ?_) AllReadyH.nil
  go_simp
  refine (H2.out _ hHeld).mono ?_
  rintro _ w6 ⟨rfl, hb6⟩
  try go_wp2_with fail
  refine hK.out _ _ hb6 (fun hHeld => ?_)
  clear hK K
  try simp only [Act.put, List.setIfInBounds_toArray, List.set_cons_zero, List.set_cons_succ]
  refine wpAnyH_take (i := 6) (oi := ⟨some 30, .binOp .neq 4 (.tmp 26) (.tmp 29) 4, _, _, _, _⟩) (v := ?_) rfl (by kernel_rfl) (by kernel_rfl) (by kernel_rfl) (fun _ _ _ h => h) (Or.inl ⟨by rfl, ?_⟩) (by assumption) ?_
  rotate_left
  · intro w' hSw
    obtain ⟨y0, y1, y2, y3, y4, y5, y6⟩ := HF.out _ hSw
    go_simp
    try with_reducible rfl
  try simp only [Act.put, List.setIfInBounds_toArray, List.set_cons_zero, List.set_cons_succ]
  refine wpAnyH_done (by kernel_rfl) ?_ _
  have hb := hHeld
  clear hHeld HF H1 H2
  have HQ3 := Lib.hid (HQ2.out.later hb)
  have HL3 := Lib.hid (HL2.out.later hb)
  clear hb HQ2 HL2
  obtain ⟨x0, x1, x2, x3, x4, x5, x6⟩ := HQ3.out.cells
  have qrq : (rq != rq) = false := by simp
  have HOF := Lib.hid (of_any pl p q a N cp n c m e an ac L R S A kd cl lim cnt w6 HL3.out HQ3.out.lo HQ3.out.hi HQ3.out.at' (by omega) hn9)
  go_wp2_with fail
  refine HOF.out.mono ?_
  intro e7 w7 hp7
  obtain ⟨q7, k7, c7, x7, er, rfl, hb7, hgood, hbad⟩ := of_either hp7
  have HQ7 := Lib.hid (HQ3.out.later hb7)
  have HL7 := Lib.hid (HL3.out.later hb7)
  have HGD := Lib.hid hgood
  have HBD := Lib.hid hbad
  clear hp7 hb7 hgood hbad HOF HQ3 HL3 x0 x1 x2 x3 x4 x5 x6 qrq
  go_upto_region 8 with fail
  have b8 : Below w7.heap.size w7 (w7.alloc (.cells #[.slice q7 k7 c7, .int .i64 x7] 34)) := (Below.refl _ _).alloc (Nat.le_refl _) _
  have a8 := ans_new w7 (.slice q7 k7 c7) (.int .i64 x7)
  generalize w7.alloc (.cells #[.slice q7 k7 c7, .int .i64 x7] 34) = w8 at *
  obtain ⟨ga, hga⟩ : ∃ ga, ga = w7.heap.size := ⟨_, rfl⟩
  rw [← hga] at a8 ⊢
  have HQ8 := Lib.hid (HQ7.out.later b8)
  have HL8 := Lib.hid (HL7.out.later b8)
  have HA8 := Lib.hid a8
  have HB8 := Lib.hid b8
  clear b8 a8 hga HQ7 HL7
  obtain ⟨x0, x1, x2, x3, x4, x5, x6⟩ := HQ8.out.cells
  have HRR := Lib.hid (rright_any p q a n c m _ an ac R S A kd cl lim cnt n w8 HQ8.out.lo HQ8.out.hi HQ8.out.at')
  go_wp2_with fail
  refine HRR.out.mono ?_
  rintro _ w9 ⟨rfl, hb9⟩
  have HQ9 := Lib.hid (HQ8.out.later hb9)
  have HL9 := Lib.hid (HL8.out.later hb9)
  have HA9 := Lib.hid (HA8.out.later hb9)
  have HB9 := Lib.hid (HB8.out.trans (hb9.mono HB8.out.size))
  clear hb9 HQ8 HL8 HA8 HB8 HRR x0 x1 x2 x3 x4 x5 x6
  clear w8
  obtain ⟨b, hb⟩ : ∃ b, b = rightQ R S n m kd cl an lim cnt n := ⟨_, rfl⟩
  rw [← hb]
  have HBE := Lib.hid hb
  clear hb
  go_wp2_with fail
  go_loopw [10, 11] (fun v i wr => GoodRel w9 b n N L v i wr) (fun _ i _ => N - (intOf i).toNat)
  case atStart => exact ⟨0, by omega, rfl, by rw [List.take_zero]; simp [allN], rfl⟩
  case round =>
    obtain ⟨k, hk, rfl, rfl, hwr⟩ := hrel
    subst hwr
    by_cases hlt : k < N
    · obtain ⟨gL, oL, rfl, hck, hok⟩ := HL9.out.cell k hlt
      have hlen : k < L.length := by rw [← HL9.out.size]; exact hlt
      have HNX := Lib.hid (allN_next (n := n) hlen)
      have i1 : (0 : Int) ≤ k ∧ (k : Int) < N := by omega
      clear hlen hok
      generalize L.getD k default = t at *
      obtain ⟨tp, tn, tc, tR⟩ := t
      unfold Rw.val at hck
      simp only at hck HNX
      obtain ⟨v1, hv1⟩ : ∃ v1, v1 = allN n (L.take (k + 1)) := ⟨_, rfl⟩
      rw [← hv1] at HNX
      have HV1 := Lib.hid hv1
      clear hv1
      cases hv : (b && allN n (L.take k)) with
      | false =>
        have HE := Lib.hid (show (b && v1) = false from by rw [HNX.out, ← Bool.and_assoc, hv, Bool.false_and])
        clear hv
        go_wp2_with fail
        go_roundw
        case rel => exact ⟨k + 1, by omega, by go_num, by rw [← HV1.out, HE.out], rfl⟩
        case measure => simp [intOf]; omega
      | true =>
        have HE0 := Lib.hid (show (b && v1) = decide (tn = n) from by rw [HNX.out, ← Bool.and_assoc, hv, Bool.true_and])
        clear hv
        by_cases htn : tn = n
        · have HE := Lib.hid (show (b && v1) = true from by rw [HE0.out, decide_eq_true htn])
          have q1 : ((tn : Int) == (n : Int)) = true := by rw [beq_iff_eq]; omega
          clear htn
          go_wp2_with fail
          go_roundw
          case rel => exact ⟨k + 1, by omega, by go_num, by rw [← HV1.out, HE.out], rfl⟩
          case measure => simp [intOf]; omega
        · have HE := Lib.hid (show (b && v1) = false from by rw [HE0.out, decide_eq_false htn])
          have q1 : ((tn : Int) == (n : Int)) = false := by rw [beq_eq_false_iff_ne]; omega
          clear htn
          go_wp2_with fail
          go_roundw
          case rel => exact ⟨k + 1, by omega, by go_num, by rw [← HV1.out, HE.out], rfl⟩
          case measure => simp [intOf]; omega
    · obtain rfl : k = N := by omega
      have hfull : L.take k = L := List.take_of_length_le (by rw [← HL9.out.size]; exact Nat.le_refl _)
      rw [hfull]
      clear hfull
      obtain ⟨x0, x1, x2, x3, x4, x5, x6⟩ := HQ9.out.cells
      obtain ⟨u0, u1, -, -⟩ := HA9.out.facts
      by_cases hgd : rightQ R S n m kd cl an lim cnt n = true ∧ ∀ t ∈ L, t.n = n
      · have hbv : (b && allN n L) = true := by rw [HBE.out, hgd.1, allN_iff.2 hgd.2]; rfl
        rw [hbv]
        obtain ⟨rfl, rfl, M1, rfl, hm1, hn1⟩ := HGD.out hgd
        have HG := Lib.hid hgd
        have HM1 := Lib.hid (hm1.later HB9.out)
        have HN1 := Lib.hid hn1
        clear hbv hgd hm1 hn1 HGD HBD
        have HF := Lib.hid (show ∀ w', Below wr.heap.size wr w' → (w'.cell? ⟨g, 0, none⟩ = some (.slice p n c) ∧ w'.cell? ⟨g, 1, none⟩ = some (.slice q m e) ∧ w'.cell? ⟨g, 2, none⟩ = some (.int .u8 kd) ∧ w'.cell? ⟨g, 3, none⟩ = some (.int .i64 cl) ∧ w'.cell? ⟨g, 4, none⟩ = some (.slice a an ac) ∧ w'.cell? ⟨g, 5, none⟩ = some (.int .i64 lim) ∧ w'.cell? ⟨g, 6, none⟩ = some (.bool cnt) ∧ w'.cell? ⟨ga, 0, none⟩ = some (.slice q7 M1.length c7) ∧ w'.cell? ⟨ga, 1, none⟩ = some (.int .i64 (ansC R S cnt (nums L)))) from fun w' hb => by
          obtain ⟨a0, a1, a2, a3, a4, a5, a6⟩ := (HQ9.out.later hb).cells
          obtain ⟨e0, e1, -, -⟩ := (HA9.out.later hb).facts
          exact ⟨a0, a1, a2, a3, a4, a5, a6, e0, e1⟩)
        have H1 := Lib.hid (show ∀ w', Below wr.heap.size wr w' → Calls Try.prog 10 #[.slice pl k cp, .agg #[.slice p n c, .slice q m e, .int .u8 kd, .int .i64 cl, .slice a an ac, .int .i64 lim, .bool cnt]] w' (ROfPost R S kd cl A an lim cnt L w') from fun w' hb => rof_any pl p q a k cp n c m _ an ac L R S A kd cl lim cnt w' (HL9.out.later hb) (HQ9.out.lo.later hb) (HQ9.out.hi.later hb) (HQ9.out.at'.later hb) (by omega) HG.out)
        have hk9 : M1.length ≤ 9223372036854775807 := by
          have h1 := congrArg List.length HN1.out
          have h2 := ansR_len R S kd cl A an lim cnt (nums L)
          rw [nums_length] at h1 h2
          have h3 := HL9.out.size
          omega
        go_upto_region 16 with fail
        refine wp_region_held_drew (S := fun w' => Below wr.heap.size wr w') (by kernel_rfl) (Below.refl _ _).drew (fun hHeld => ?_)
        refine wpAnyH_take (i := 0) (oi := ⟨some 69, .move (.tmp 8), _, _, _, _⟩) (v := ?_) rfl (by kernel_rfl) (by kernel_rfl) (by kernel_rfl) (fun _ _ _ h => h) (Or.inl ⟨by rfl, ?_⟩) (by assumption) ?_
        rotate_left
        · intro w' hSw
          obtain ⟨y0, y1, y2, y3, y4, y5, y6, u0, u1⟩ := HF.out _ hSw
          go_simp
          try with_reducible rfl
        try simp only [Act.put, List.setIfInBounds_toArray, List.set_cons_zero, List.set_cons_succ]
        refine wpAnyH_take (i := 1) (oi := ⟨some 70, .binOp .eql 35 (.tmp 69) (.const (.int .i64 0)) 35, _, _, _, _⟩) (v := ?_) rfl (by kernel_rfl) (by kernel_rfl) (by kernel_rfl) (fun _ _ _ h => h) (Or.inl ⟨by rfl, ?_⟩) (by assumption) ?_
        rotate_left
        · intro w' hSw
          obtain ⟨y0, y1, y2, y3, y4, y5, y6, u0, u1⟩ := HF.out _ hSw
          go_simp
          try with_reducible rfl
        try simp only [Act.put, List.setIfInBounds_toArray, List.set_cons_zero, List.set_cons_succ]
        refine wpAnyH_take (i := 2) (oi := ⟨some 71, .move (.tmp 70), _, _, _, _⟩) (v := ?_) rfl (by kernel_rfl) (by kernel_rfl) (by kernel_rfl) (fun _ _ _ h => h) (Or.inl ⟨by rfl, ?_⟩) (by assumption) ?_
        rotate_left
        · intro w' hSw
          obtain ⟨y0, y1, y2, y3, y4, y5, y6, u0, u1⟩ := HF.out _ hSw
          go_simp
          try with_reducible rfl
        try simp only [Act.put, List.setIfInBounds_toArray, List.set_cons_zero, List.set_cons_succ]
        refine wpAnyH_take (i := 3) (oi := ⟨some 72, .load 34 (.tmp 7), _, _, _, _⟩) (v := ?_) rfl (by kernel_rfl) (by kernel_rfl) (by kernel_rfl) (fun _ _ _ h => h) (Or.inl ⟨by rfl, ?_⟩) (by assumption) ?_
        rotate_left
        · intro w' hSw
          obtain ⟨y0, y1, y2, y3, y4, y5, y6, u0, u1⟩ := HF.out _ hSw
          go_simp
          try with_reducible rfl
        try simp only [Act.put, List.setIfInBounds_toArray, List.set_cons_zero, List.set_cons_succ]
        refine wpAnyH_take (i := 4) (oi := ⟨some 73, .move (.tmp 1), _, _, _, _⟩) (v := ?_) rfl (by kernel_rfl) (by kernel_rfl) (by kernel_rfl) (fun _ _ _ h => h) (Or.inl ⟨by rfl, ?_⟩) (by assumption) ?_
        rotate_left
        · intro w' hSw
          obtain ⟨y0, y1, y2, y3, y4, y5, y6, u0, u1⟩ := HF.out _ hSw
          go_simp
          try with_reducible rfl
        try simp only [Act.put, List.setIfInBounds_toArray, List.set_cons_zero, List.set_cons_succ]
        refine wpAnyH_take (i := 5) (oi := ⟨some 74, .load 29 (.tmp 3), _, _, _, _⟩) (v := ?_) rfl (by kernel_rfl) (by kernel_rfl) (by kernel_rfl) (fun _ _ _ h => h) (Or.inl ⟨by rfl, ?_⟩) (by assumption) ?_
        rotate_left
        · intro w' hSw
          obtain ⟨y0, y1, y2, y3, y4, y5, y6, u0, u1⟩ := HF.out _ hSw
          go_simp
          try with_reducible rfl
        try simp only [Act.put, List.setIfInBounds_toArray, List.set_cons_zero, List.set_cons_succ]
        refine wpAnyH_ready (rs := [6]) (by kernel_rfl) (by simp) ?_
        refine AllReadyH.cons (o := ⟨some 75, .call ⟨.value (.func 10), #[.tmp 73, .tmp 74], #[30, 29]⟩, _, _, _, _⟩) rfl (fun K hK => ?_) AllReadyH.nil
        go_simp
        refine (H1.out _ hHeld).mono ?_
        intro e10 w10 hp10
        obtain ⟨qr, cr, M2, rfl, hm10, hn10, hb10⟩ := hp10
        try go_wp2_with fail
        refine hK.out _ _ (hHeld.trans (hb10.mono hHeld.size)) (fun hHeld => ?_)
        clear hK K
        try simp only [Act.put, List.setIfInBounds_toArray, List.set_cons_zero, List.set_cons_succ]
        refine wpAnyH_ready (rs := [7]) (by kernel_rfl) (by simp) ?_
        refine AllReadyH.cons (o := ⟨some 76, .call ⟨.value (.func 9), #[.tmp 72, .tmp 75], #[34, 34]⟩, _, _, _, _⟩) rfl (fun K hK => ?_) AllReadyH.nil
        go_simp
        have hsm := same_any q7 qr M1.length c7 M2.length cr (ansC R S cnt (nums L)) (ansC R S cnt (nums L)) M1 M2 _ (HM1.out.later hHeld) hm10 hk9
        rw [same_true (HN1.out.trans hn10.symm)] at hsm
        refine hsm.mono ?_
        rintro _ w11 ⟨rfl, hb11⟩
        try go_wp2_with fail
        refine hK.out _ _ (hHeld.trans (hb11.mono hHeld.size)) (fun hHeld => ?_)
        clear hK K
        try simp only [Act.put, List.setIfInBounds_toArray, List.set_cons_zero, List.set_cons_succ]
        refine wpAnyH_take (i := 8) (oi := ⟨some 77, .pick (.tmp 71) (.tmp 76) (.const (.bool false)), _, _, _, _⟩) (v := ?_) rfl (by kernel_rfl) (by kernel_rfl) (by kernel_rfl) (fun _ _ _ h => h) (Or.inl ⟨by rfl, ?_⟩) (by assumption) ?_
        rotate_left
        · intro w' hSw
          obtain ⟨y0, y1, y2, y3, y4, y5, y6, u0, u1⟩ := HF.out _ hSw
          go_simp
          try with_reducible rfl
        try simp only [Act.put, List.setIfInBounds_toArray, List.set_cons_zero, List.set_cons_succ]
        refine wpAnyH_take (i := 9) (oi := ⟨some 6, .assign (.tmp 77), _, _, _, _⟩) (v := ?_) rfl (by kernel_rfl) (by kernel_rfl) (by kernel_rfl) (fun _ _ _ h => h) (Or.inl ⟨by rfl, ?_⟩) (by assumption) ?_
        rotate_left
        · intro w' hSw
          obtain ⟨y0, y1, y2, y3, y4, y5, y6, u0, u1⟩ := HF.out _ hSw
          go_simp
          try with_reducible rfl
        try simp only [Act.put, List.setIfInBounds_toArray, List.set_cons_zero, List.set_cons_succ]
        refine wpAnyH_done (by kernel_rfl) ?_ _
        have hb := HQ9.out.below.trans (hHeld.mono HQ9.out.below.size)
        go_wp2_with fail
        go_ret
        exact ⟨rfl, hb⟩
      · have hbv : (b && allN n L) = false := by
          rw [Bool.eq_false_iff]
          intro h
          obtain ⟨h1, h2⟩ := Bool.and_eq_true_iff.1 h
          exact hgd ⟨by rw [← HBE.out]; exact h1, allN_iff.1 h2⟩
        rw [hbv]
        obtain ⟨rfl, rfl, rfl, rfl, rfl⟩ := HBD.out hgd
        clear hbv hgd HGD HBD
        have HSM := same_any none none 0 0 0 0 0 0 [] [] wr (no_rows wr) (no_rows wr) (by omega)
        rw [same_true rfl] at HSM
        have HS2 := Lib.hid HSM
        clear HSM
        go_wp2_with fail
        refine HS2.out.mono ?_
        rintro _ w10 ⟨rfl, hb10⟩
        have hb := HQ9.out.below.trans (hb10.mono HQ9.out.below.size)
        go_wp2_with fail
        go_ret
        exact ⟨rfl, hb⟩
end Go.Proofs.Ytnigfipjcnamfaa.Ak

/- Proved: whatever query, list of rows and number it is handed, the Go function indenturelaw14.AskOf returns true (which queries may be, and the answer by any rows, is the document's), and each argument reads afterwards as it read before. Conditions: none beyond the given row's own. -/
namespace Go.Proofs.Ytnigfipjcnamfaa
open Go.ChangeShapes Go.WideShapes Go.ChangeAt Go.RowKit Go.Deep

set_option maxRecDepth 100000 in
theorem akof_lifted (os : Os) (started : os.Started) (H : Type) (enc : TypeId × Value → H) :
    ReturnsInHanded {} Try.checked os 3 .any (Rows.askOfSpec.pre6 enc Try.prog Try.f3 Rows.askOfRow.domain false) (Rows.askOfSpec.post enc Try.prog Try.f3 false true false false) := by
  refine returnsInHanded_of_change (C := Try.checked) gen_own started (by kernel_rfl) Try.func3
    (ChangeSpec.witness6 (enc := enc) (C := Try.checked) false ⟨#[], #[.agg #[.slice none 0 0, .slice none 0 0, .int .u8 0, .int .i64 0, .slice none 0 0, .int .i64 0, .bool false], .slice none 0 0, .int .i64 0], []⟩ 8 (by kernel_rfl) (by kernel_rfl) (by kernel_rfl) (by kernel_rfl)) ?_
  intro W base args ds gs before hval0 hW _ _
  have hval : ∀ (j : Nat) t v, Try.f3.params[j]? = some t → args[j]? = some v → Value.okWide Try.prog W .any base t v := hval0
  have hW' := hW
  obtain ⟨p, q, hA0, hV, rfl, _, _⟩ := hW
  have hA : DataW.TrodAll enc Try.prog W 0 (fun _ => true) true Try.f3.params.toList args.toList ds p := hA0
  rw [Try.params3] at hA hval
  obtain ⟨v0, vs0, d0, ds0, p0, q0, hargs, rfl, rfl, h0, r0⟩ := trodAll_cons hA
  obtain ⟨v1, vs1, d1, ds1, p1, q1, rfl, rfl, rfl, h1, r1⟩ := trodAll_cons r0
  obtain ⟨v2, vs2, d2, ds2, p2, q2, rfl, rfl, rfl, h2, r2⟩ := trodAll_cons r1
  obtain ⟨rfl, rfl, rfl⟩ := trodAll_nil r2
  obtain rfl : args = #[v0, v1, v2] := by cases args; simp_all
  obtain ⟨rfl, rfl⟩ := trodVars_none hV
  obtain ⟨a0, len0, cap0, R0, b0, ben0, bap0, S0, kd0, cl0, e0, een0, eap0, X0, lim0, cnt0, rfl, ⟨hR0, hS0, hQ0⟩, hkd0, hcl0, hlim0, hl0, hm0, hn0⟩ := Ak.open_query (hval 0 29 v0 rfl rfl) h0
  obtain ⟨a1, len1, cap1, rfl⟩ := okWide_slice Try.underlying30 (hval 1 30 v1 rfl rfl)
  obtain ⟨n2, rfl, rfl, rfl, hn2⟩ := open_int Try.underlying3 (hval 2 3 v2 rfl rfl) h2
  have k0 := h0
  have k1 := h1
  have k2 := h2
  have lt0 : ∀ x ∈ p0, x.block < W.heap.size := by obtain ⟨m, hm⟩ := k0; exact DataW.trod_lt m _ _ _ hm
  have lt1 : ∀ x ∈ p1, x.block < W.heap.size := by obtain ⟨m, hm⟩ := k1; exact DataW.trod_lt m _ _ _ hm
  obtain ⟨⟨L1, hL1⟩, hl1⟩ : (∃ L, RowsIn W a1 len1 cap1 L) ∧ len1 ≤ 9223372036854775807 := by
    obtain ⟨fuel, hf⟩ := h1
    exact open_rows hf
  have bn2 := bounds_i64 hn2
  clear hA0 hval0
  refine (Ak.askof_any a1 a0 b0 e0 len1 cap1 len0 cap0 ben0 bap0 een0 eap0 L1 R0 S0 X0 kd0 cl0 lim0 n2 cnt0 W hL1 hR0 hS0 hQ0 hl0).mono fun e W' ⟨he, bel⟩ => ?_
  subst he
  exact ⟨_, rfl, _, _, _, [], _, [], hW', trodAll_mk1 (shut_bool Try.underlying4 _),
    (trodAll_cons_mk (Below.trod gen_laidOut (by kernel_rfl) (of_decide_eq_true (by kernel_rfl)) k0 bel lt0) (trodAll_cons_mk (Below.trod gen_laidOut (by kernel_rfl) (of_decide_eq_true (by kernel_rfl)) k1 bel lt1) (trodAll_cons_mk (Below.trod gen_laidOut (by kernel_rfl) (of_decide_eq_true (by kernel_rfl)) k2 bel (fun x hx => by cases hx)) trodAll_mk0))), rfl, bel.frame _, fun h => by cases h⟩
theorem akof_holds : Rows.AskOfSaid :=
  OpenClaim.holds_of_wide 3 Try.f3 rfl rfl rfl rfl rfl rfl rfl ⟨rfl, rfl, rfl, rfl, rfl⟩ rfl rfl rfl rfl rfl (by kernel_rfl) Try.func3 (by kernel_rfl)
    (of_decide_eq_true (by kernel_rfl)) (by unfold Func.isWrapper; first | (rw [if_pos (by decide +kernel)]; kernel_rfl) | (rw [if_neg (by decide +kernel)]; exact ⟨rfl, rfl⟩))
    (fun os started H enc _ => akof_lifted os started H enc)
end Go.Proofs.Ytnigfipjcnamfaa
