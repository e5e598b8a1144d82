/- Proved: whatever query, kid and two rows it is handed, the Go function indenturelaw14.AskOpen returns true (which trees are open to a query is the document's; where a kid is past a row, no row of its box that is in the query's is ahead of that), and each argument reads afterwards as it read before. Conditions: none beyond the given row's own. -/
import Derived.Test.YtnigfipjcnamfaaM8
import Derived.BigRegion
/- AskOpen, walked. gen_ak.py writes it. -/
namespace Go.Proofs.Ytnigfipjcnamfaa.Ak
open Go.RowKit

/-- What AskOpen holds: its arguments. -/
structure AoIn (w0 w : World) (g : Nat) (p : Option Addr) (n c : Nat) (R : List Int) (q : Option Addr) (m e : Nat) (S : List Int) (kd cl : Int) (a : Option Addr) (an ac : Nat) (A : List Int) (lim : Int) (cnt : Bool) (K : Array Value) (s : Option Addr) (k f : Nat) (T : List Int) (t : Option Addr) (l h : Nat) (U : List Int) (lv : Int) (x : Option Addr) (xn xc : Nat) (r : Option Addr) (lp rc : Nat) (P : List Int) (z : Option Addr) (lz zc : Nat) (Z : List Int) : Prop where
  q : QIn w0 w g p n c R q m e S kd cl a an ac A lim cnt
  k : KIn w0 w (g + 1) K s k f T t l h U lv x xn xc
  r : Ints w r lp rc P
  z : Ints w z lz zc Z
theorem AoIn.later {w0 w w' : World} {g : Nat} {p : Option Addr} {n c : Nat} {R : List Int} {q : Option Addr} {m e : Nat} {S : List Int} {kd cl : Int} {a : Option Addr} {an ac : Nat} {A : List Int} {lim : Int} {cnt : Bool} {K : Array Value} {s : Option Addr} {k f : Nat} {T : List Int} {t : Option Addr} {l h : Nat} {U : List Int} {lv : Int} {x : Option Addr} {xn xc : Nat} {r : Option Addr} {lp rc : Nat} {P : List Int} {z : Option Addr} {lz zc : Nat} {Z : List Int}
    (hi : AoIn w0 w g p n c R q m e S kd cl a an ac A lim cnt K s k f T t l h U lv x xn xc r lp rc P z lz zc Z) (hb : Below w.heap.size w w') : AoIn w0 w' g p n c R q m e S kd cl a an ac A lim cnt K s k f T t l h U lv x xn xc r lp rc P z lz zc Z :=
  ⟨hi.q.later hb, hi.k.later hb, hi.r.later hb, hi.z.later hb⟩
set_option maxRecDepth 100000 in
set_option maxHeartbeats 4000000 in
theorem askopen_any' (p q a s t x r z : Option Addr) (n c m e an ac k f l h xn xc lp rc lz zc : Nat) (R S A T U P Z : List Int) (kd cl lim lv : Int) (cnt : Bool) (K : Array Value) (w : World) (hR : Ints w p n c R) (hS : Ints w q m e S) (hA : Ints w a an ac A) (hK : KOk K s k f t l h lv x xn xc) (hT : Ints w s k f T) (hU : Ints w t l h U) (hP : Ints w r lp rc P) (hZ : Ints w z lz zc Z) :
    Calls Try.prog 4 #[.agg #[.slice p n c, .slice q m e, .int .u8 kd, .int .i64 cl, .slice a an ac, .int .i64 lim, .bool cnt], .agg K, .slice r lp rc, .slice z lz zc] w fun e w' => e = .returned (.bool true) ∧ Below w.heap.size w w' := by
  obtain ⟨w1, hw1⟩ : ∃ w2, w2 = (w.alloc (.cells #[.slice p n c, .slice q m e, .int .u8 kd, .int .i64 cl, .slice a an ac, .int .i64 lim, .bool cnt] 29)).alloc (.cells K 44) := ⟨_, rfl⟩
  obtain ⟨hq, hk, -⟩ := two_in (kd := kd) (cl := cl) (lim := lim) (cnt := cnt) hR hS hA hK hT hU w1 hw1
  obtain ⟨g, hg⟩ : ∃ g, g = w.heap.size := ⟨_, rfl⟩
  have hi : AoIn w w1 w.heap.size p n c R q m e S kd cl a an ac A lim cnt K s k f T t l h U lv x xn xc r lp rc P z lz zc Z := ⟨hq, hk, hP.later hq.below, hZ.later hq.below⟩
  go_enter Try.func4, Try.ntmps4
  go_upto_region 1 with fail
  rw [← hw1]
  rw [← hg] at hi ⊢
  clear hw1 hg hR hS hA hT hU hP hZ hq hk
  have HSZ := Lib.hid hK.size
  obtain ⟨fs, hfs⟩ := UKid
  have HUK := Lib.hid hfs
  clear hfs
  have HI1 := Lib.hid hi
  clear hi hK
  have HAL := Lib.hid (alive_any w1)
  go_wp2_with fail
  refine HAL.out.mono ?_
  rintro _ w2 ⟨rfl, hb2⟩
  have HI2 := Lib.hid (HI1.out.later hb2)
  clear hb2 HI1 HAL
  clear w1
  obtain ⟨x0, x1, x2, x3, x4, x5, x6⟩ := HI2.out.q.cells
  obtain ⟨y0, y1, y2, y3⟩ := HI2.out.k.cells
  by_cases h50 : 50 < an
  · have b1 : (50 : Int) < an := by omega
    go_wp2_with fail
    go_ret
    exact ⟨rfl, HI2.out.q.below⟩
  have b1 : ¬ (50 : Int) < an := by omega
  by_cases h51 : 50 < xn
  · have b2 : (50 : Int) < xn := by omega
    go_wp2_with fail
    go_ret
    exact ⟨rfl, HI2.out.q.below⟩
  have b2 : ¬ (50 : Int) < xn := by omega
  clear h50 h51
  go_upto_region 6 with fail
  clear b1 b2
  go_wp2_with fail
  refine (rright_any p q a n c m e an ac R S A kd cl lim cnt n w2 HI2.out.q.lo HI2.out.q.hi HI2.out.q.at').mono ?_
  rintro _ w3 ⟨rfl, hb3⟩
  have HI3 := Lib.hid (HI2.out.later hb3)
  clear hb3 HI2 x0 x1 x2 x3 x4 x5 x6 y0 y1 y2 y3
  obtain ⟨x0, x1, x2, x3, x4, x5, x6⟩ := HI3.out.q.cells
  obtain ⟨y0, y1, y2, y3⟩ := HI3.out.k.cells
  cases hrq : rightQ R S n m kd cl an lim cnt n with
  | false =>
    clear hrq
    go_wp2_with fail
    go_ret
    exact ⟨rfl, HI3.out.q.below⟩
  | true =>
    clear hrq
    by_cases hlv : 0 < lv
    · go_wp2_with fail
      refine (refright_any s t k f l h T U n w3 HI3.out.k.lo HI3.out.k.hi).mono ?_
      rintro _ w4 ⟨rfl, hb4⟩
      have HI4 := Lib.hid (HI3.out.later hb4)
      clear hb4 HI3 x0 x1 x2 x3 x4 x5 x6 y0 y1 y2 y3
      obtain ⟨x0, x1, x2, x3, x4, x5, x6⟩ := HI4.out.q.cells
      obtain ⟨y0, y1, y2, y3⟩ := HI4.out.k.cells
      cases rightB T U k l n with
      | false =>
        go_wp2_with fail
        go_ret
        exact ⟨rfl, HI4.out.q.below⟩
      | true =>
        go_upto_region 8 with fail
        clear x0 x1 x2 x3 x4 x5 x6 y0 y1 y2 y3
        have HF := Lib.hid (show ∀ w', Below w4.heap.size w4 w' → (w'.cell? ⟨g, 0, none⟩ = some (.slice p n c) ∧ w'.cell? ⟨g, 1, none⟩ = some (.slice q m e) ∧ w'.cell? ⟨g, 2, none⟩ = some (.int .u8 kd) ∧ w'.cell? ⟨g, 3, none⟩ = some (.int .i64 cl) ∧ w'.cell? ⟨g, 4, none⟩ = some (.slice a an ac) ∧ w'.cell? ⟨g, 5, none⟩ = some (.int .i64 lim) ∧ w'.cell? ⟨g, 6, none⟩ = some (.bool cnt)) from fun w' hb => (HI4.out.q.later hb).cells)
        have HKR := Lib.hid (show ∀ w', Below w4.heap.size w4 w' → w'.heap[g + 1]? = some (.cells K 44 (0, 0)) from fun w' hb => (HI4.out.k.later hb).row)
        have H1 := Lib.hid (show ∀ w', Below w4.heap.size w4 w' → Calls Try.prog 12 #[.agg #[.slice p n c, .slice q m e, .int .u8 kd, .int .i64 cl, .slice a an ac, .int .i64 lim, .bool cnt], .agg K] w' fun e w'' => e = .returned (.bool (openB lv lim cnt R S T U n m k l)) ∧ Below w4.heap.size w4 w'' from fun w' hb => (open_any p q a s t x n c m e an ac k f l h xn xc R S A T U kd cl lim lv cnt K w' (HI4.out.q.lo.later hb) (HI4.out.q.hi.later hb) (HI4.out.q.at'.later hb) HI4.out.k.ok (HI4.out.k.lo.later hb) (HI4.out.k.hi.later hb)).mono fun e w'' h => ⟨h.1, hb.trans (h.2.mono hb.size)⟩)
        have H2 := Lib.hid (show ∀ w', Below w4.heap.size w4 w' → Calls Try.prog 13 #[.agg #[.slice p n c, .slice q m e, .int .u8 kd, .int .i64 cl, .slice a an ac, .int .i64 lim, .bool cnt], .agg K] w' fun e w'' => e = .returned (.bool (openB lv lim cnt R S T U n m k l)) ∧ Below w4.heap.size w4 w'' from fun w' hb => (ropen_any p q a s t x n c m e an ac k f l h xn xc R S A T U kd cl lim lv cnt K w' (HI4.out.q.lo.later hb) (HI4.out.q.hi.later hb) (HI4.out.q.at'.later hb) HI4.out.k.ok (HI4.out.k.lo.later hb) (HI4.out.k.hi.later hb)).mono fun e w'' h => ⟨h.1, hb.trans (h.2.mono hb.size)⟩)
        generalize openB lv lim cnt R S T U n m k l = ob at *
        refine wp_region_held_drew (S := fun w' => Below w4.heap.size w4 w') (by kernel_rfl) (Below.refl _ _).drew (fun hHeld => ?_)
        refine wpAnyH_take (i := 0) (oi := ⟨some 44, .load 29 (.tmp 4), _, _, _, _⟩) (v := ?_) rfl (by kernel_rfl) (by kernel_rfl) (by kernel_rfl) (fun _ _ _ h => h) (Or.inl ⟨by rfl, ?_⟩) (by assumption) ?_
        rotate_left
        · intro w' hSw
          obtain ⟨y0, y1, y2, y3, y4, y5, y6⟩ := HF.out _ hSw
          go_simp
          try with_reducible rfl
        try simp only [Act.put, List.setIfInBounds_toArray, List.set_cons_zero, List.set_cons_succ]
        refine wpAnyH_take (i := 1) (oi := ⟨some 45, .load 44 (.tmp 5), _, _, _, _⟩) (v := ?_) rfl (by kernel_rfl) (by kernel_rfl) (by kernel_rfl) (fun _ _ _ h => h) (Or.inl ⟨by rfl, ?_⟩) (by assumption) ?_
        rotate_left
        · intro w' hSw
          refine Eq.trans (b := Result.ok (Next.value (.agg K)) w') ?_ ?_
          · exact op_load_kid (by rfl) (by rfl) HSZ.out (HKR.out _ hSw)
          · with_reducible rfl
        try simp only [Act.put, List.setIfInBounds_toArray, List.set_cons_zero, List.set_cons_succ]
        refine wpAnyH_take (i := 3) (oi := ⟨some 47, .load 29 (.tmp 4), _, _, _, _⟩) (v := ?_) rfl (by kernel_rfl) (by kernel_rfl) (by kernel_rfl) (fun _ _ _ h => h) (Or.inl ⟨by rfl, ?_⟩) (by assumption) ?_
        rotate_left
        · intro w' hSw
          obtain ⟨y0, y1, y2, y3, y4, y5, y6⟩ := HF.out _ hSw
          go_simp
          try with_reducible rfl
        try simp only [Act.put, List.setIfInBounds_toArray, List.set_cons_zero, List.set_cons_succ]
        refine wpAnyH_take (i := 4) (oi := ⟨some 48, .load 44 (.tmp 5), _, _, _, _⟩) (v := ?_) rfl (by kernel_rfl) (by kernel_rfl) (by kernel_rfl) (fun _ _ _ h => h) (Or.inl ⟨by rfl, ?_⟩) (by assumption) ?_
        rotate_left
        · intro w' hSw
          refine Eq.trans (b := Result.ok (Next.value (.agg K)) w') ?_ ?_
          · exact op_load_kid (by rfl) (by rfl) HSZ.out (HKR.out _ hSw)
          · with_reducible rfl
        try simp only [Act.put, List.setIfInBounds_toArray, List.set_cons_zero, List.set_cons_succ]
        refine wpAnyH_ready (rs := [2]) (by kernel_rfl) (by simp) ?_
        refine AllReadyH.cons (o := ⟨some 46, .call ⟨.value (.func 12), #[.tmp 44, .tmp 45], #[29, 44]⟩, _, _, _, _⟩) rfl (fun K hK => ?_) AllReadyH.nil
        go_simp
        refine (H1.out _ hHeld).mono ?_
        rintro _ w5 ⟨rfl, hb5⟩
        try go_wp2_with fail
        refine hK.out _ _ hb5 (fun hHeld => ?_)
        clear hK K
        try simp only [Act.put, List.setIfInBounds_toArray, List.set_cons_zero, List.set_cons_succ]
        refine wpAnyH_ready (rs := [5]) (by kernel_rfl) (by simp) ?_
        refine AllReadyH.cons (o := ⟨some 49, .call ⟨.value (.func 13), #[.tmp 47, .tmp 48], #[29, 44]⟩, _, _, _, _⟩) rfl (fun K hK => ?_) AllReadyH.nil
        go_simp
        refine (H2.out _ hHeld).mono ?_
        rintro _ w6 ⟨rfl, hb6⟩
        try go_wp2_with fail
        refine hK.out _ _ hb6 (fun hHeld => ?_)
        clear hK K
        try simp only [Act.put, List.setIfInBounds_toArray, List.set_cons_zero, List.set_cons_succ]
        refine wpAnyH_take (i := 6) (oi := ⟨some 50, .binOp .neq 4 (.tmp 46) (.tmp 49) 4, _, _, _, _⟩) (v := ?_) rfl (by kernel_rfl) (by kernel_rfl) (by kernel_rfl) (fun _ _ _ h => h) (Or.inl ⟨by rfl, ?_⟩) (by assumption) ?_
        rotate_left
        · intro w' hSw
          obtain ⟨y0, y1, y2, y3, y4, y5, y6⟩ := HF.out _ hSw
          go_simp
          try with_reducible rfl
        try simp only [Act.put, List.setIfInBounds_toArray, List.set_cons_zero, List.set_cons_succ]
        refine wpAnyH_done (by kernel_rfl) ?_ _
        have hb := hHeld
        clear hHeld HF H1 H2 HKR
        have HI7 := Lib.hid (HI4.out.later hb)
        clear hb HI4
        have HKW := Lib.hid HI7.out.k.row
        obtain ⟨x0, x1, x2, x3, x4, x5, x6⟩ := HI7.out.q.cells
        have qob : (ob != ob) = false := by simp
        go_wp2_with (refine wpList_load_row (by rfl) 44 _ (by rfl) (g + 1) (by rfl) 44 _ (0, 0) _ HKW.out HUK.out (by rfl) (by rw [HSZ.out]; exact SKid) ?_)
        refine (past_any p q a s t x r n c m e an ac k f l h xn xc lp rc R S A T U P kd cl lim lv cnt K w6 HI7.out.q.lo HI7.out.q.hi HI7.out.q.at' HI7.out.k.ok HI7.out.k.lo HI7.out.k.hi HI7.out.r).mono ?_
        rintro _ w8 ⟨rfl, hb8⟩
        have HI8 := Lib.hid (HI7.out.later hb8)
        clear hb8 HI7 HKW x0 x1 x2 x3 x4 x5 x6 qob
        obtain ⟨x0, x1, x2, x3, x4, x5, x6⟩ := HI8.out.q.cells
        obtain ⟨y0, y1, y2, y3⟩ := HI8.out.k.cells
        cases cnt with
        | true =>
          go_wp2_with fail
          go_ret
          exact ⟨rfl, HI8.out.q.below⟩
        | false =>
          cases hpb : pastB kd cl A R S T U P an n m k l lp with
          | false =>
            clear hpb
            go_wp2_with fail
            go_ret
            exact ⟨rfl, HI8.out.q.below⟩
          | true =>
            have HPB := Lib.hid hpb
            clear hpb
            go_wp2_with fail
            refine (refhas_any p q z n c m e lz zc R S Z w8 HI8.out.q.lo HI8.out.q.hi HI8.out.z).mono ?_
            rintro _ w9 ⟨rfl, hb9⟩
            have HI9 := Lib.hid (HI8.out.later hb9)
            clear hb9 HI8 x0 x1 x2 x3 x4 x5 x6 y0 y1 y2 y3
            obtain ⟨x0, x1, x2, x3, x4, x5, x6⟩ := HI9.out.q.cells
            obtain ⟨y0, y1, y2, y3⟩ := HI9.out.k.cells
            cases hh1 : hasB R S Z n m lz with
            | false =>
              clear hh1
              go_wp2_with fail
              go_ret
              exact ⟨rfl, HI9.out.q.below⟩
            | true =>
              have HH1 := Lib.hid hh1
              clear hh1
              go_wp2_with fail
              refine (refhas_any s t z k f l h lz zc T U Z w9 HI9.out.k.lo HI9.out.k.hi HI9.out.z).mono ?_
              rintro _ w10 ⟨rfl, hb10⟩
              have HI10 := Lib.hid (HI9.out.later hb10)
              clear hb10 HI9 x0 x1 x2 x3 x4 x5 x6 y0 y1 y2 y3
              obtain ⟨x0, x1, x2, x3, x4, x5, x6⟩ := HI10.out.q.cells
              cases hh2 : hasB T U Z k l lz with
              | false =>
                clear hh2
                go_wp2_with fail
                go_ret
                exact ⟨rfl, HI10.out.q.below⟩
              | true =>
                have hna := past_ahead HPB.out HH1.out hh2
                have hra := refahead_any kd cl a z r an ac lz zc lp rc A Z P w10 HI10.out.q.at' HI10.out.z HI10.out.r
                rw [decide_eq_false hna] at hra
                have HRA := Lib.hid hra
                clear hna hra hh2
                go_wp2_with fail
                refine HRA.out.mono ?_
                rintro _ w11 ⟨rfl, hb11⟩
                have hb := HI10.out.q.below.trans (hb11.mono HI10.out.q.below.size)
                go_wp2_with fail
                go_ret
                exact ⟨rfl, hb⟩
    ·
      go_upto_region 8 with fail
      clear x0 x1 x2 x3 x4 x5 x6 y0 y1 y2 y3
      have HF := Lib.hid (show ∀ w', Below w3.heap.size w3 w' → (w'.cell? ⟨g, 0, none⟩ = some (.slice p n c) ∧ w'.cell? ⟨g, 1, none⟩ = some (.slice q m e) ∧ w'.cell? ⟨g, 2, none⟩ = some (.int .u8 kd) ∧ w'.cell? ⟨g, 3, none⟩ = some (.int .i64 cl) ∧ w'.cell? ⟨g, 4, none⟩ = some (.slice a an ac) ∧ w'.cell? ⟨g, 5, none⟩ = some (.int .i64 lim) ∧ w'.cell? ⟨g, 6, none⟩ = some (.bool cnt)) from fun w' hb => (HI3.out.q.later hb).cells)
      have HKR := Lib.hid (show ∀ w', Below w3.heap.size w3 w' → w'.heap[g + 1]? = some (.cells K 44 (0, 0)) from fun w' hb => (HI3.out.k.later hb).row)
      have H1 := Lib.hid (show ∀ w', Below w3.heap.size w3 w' → Calls Try.prog 12 #[.agg #[.slice p n c, .slice q m e, .int .u8 kd, .int .i64 cl, .slice a an ac, .int .i64 lim, .bool cnt], .agg K] w' fun e w'' => e = .returned (.bool (openB lv lim cnt R S T U n m k l)) ∧ Below w3.heap.size w3 w'' from fun w' hb => (open_any p q a s t x n c m e an ac k f l h xn xc R S A T U kd cl lim lv cnt K w' (HI3.out.q.lo.later hb) (HI3.out.q.hi.later hb) (HI3.out.q.at'.later hb) HI3.out.k.ok (HI3.out.k.lo.later hb) (HI3.out.k.hi.later hb)).mono fun e w'' h => ⟨h.1, hb.trans (h.2.mono hb.size)⟩)
      have H2 := Lib.hid (show ∀ w', Below w3.heap.size w3 w' → Calls Try.prog 13 #[.agg #[.slice p n c, .slice q m e, .int .u8 kd, .int .i64 cl, .slice a an ac, .int .i64 lim, .bool cnt], .agg K] w' fun e w'' => e = .returned (.bool (openB lv lim cnt R S T U n m k l)) ∧ Below w3.heap.size w3 w'' from fun w' hb => (ropen_any p q a s t x n c m e an ac k f l h xn xc R S A T U kd cl lim lv cnt K w' (HI3.out.q.lo.later hb) (HI3.out.q.hi.later hb) (HI3.out.q.at'.later hb) HI3.out.k.ok (HI3.out.k.lo.later hb) (HI3.out.k.hi.later hb)).mono fun e w'' h => ⟨h.1, hb.trans (h.2.mono hb.size)⟩)
      generalize openB lv lim cnt R S T U n m k l = ob at *
      refine wp_region_held_drew (S := fun w' => Below w3.heap.size w3 w') (by kernel_rfl) (Below.refl _ _).drew (fun hHeld => ?_)
      refine wpAnyH_take (i := 0) (oi := ⟨some 44, .load 29 (.tmp 4), _, _, _, _⟩) (v := ?_) rfl (by kernel_rfl) (by kernel_rfl) (by kernel_rfl) (fun _ _ _ h => h) (Or.inl ⟨by rfl, ?_⟩) (by assumption) ?_
      rotate_left
      · intro w' hSw
        obtain ⟨y0, y1, y2, y3, y4, y5, y6⟩ := HF.out _ hSw
        go_simp
        try with_reducible rfl
      try simp only [Act.put, List.setIfInBounds_toArray, List.set_cons_zero, List.set_cons_succ]
      refine wpAnyH_take (i := 1) (oi := ⟨some 45, .load 44 (.tmp 5), _, _, _, _⟩) (v := ?_) rfl (by kernel_rfl) (by kernel_rfl) (by kernel_rfl) (fun _ _ _ h => h) (Or.inl ⟨by rfl, ?_⟩) (by assumption) ?_
      rotate_left
      · intro w' hSw
        refine Eq.trans (b := Result.ok (Next.value (.agg K)) w') ?_ ?_
        · exact op_load_kid (by rfl) (by rfl) HSZ.out (HKR.out _ hSw)
        · with_reducible rfl
      try simp only [Act.put, List.setIfInBounds_toArray, List.set_cons_zero, List.set_cons_succ]
      refine wpAnyH_take (i := 3) (oi := ⟨some 47, .load 29 (.tmp 4), _, _, _, _⟩) (v := ?_) rfl (by kernel_rfl) (by kernel_rfl) (by kernel_rfl) (fun _ _ _ h => h) (Or.inl ⟨by rfl, ?_⟩) (by assumption) ?_
      rotate_left
      · intro w' hSw
        obtain ⟨y0, y1, y2, y3, y4, y5, y6⟩ := HF.out _ hSw
        go_simp
        try with_reducible rfl
      try simp only [Act.put, List.setIfInBounds_toArray, List.set_cons_zero, List.set_cons_succ]
      refine wpAnyH_take (i := 4) (oi := ⟨some 48, .load 44 (.tmp 5), _, _, _, _⟩) (v := ?_) rfl (by kernel_rfl) (by kernel_rfl) (by kernel_rfl) (fun _ _ _ h => h) (Or.inl ⟨by rfl, ?_⟩) (by assumption) ?_
      rotate_left
      · intro w' hSw
        refine Eq.trans (b := Result.ok (Next.value (.agg K)) w') ?_ ?_
        · exact op_load_kid (by rfl) (by rfl) HSZ.out (HKR.out _ hSw)
        · with_reducible rfl
      try simp only [Act.put, List.setIfInBounds_toArray, List.set_cons_zero, List.set_cons_succ]
      refine wpAnyH_ready (rs := [2]) (by kernel_rfl) (by simp) ?_
      refine AllReadyH.cons (o := ⟨some 46, .call ⟨.value (.func 12), #[.tmp 44, .tmp 45], #[29, 44]⟩, _, _, _, _⟩) rfl (fun K hK => ?_) AllReadyH.nil
      go_simp
      refine (H1.out _ hHeld).mono ?_
      rintro _ w5 ⟨rfl, hb5⟩
      try go_wp2_with fail
      refine hK.out _ _ hb5 (fun hHeld => ?_)
      clear hK K
      try simp only [Act.put, List.setIfInBounds_toArray, List.set_cons_zero, List.set_cons_succ]
      refine wpAnyH_ready (rs := [5]) (by kernel_rfl) (by simp) ?_
      refine AllReadyH.cons (o := ⟨some 49, .call ⟨.value (.func 13), #[.tmp 47, .tmp 48], #[29, 44]⟩, _, _, _, _⟩) rfl (fun K hK => ?_) AllReadyH.nil
      go_simp
      refine (H2.out _ hHeld).mono ?_
      rintro _ w6 ⟨rfl, hb6⟩
      try go_wp2_with fail
      refine hK.out _ _ hb6 (fun hHeld => ?_)
      clear hK K
      try simp only [Act.put, List.setIfInBounds_toArray, List.set_cons_zero, List.set_cons_succ]
      refine wpAnyH_take (i := 6) (oi := ⟨some 50, .binOp .neq 4 (.tmp 46) (.tmp 49) 4, _, _, _, _⟩) (v := ?_) rfl (by kernel_rfl) (by kernel_rfl) (by kernel_rfl) (fun _ _ _ h => h) (Or.inl ⟨by rfl, ?_⟩) (by assumption) ?_
      rotate_left
      · intro w' hSw
        obtain ⟨y0, y1, y2, y3, y4, y5, y6⟩ := HF.out _ hSw
        go_simp
        try with_reducible rfl
      try simp only [Act.put, List.setIfInBounds_toArray, List.set_cons_zero, List.set_cons_succ]
      refine wpAnyH_done (by kernel_rfl) ?_ _
      have hb := hHeld
      clear hHeld HF H1 H2 HKR
      have HI7 := Lib.hid (HI3.out.later hb)
      clear hb HI3
      have HKW := Lib.hid HI7.out.k.row
      obtain ⟨x0, x1, x2, x3, x4, x5, x6⟩ := HI7.out.q.cells
      have qob : (ob != ob) = false := by simp
      go_wp2_with (refine wpList_load_row (by rfl) 44 _ (by rfl) (g + 1) (by rfl) 44 _ (0, 0) _ HKW.out HUK.out (by rfl) (by rw [HSZ.out]; exact SKid) ?_)
      refine (past_any p q a s t x r n c m e an ac k f l h xn xc lp rc R S A T U P kd cl lim lv cnt K w6 HI7.out.q.lo HI7.out.q.hi HI7.out.q.at' HI7.out.k.ok HI7.out.k.lo HI7.out.k.hi HI7.out.r).mono ?_
      rintro _ w8 ⟨rfl, hb8⟩
      have HI8 := Lib.hid (HI7.out.later hb8)
      clear hb8 HI7 HKW x0 x1 x2 x3 x4 x5 x6 qob
      obtain ⟨x0, x1, x2, x3, x4, x5, x6⟩ := HI8.out.q.cells
      obtain ⟨y0, y1, y2, y3⟩ := HI8.out.k.cells
      cases cnt with
      | true =>
        go_wp2_with fail
        go_ret
        exact ⟨rfl, HI8.out.q.below⟩
      | false =>
        cases hpb : pastB kd cl A R S T U P an n m k l lp with
        | false =>
          clear hpb
          go_wp2_with fail
          go_ret
          exact ⟨rfl, HI8.out.q.below⟩
        | true =>
          have HPB := Lib.hid hpb
          clear hpb
          go_wp2_with fail
          refine (refhas_any p q z n c m e lz zc R S Z w8 HI8.out.q.lo HI8.out.q.hi HI8.out.z).mono ?_
          rintro _ w9 ⟨rfl, hb9⟩
          have HI9 := Lib.hid (HI8.out.later hb9)
          clear hb9 HI8 x0 x1 x2 x3 x4 x5 x6 y0 y1 y2 y3
          obtain ⟨x0, x1, x2, x3, x4, x5, x6⟩ := HI9.out.q.cells
          obtain ⟨y0, y1, y2, y3⟩ := HI9.out.k.cells
          cases hh1 : hasB R S Z n m lz with
          | false =>
            clear hh1
            go_wp2_with fail
            go_ret
            exact ⟨rfl, HI9.out.q.below⟩
          | true =>
            have HH1 := Lib.hid hh1
            clear hh1
            go_wp2_with fail
            refine (refhas_any s t z k f l h lz zc T U Z w9 HI9.out.k.lo HI9.out.k.hi HI9.out.z).mono ?_
            rintro _ w10 ⟨rfl, hb10⟩
            have HI10 := Lib.hid (HI9.out.later hb10)
            clear hb10 HI9 x0 x1 x2 x3 x4 x5 x6 y0 y1 y2 y3
            obtain ⟨x0, x1, x2, x3, x4, x5, x6⟩ := HI10.out.q.cells
            cases hh2 : hasB T U Z k l lz with
            | false =>
              clear hh2
              go_wp2_with fail
              go_ret
              exact ⟨rfl, HI10.out.q.below⟩
            | true =>
              have hna := past_ahead HPB.out HH1.out hh2
              have hra := refahead_any kd cl a z r an ac lz zc lp rc A Z P w10 HI10.out.q.at' HI10.out.z HI10.out.r
              rw [decide_eq_false hna] at hra
              have HRA := Lib.hid hra
              clear hna hra hh2
              go_wp2_with fail
              refine HRA.out.mono ?_
              rintro _ w11 ⟨rfl, hb11⟩
              have hb := HI10.out.q.below.trans (hb11.mono HI10.out.q.below.size)
              go_wp2_with fail
              go_ret
              exact ⟨rfl, hb⟩
end Go.Proofs.Ytnigfipjcnamfaa.Ak

/- Proved: whatever query, kid and two rows it is handed, the Go function indenturelaw14.AskOpen returns true (which trees are open to a query is the document's; where a kid is past a row, no row of its box that is in the query's is ahead of that), and each argument reads afterwards as it read before. Conditions: none beyond the given row's own. -/
namespace Go.Proofs.Ytnigfipjcnamfaa
open Go.ChangeShapes Go.WideShapes Go.ChangeAt Go.RowKit Go.Deep

set_option maxRecDepth 100000 in
theorem akopen_lifted (os : Os) (started : os.Started) (H : Type) (enc : TypeId × Value → H) :
    ReturnsInHanded {} Try.checked os 4 .any (Rows.askOpenSpec.pre6 enc Try.prog Try.f4 Rows.askOpenRow.domain false) (Rows.askOpenSpec.post enc Try.prog Try.f4 false true false false) := by
  refine returnsInHanded_of_change (C := Try.checked) gen_own started (by kernel_rfl) Try.func4
    (ChangeSpec.witness6 (enc := enc) (C := Try.checked) false ⟨#[], #[.agg #[.slice none 0 0, .slice none 0 0, .int .u8 0, .int .i64 0, .slice none 0 0, .int .i64 0, .bool false], .agg (Array.replicate 32 (.int .u8 0) ++ #[.slice none 0 0, .slice none 0 0, .int .i64 0, .int .i64 0, .slice none 0 0]), .slice none 0 0, .slice none 0 0], []⟩ 8 (by kernel_rfl) (by kernel_rfl) (by kernel_rfl) (by kernel_rfl)) ?_
  intro W base args ds gs before hval0 hW _ _
  have hval : ∀ (j : Nat) t v, Try.f4.params[j]? = some t → args[j]? = some v → Value.okWide Try.prog W .any base t v := hval0
  have hW' := hW
  obtain ⟨p, q, hA0, hV, rfl, _, _⟩ := hW
  have hA : DataW.TrodAll enc Try.prog W 0 (fun _ => true) true Try.f4.params.toList args.toList ds p := hA0
  rw [Try.params4] at hA hval
  obtain ⟨v0, vs0, d0, ds0, p0, q0, hargs, rfl, rfl, h0, r0⟩ := trodAll_cons hA
  obtain ⟨v1, vs1, d1, ds1, p1, q1, rfl, rfl, rfl, h1, r1⟩ := trodAll_cons r0
  obtain ⟨v2, vs2, d2, ds2, p2, q2, rfl, rfl, rfl, h2, r2⟩ := trodAll_cons r1
  obtain ⟨v3, vs3, d3, ds3, p3, q3, rfl, rfl, rfl, h3, r3⟩ := trodAll_cons r2
  obtain ⟨rfl, rfl, rfl⟩ := trodAll_nil r3
  obtain rfl : args = #[v0, v1, v2, v3] := by cases args; simp_all
  obtain ⟨rfl, rfl⟩ := trodVars_none hV
  obtain ⟨a0, len0, cap0, R0, b0, ben0, bap0, S0, kd0, cl0, e0, een0, eap0, X0, lim0, cnt0, rfl, ⟨hR0, hS0, hQ0⟩, hkd0, hcl0, hlim0, hl0, hm0, hn0⟩ := Ak.open_query (hval 0 29 v0 rfl rfl) h0
  obtain ⟨D1, a1, len1, cap1, R1, b1, ben1, bap1, S1, lv1, sz1, e1, een1, eap1, X1, hD1, rfl, ⟨hR1, hS1, hQ1⟩, hlv1, hl1, hm1, hn1⟩ := Ak.open_kid (hval 1 44 v1 rfl rfl) h1
  obtain ⟨a2, len2, cap2, R2, rfl, hR2, hl2⟩ := open_row (hval 2 23 v2 rfl rfl) h2
  obtain ⟨a3, len3, cap3, R3, rfl, hR3, hl3⟩ := open_row (hval 3 23 v3 rfl rfl) h3
  have k0 := h0
  have k1 := h1
  have k2 := h2
  have k3 := h3
  have lt0 : ∀ x ∈ p0, x.block < W.heap.size := by obtain ⟨m, hm⟩ := k0; exact DataW.trod_lt m _ _ _ hm
  have lt1 : ∀ x ∈ p1, x.block < W.heap.size := by obtain ⟨m, hm⟩ := k1; exact DataW.trod_lt m _ _ _ hm
  have lt2 : ∀ x ∈ p2, x.block < W.heap.size := by obtain ⟨m, hm⟩ := k2; exact DataW.trod_lt m _ _ _ hm
  have lt3 : ∀ x ∈ p3, x.block < W.heap.size := by obtain ⟨m, hm⟩ := k3; exact DataW.trod_lt m _ _ _ hm
  clear hA0 hval0
  refine (Ak.askopen_any' a0 b0 e0 a1 b1 e1 a2 a3 len0 cap0 ben0 bap0 een0 eap0 len1 cap1 ben1 bap1 een1 eap1 len2 cap2 len3 cap3 R0 S0 X0 R1 S1 R2 R3 kd0 cl0 lim0 lv1 cnt0 _ W hR0 hS0 hQ0 (Ak.kok_of hD1 a1 len1 cap1 b1 ben1 bap1 lv1 sz1 e1 een1 eap1) hR1 hS1 hR2 hR3).mono fun e W' ⟨he, bel⟩ => ?_
  subst he
  exact ⟨_, rfl, _, _, _, [], _, [], hW', trodAll_mk1 (shut_bool Try.underlying4 _),
    (trodAll_cons_mk (Below.trod gen_laidOut (by kernel_rfl) (of_decide_eq_true (by kernel_rfl)) k0 bel lt0) (trodAll_cons_mk (Below.trod gen_laidOut (by kernel_rfl) (of_decide_eq_true (by kernel_rfl)) k1 bel lt1) (trodAll_cons_mk (Below.trod gen_laidOut (by kernel_rfl) (of_decide_eq_true (by kernel_rfl)) k2 bel lt2) (trodAll_cons_mk (Below.trod gen_laidOut (by kernel_rfl) (of_decide_eq_true (by kernel_rfl)) k3 bel lt3) trodAll_mk0)))), rfl, bel.frame _, fun h => by cases h⟩
theorem akopen_holds : Rows.AskOpenSaid :=
  OpenClaim.holds_of_wide 4 Try.f4 rfl rfl rfl rfl rfl rfl rfl ⟨rfl, rfl, rfl, rfl, rfl⟩ rfl rfl rfl rfl rfl (by kernel_rfl) Try.func4 (by kernel_rfl)
    (of_decide_eq_true (by kernel_rfl)) (by unfold Func.isWrapper; first | (rw [if_pos (by decide +kernel)]; kernel_rfl) | (rw [if_neg (by decide +kernel)]; exact ⟨rfl, rfl⟩))
    (fun os started H enc _ => akopen_lifted os started H enc)
end Go.Proofs.Ytnigfipjcnamfaa
