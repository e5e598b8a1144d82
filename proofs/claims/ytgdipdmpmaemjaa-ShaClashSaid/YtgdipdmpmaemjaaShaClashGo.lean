/- What the law ShaClash does. -/
import Derived.Test.YtgdipdmpmaemjaaShaClash
namespace Go.Proofs.Ytgdipdmpmaemjaa
open Go.RowKit

/-- Both texts lie where they lay, and nothing that was there has turned. -/
structure CS (w0 : World) (p : Option Addr) (n c : Nat) (A : List Nat) (q : Option Addr) (n2 c2 : Nat) (B : List Nat) (w : World) : Prop where
  a : Tx w p n c A
  b : Tx w q n2 c2 B
  low : Below w0.heap.size w0 w
theorem CS.later {w0 : World} {p : Option Addr} {n c : Nat} {A : List Nat} {q : Option Addr} {n2 c2 : Nat} {B : List Nat} {w w' : World} (h : CS w0 p n c A q n2 c2 B w) (hb : Below w.heap.size w w') : CS w0 p n c A q n2 c2 B w' :=
  ⟨h.a.later hb, h.b.later hb, h.low.trans (hb.mono h.low.size)⟩
theorem clash_cs {w0 : World} {p : Option Addr} {n c : Nat} {A : List Nat} {q : Option Addr} {n2 c2 : Nat} {B : List Nat} {w : World} (h : CS w0 p n c A q n2 c2 B w) (hla : A.length < 1000000) (hlb : B.length < 1000000) (r : Bool) (hr : clashes A B = r) :
    Calls Try.prog 20 #[.slice p n c, .slice q n2 c2] w fun e w' => e = .returned (.bool r) ∧ CS w0 p n c A q n2 c2 B w' :=
  (clash_any A B p q n c n2 c2 w h.a h.b hla hlb).mono fun _ _ ⟨h1, h2⟩ => ⟨by rw [h1, hr], h.later h2⟩
theorem same_cs {w0 : World} {p : Option Addr} {n c : Nat} {A : List Nat} {q : Option Addr} {n2 c2 : Nat} {B : List Nat} {w : World} (h : CS w0 p n c A q n2 c2 B w) (hla : A.length < 1000000) :
    Calls Try.prog 20 #[.slice p n c, .slice p n c] w fun e w' => e = .returned (.bool false) ∧ CS w0 p n c A q n2 c2 B w' :=
  (clash_any A A p p n c n c w h.a h.a hla hla).mono fun _ _ ⟨h1, h2⟩ => ⟨by rw [h1, clashes_same], h.later h2⟩
theorem suma_cs {w0 : World} {p : Option Addr} {n c : Nat} {A : List Nat} {q : Option Addr} {n2 c2 : Nat} {B : List Nat} {w : World} (h : CS w0 p n c A q n2 c2 B w) (hla : A.length < 1000000) :
    Calls Try.prog 10 #[.slice p n c] w fun e w' => e = .returned (.agg (u8s (Sm.sum A))) ∧ CS w0 p n c A q n2 c2 B w' :=
  (refsum_any A p n c w h.a hla).mono fun _ _ ⟨h1, h2⟩ => ⟨h1, h.later h2⟩
theorem sumb_cs {w0 : World} {p : Option Addr} {n c : Nat} {A : List Nat} {q : Option Addr} {n2 c2 : Nat} {B : List Nat} {w : World} (h : CS w0 p n c A q n2 c2 B w) (hlb : B.length < 1000000) :
    Calls Try.prog 10 #[.slice q n2 c2] w fun e w' => e = .returned (.agg (u8s (Sm.sum B))) ∧ CS w0 p n c A q n2 c2 B w' :=
  (refsum_any B q n2 c2 w h.b hlb).mono fun _ _ ⟨h1, h2⟩ => ⟨h1, h.later h2⟩
set_option maxRecDepth 100000 in
set_option maxHeartbeats 4000000 in
theorem clashlaw_any (A B : List Nat) (p q : Option Addr) (n c n2 c2 : Nat) (w : World) (hA : Tx w p n c A) (hB : Tx w q n2 c2 B) (hl : n ≤ 9223372036854775807) (hl2 : n2 ≤ 9223372036854775807) :
    Calls Try.prog 7 #[.slice p n c, .slice q n2 c2] w fun e w' => e = .returned (.bool true) ∧ Below w.heap.size w w' := by
  have HA := Lib.hid hA
  have HB := Lib.hid hB
  have HNA := Lib.hid hA.size
  have HNB := Lib.hid hB.size
  clear hA hB
  go_enter Try.func7, Try.ntmps7
  go_wp2_with fail
  refine (alive_any w).mono ?_
  rintro _ w0 ⟨rfl, hb0⟩
  have HA0 := Lib.hid (HA.out.later hb0)
  have HB0 := Lib.hid (HB.out.later hb0)
  have HW0 := Lib.hid hb0
  clear hb0 HA HB
  by_cases h1 : 300 < n
  · have b1 : (300 : Int) < n := by omega
    go_wp2_with fail
    go_ret
    exact ⟨rfl, HW0.out⟩
  have b1 : ¬ (300 : Int) < n := by omega
  by_cases h2 : 300 < n2
  · have b2 : (300 : Int) < n2 := by omega
    go_wp2_with fail
    go_ret
    exact ⟨rfl, HW0.out⟩
  have b2 : ¬ (300 : Int) < n2 := by omega
  have hla : A.length < 1000000 := by rw [← HNA.out]; omega
  have hlb : B.length < 1000000 := by rw [← HNB.out]; omega
  go_upto_region 5 with fail
  have hse := str_eq HA0.out.ok HB0.out.ok
  obtain ⟨E, hE⟩ : ∃ E, E = decide (A = B) := ⟨_, rfl⟩
  obtain ⟨D, hD⟩ : ∃ D, D = decide (Sm.sum A = Sm.sum B) := ⟨_, rfl⟩
  have hcl : clashes A B = (!E && D) := by rw [hE, hD]; rfl
  have hcs := clashes_same A
  rw [← hE] at hse
  have hq : ∀ w', (binOp .eql 25 (.agg (u8s (Sm.sum A))) (.agg (u8s (Sm.sum B)))).run Try.prog w' = .ok (.bool D) w' := fun w' => by rw [hD]; exact digest_eql _ _ rfl rfl w'
  have hcA : ∀ w', CS w p n c A q n2 c2 B w' → (convert 22 9 (.slice p n c)).run Try.prog w' = .ok (.string (strOf A)) w' := fun w' h => convert_tx h.a
  have hcB : ∀ w', CS w p n c A q n2 c2 B w' → (convert 22 9 (.slice q n2 c2)).run Try.prog w' = .ok (.string (strOf B)) w' := fun w' h => convert_tx h.b
  have HE := Lib.hid hE
  have HD := Lib.hid hD
  have hCS : CS w p n c A q n2 c2 B w0.drew := ⟨HA0.out.heap rfl, HB0.out.heap rfl, ⟨HW0.out.os, HW0.out.tape, HW0.out.output, HW0.out.size, HW0.out.block⟩⟩
  clear hE hD h1 h2
  cases E
  · generalize strOf A = s1 at *
    generalize strOf B = s2 at *
    go_region_held3 (fun w' => CS w p n c A q n2 c2 B w') (first | assumption | go_keep) ((first | (go_at_call 20; refine (clash_cs (by assumption) hla hlb _ hcl).mono ?_; rintro _ w5 ⟨rfl, hcs5⟩) | (go_at_call 20; refine (same_cs (by assumption) hla).mono ?_; rintro _ w5 ⟨rfl, hcs5⟩) | (go_at_call 10; refine (suma_cs (by assumption) hla).mono ?_; rintro _ w5 ⟨rfl, hcs5⟩) | (go_at_call 10; refine (sumb_cs (by assumption) hlb).mono ?_; rintro _ w5 ⟨rfl, hcs5⟩)))
    all_goals
      go_wp2_with fail
      go_ret
      exact ⟨by cases D <;> rfl, CS.low (by assumption)⟩
  · have hAB : A = B := by have := HE.out; simpa using this.symm
    subst hAB
    clear hse
    generalize strOf A = s1 at *
    refine wp_region_held_drew (S := fun w' => CS w p n c A q n2 c2 A w') (by kernel_rfl) hCS (fun hHeld => ?_)
    refine wpAnyH_take (i := 0) (oi := ⟨some 15, .move (.tmp 0), _, _, _, _⟩) (v := ?_) rfl (by kernel_rfl) (by kernel_rfl) (by kernel_rfl) (fun _ _ _ h => h) (Or.inl ⟨by rfl, ?_⟩) (by assumption) ?_
    rotate_left
    · intro w' hSw
      go_simp
      try with_reducible rfl
    try simp only [Act.put, List.setIfInBounds_toArray, List.set_cons_zero, List.set_cons_succ]
    refine wpAnyH_take (i := 1) (oi := ⟨some 16, .move (.tmp 1), _, _, _, _⟩) (v := ?_) rfl (by kernel_rfl) (by kernel_rfl) (by kernel_rfl) (fun _ _ _ h => h) (Or.inl ⟨by rfl, ?_⟩) (by assumption) ?_
    rotate_left
    · intro w' hSw
      go_simp
      try with_reducible rfl
    try simp only [Act.put, List.setIfInBounds_toArray, List.set_cons_zero, List.set_cons_succ]
    refine wpAnyH_take (i := 3) (oi := ⟨some 18, .move (.tmp 0), _, _, _, _⟩) (v := ?_) rfl (by kernel_rfl) (by kernel_rfl) (by kernel_rfl) (fun _ _ _ h => h) (Or.inl ⟨by rfl, ?_⟩) (by assumption) ?_
    rotate_left
    · intro w' hSw
      go_simp
      try with_reducible rfl
    try simp only [Act.put, List.setIfInBounds_toArray, List.set_cons_zero, List.set_cons_succ]
    refine wpAnyH_take (i := 4) (oi := ⟨some 19, .convert 22 9 (.tmp 18), _, _, _, _⟩) (v := ?_) rfl (by kernel_rfl) (by kernel_rfl) (by kernel_rfl) (fun _ _ _ h => h) (Or.inl ⟨by rfl, ?_⟩) (by assumption) ?_
    rotate_left
    · intro w' hSw
      go_simp
      try with_reducible rfl
    try simp only [Act.put, List.setIfInBounds_toArray, List.set_cons_zero, List.set_cons_succ]
    refine wpAnyH_take (i := 5) (oi := ⟨some 20, .move (.tmp 1), _, _, _, _⟩) (v := ?_) rfl (by kernel_rfl) (by kernel_rfl) (by kernel_rfl) (fun _ _ _ h => h) (Or.inl ⟨by rfl, ?_⟩) (by assumption) ?_
    rotate_left
    · intro w' hSw
      go_simp
      try with_reducible rfl
    try simp only [Act.put, List.setIfInBounds_toArray, List.set_cons_zero, List.set_cons_succ]
    refine wpAnyH_take (i := 6) (oi := ⟨some 21, .convert 22 9 (.tmp 20), _, _, _, _⟩) (v := ?_) rfl (by kernel_rfl) (by kernel_rfl) (by kernel_rfl) (fun _ _ _ h => h) (Or.inl ⟨by rfl, ?_⟩) (by assumption) ?_
    rotate_left
    · intro w' hSw
      go_simp
      try with_reducible rfl
    try simp only [Act.put, List.setIfInBounds_toArray, List.set_cons_zero, List.set_cons_succ]
    refine wpAnyH_take (i := 7) (oi := ⟨some 22, .binOp .neq 9 (.tmp 19) (.tmp 21) 9, _, _, _, _⟩) (v := ?_) rfl (by kernel_rfl) (by kernel_rfl) (by kernel_rfl) (fun _ _ _ h => h) (Or.inl ⟨by rfl, ?_⟩) (by assumption) ?_
    rotate_left
    · intro w' hSw
      go_simp
      try with_reducible rfl
    try simp only [Act.put, List.setIfInBounds_toArray, List.set_cons_zero, List.set_cons_succ]
    refine wpAnyH_ready (rs := [2]) (by kernel_rfl) (by simp) ?_
    refine AllReadyH.cons (o := ⟨some 17, .call ⟨.value (.func 20), #[.tmp 15, .tmp 16], #[22, 22]⟩, _, _, _, _⟩) rfl (fun K hK => ?_) AllReadyH.nil
    go_simp
    refine (clash_cs hHeld hla hlb _ hcl).mono ?_
    rintro _ w5 ⟨rfl, hcs5⟩
    try go_wp2_with fail
    refine hK.out _ _ hcs5 (fun hHeld => ?_)
    clear hK K
    try simp only [Act.put, List.setIfInBounds_toArray, List.set_cons_zero, List.set_cons_succ]
    refine wpAnyH_take (i := 8) (oi := ⟨some 23, .move (.tmp 22), _, _, _, _⟩) (v := ?_) rfl (by kernel_rfl) (by kernel_rfl) (by kernel_rfl) (fun _ _ _ h => h) (Or.inl ⟨by rfl, ?_⟩) (by assumption) ?_
    rotate_left
    · intro w' hSw
      go_simp
      try with_reducible rfl
    try simp only [Act.put, List.setIfInBounds_toArray, List.set_cons_zero, List.set_cons_succ]
    refine wpAnyH_take (i := 9) (oi := ⟨some 24, .move (.tmp 0), _, _, _, _⟩) (v := undef) rfl (by kernel_rfl) (by kernel_rfl) (by kernel_rfl) (fun _ _ _ h => h) (Or.inr ⟨by rfl, rfl⟩) (by assumption) ?_
    try simp only [Act.put, List.setIfInBounds_toArray, List.set_cons_zero, List.set_cons_succ]
    refine wpAnyH_take (i := 11) (oi := ⟨some 26, .move (.tmp 1), _, _, _, _⟩) (v := undef) rfl (by kernel_rfl) (by kernel_rfl) (by kernel_rfl) (fun _ _ _ h => h) (Or.inr ⟨by rfl, rfl⟩) (by assumption) ?_
    try simp only [Act.put, List.setIfInBounds_toArray, List.set_cons_zero, List.set_cons_succ]
    refine wpAnyH_take (i := 10) (oi := ⟨some 25, .call ⟨.value (.func 10), #[.tmp 24], #[22]⟩, _, _, _, _⟩) (v := undef) rfl (by kernel_rfl) (by kernel_rfl) (by kernel_rfl) (fun _ _ _ h => h) (Or.inr ⟨by rfl, rfl⟩) (by assumption) ?_
    try simp only [Act.put, List.setIfInBounds_toArray, List.set_cons_zero, List.set_cons_succ]
    refine wpAnyH_take (i := 12) (oi := ⟨some 27, .call ⟨.value (.func 10), #[.tmp 26], #[22]⟩, _, _, _, _⟩) (v := undef) rfl (by kernel_rfl) (by kernel_rfl) (by kernel_rfl) (fun _ _ _ h => h) (Or.inr ⟨by rfl, rfl⟩) (by assumption) ?_
    try simp only [Act.put, List.setIfInBounds_toArray, List.set_cons_zero, List.set_cons_succ]
    refine wpAnyH_take (i := 13) (oi := ⟨some 28, .binOp .eql 25 (.tmp 25) (.tmp 27) 25, _, _, _, _⟩) (v := undef) rfl (by kernel_rfl) (by kernel_rfl) (by kernel_rfl) (fun _ _ _ h => h) (Or.inr ⟨by rfl, rfl⟩) (by assumption) ?_
    try simp only [Act.put, List.setIfInBounds_toArray, List.set_cons_zero, List.set_cons_succ]
    refine wpAnyH_take (i := 14) (oi := ⟨some 29, .pick (.tmp 23) (.tmp 28) (.const (.bool false)), _, _, _, _⟩) (v := ?_) rfl (by kernel_rfl) (by kernel_rfl) (by kernel_rfl) (fun _ _ _ h => h) (Or.inl ⟨by rfl, ?_⟩) (by assumption) ?_
    rotate_left
    · intro w' hSw
      go_simp
      try with_reducible rfl
    try simp only [Act.put, List.setIfInBounds_toArray, List.set_cons_zero, List.set_cons_succ]
    refine wpAnyH_take (i := 15) (oi := ⟨some 30, .binOp .eql 4 (.tmp 17) (.tmp 29) 4, _, _, _, _⟩) (v := ?_) rfl (by kernel_rfl) (by kernel_rfl) (by kernel_rfl) (fun _ _ _ h => h) (Or.inl ⟨by rfl, ?_⟩) (by assumption) ?_
    rotate_left
    · intro w' hSw
      go_simp
      try with_reducible rfl
    try simp only [Act.put, List.setIfInBounds_toArray, List.set_cons_zero, List.set_cons_succ]
    refine wpAnyH_take (i := 16) (oi := ⟨some 31, .move (.tmp 30), _, _, _, _⟩) (v := ?_) rfl (by kernel_rfl) (by kernel_rfl) (by kernel_rfl) (fun _ _ _ h => h) (Or.inl ⟨by rfl, ?_⟩) (by assumption) ?_
    rotate_left
    · intro w' hSw
      go_simp
      try with_reducible rfl
    try simp only [Act.put, List.setIfInBounds_toArray, List.set_cons_zero, List.set_cons_succ]
    refine wpAnyH_take (i := 17) (oi := ⟨some 32, .move (.tmp 0), _, _, _, _⟩) (v := ?_) rfl (by kernel_rfl) (by kernel_rfl) (by kernel_rfl) (fun _ _ _ h => h) (Or.inl ⟨by rfl, ?_⟩) (by assumption) ?_
    rotate_left
    · intro w' hSw
      go_simp
      try with_reducible rfl
    try simp only [Act.put, List.setIfInBounds_toArray, List.set_cons_zero, List.set_cons_succ]
    refine wpAnyH_take (i := 18) (oi := ⟨some 33, .move (.tmp 0), _, _, _, _⟩) (v := ?_) rfl (by kernel_rfl) (by kernel_rfl) (by kernel_rfl) (fun _ _ _ h => h) (Or.inl ⟨by rfl, ?_⟩) (by assumption) ?_
    rotate_left
    · intro w' hSw
      go_simp
      try with_reducible rfl
    try simp only [Act.put, List.setIfInBounds_toArray, List.set_cons_zero, List.set_cons_succ]
    refine wpAnyH_ready (rs := [19]) (by kernel_rfl) (by simp) ?_
    refine AllReadyH.cons (o := ⟨some 34, .call ⟨.value (.func 20), #[.tmp 32, .tmp 33], #[22, 22]⟩, _, _, _, _⟩) rfl (fun K hK => ?_) AllReadyH.nil
    go_simp
    refine (same_cs hcs5 hla).mono ?_
    rintro _ w6 ⟨rfl, hcs6⟩
    try go_wp2_with fail
    refine hK.out _ _ hcs6 (fun hHeld => ?_)
    clear hK K
    try simp only [Act.put, List.setIfInBounds_toArray, List.set_cons_zero, List.set_cons_succ]
    refine wpAnyH_take (i := 20) (oi := ⟨some 35, .unOp .not 4 (.tmp 34), _, _, _, _⟩) (v := ?_) rfl (by kernel_rfl) (by kernel_rfl) (by kernel_rfl) (fun _ _ _ h => h) (Or.inl ⟨by rfl, ?_⟩) (by assumption) ?_
    rotate_left
    · intro w' hSw
      go_simp
      try with_reducible rfl
    try simp only [Act.put, List.setIfInBounds_toArray, List.set_cons_zero, List.set_cons_succ]
    refine wpAnyH_take (i := 21) (oi := ⟨some 36, .pick (.tmp 31) (.tmp 35) (.const (.bool false)), _, _, _, _⟩) (v := ?_) rfl (by kernel_rfl) (by kernel_rfl) (by kernel_rfl) (fun _ _ _ h => h) (Or.inl ⟨by rfl, ?_⟩) (by assumption) ?_
    rotate_left
    · intro w' hSw
      go_simp
      try with_reducible rfl
    try simp only [Act.put, List.setIfInBounds_toArray, List.set_cons_zero, List.set_cons_succ]
    refine wpAnyH_take (i := 22) (oi := ⟨some 4, .assign (.tmp 36), _, _, _, _⟩) (v := ?_) rfl (by kernel_rfl) (by kernel_rfl) (by kernel_rfl) (fun _ _ _ h => h) (Or.inl ⟨by rfl, ?_⟩) (by assumption) ?_
    rotate_left
    · intro w' hSw
      go_simp
      try with_reducible rfl
    try simp only [Act.put, List.setIfInBounds_toArray, List.set_cons_zero, List.set_cons_succ]
    refine wpAnyH_done (by kernel_rfl) ?_ _
    go_wp2_with fail
    go_ret
    exact ⟨rfl, hcs6.low⟩
end Go.Proofs.Ytgdipdmpmaemjaa
