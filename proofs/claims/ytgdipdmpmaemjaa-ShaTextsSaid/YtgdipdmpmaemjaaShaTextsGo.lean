/- The walk of ShaTexts, as far as the texts are looked at. -/
import Derived.Test.YtgdipdmpmaemjaaShaTextsLaw
import Derived.Deep.QuietTactic
import Derived.BigQuiet
import Derived.Shelf.Bytes.SlSmallAll
import Derived.Deep.DeepCutAuto
namespace Go.Proofs.Ytgdipdmpmaemjaa
open Go.RowKit

theorem alike_false {a b : Nat} {L M : List (List Nat)} {k : Nat} (hk : k < L.length) (h : alike a b L M k = false) : alike a b L M (k + 1) = false := by
  by_cases hm : L.length = M.length
  · rw [alike_step a b L M k hk hm, h]; rfl
  · unfold alike; rw [decide_eq_false hm, Bool.and_false, Bool.false_and]
theorem alike_len {a b : Nat} {L M : List (List Nat)} {k : Nat} (h : alike a b L M k = true) : L.length = M.length := by
  unfold alike at h
  simp at h
  exact h.1.2
theorem flat_small : ∀ (L : List (List Nat)), (∀ t ∈ L, t.length ≤ 100) → (L.flatMap part).length ≤ 108 * L.length
  | [], _ => by simp
  | t :: L, h => by
    have h1 := h t (by simp)
    have h2 := flat_small L (fun x hx => h x (by simp [hx]))
    rw [List.flatMap_cons, List.length_append, part_length, List.length_cons]
    omega
theorem small_mem {L : List (List Nat)} (h : ∀ j, j < L.length → (L.getD j []).length ≤ 100) : ∀ t ∈ L, t.length ≤ 100 := by
  intro t ht
  obtain ⟨i, hi, rfl⟩ := List.mem_iff_getElem.1 ht
  have := h i hi
  rwa [List.getD_eq_getElem?_getD, List.getElem?_eq_getElem hi] at this
theorem tot_small {L : List (List Nat)} (h : ∀ j, j < L.length → (L.getD j []).length ≤ 100) : tot L ≤ 108 * L.length + 1 := by
  have := flat_small L (small_mem h)
  simp only [tot, pre, List.length_cons]
  omega
def Small (L : List (List Nat)) (k : Nat) : Prop := ∀ j, j < k → (L.getD j []).length ≤ 100
theorem Small.step {L : List (List Nat)} {k : Nat} (h : Small L k) (hk : (L.getD k []).length ≤ 100) : Small L (k + 1) := fun j hj => by
  rcases Nat.lt_or_ge j k with h1 | h1
  · exact h j h1
  · obtain rfl : j = k := by omega
    exact hk
def T1Rel (w : World) (a b len : Nat) (L M : List (List Nat)) (s i : Value) (wr : World) : Prop :=
  ∃ k : Nat, k ≤ len ∧ i = .int .i64 k ∧ s = .bool (alike a b L M k) ∧ Small L k ∧ Below w.heap.size w wr
def T2Rel (w : World) (len : Nat) (M : List (List Nat)) (i : Value) (wr : World) : Prop :=
  ∃ k : Nat, k ≤ len ∧ i = .int .i64 k ∧ Small M k ∧ Below w.heap.size w wr
theorem pre_ok {a : Nat} (ha : a < 256) {L : List (List Nat)} (h : ∀ t ∈ L, Sm.allB t) : Sm.allB (pre a L) := by
  intro x hx
  simp only [pre, List.mem_cons, List.mem_flatMap, part, List.mem_append] at hx
  rcases hx with rfl | ⟨t, ht, h1 | h1⟩
  · exact ha
  · exact bigs_all _ x h1
  · exact h t ht x h1
theorem texts_ok {w : World} {p : Option Addr} {len cap : Nat} {L : List (List Nat)} (h : Texts w p len cap L) : ∀ t ∈ L, Sm.allB t := by
  intro t ht
  obtain ⟨g, o, _, hx⟩ := h.at' (List.ne_nil_of_mem ht)
  obtain ⟨i, hi, rfl⟩ := List.mem_iff_getElem.1 ht
  obtain ⟨q, n, c, _, h2⟩ := hx i hi
  have := h2.ok
  rwa [List.getD_eq_getElem?_getD, List.getElem?_eq_getElem hi] at this
structure TT (w : World) (qp : Option Addr) (np cp : Nat) (P : List Nat) (qq : Option Addr) (nq cq : Nat) (Q : List Nat) (wr : World) : Prop where
  below : Below w.heap.size w wr
  tp : Tx wr qp np cp P
  tq : Tx wr qq nq cq Q
theorem TT.later {w : World} {qp : Option Addr} {np cp : Nat} {P : List Nat} {qq : Option Addr} {nq cq : Nat} {Q : List Nat} {wr w' : World} (h : TT w qp np cp P qq nq cq Q wr) (hb : Below wr.heap.size wr w') : TT w qp np cp P qq nq cq Q w' :=
  ⟨h.below.trans (hb.mono h.below.size), h.tp.later hb, h.tq.later hb⟩
theorem TT.bytes {w : World} {qp : Option Addr} {np cp : Nat} {P : List Nat} {qq : Option Addr} {nq cq : Nat} {Q : List Nat} {wr : World} (h : TT w qp np cp P qq nq cq Q wr) : Bytes wr qp np cp P := h.tp.bytes
/-- What is asked of the worlds may grow on the way. -/
theorem wpAnyH_mono {P : Program} {md : Region.Mode} {ops : Array Oper} {Q : Exit → Act → World → Prop} {S S' : World → Prop} (h : ∀ w, S' w → S w) : ∀ (fuel : Nat) (listed : Array Bool) (a : Act) (w : World), wpAnyH P md ops Q S' fuel listed a w → wpAnyH P md ops Q S fuel listed a w
  | 0, _, _, _, k => k
  | fuel + 1, _, _, _, k => ⟨k.1, fun i hi => wpOp_mono (fun a' w' h' => ⟨h _ h'.1, wpAnyH_mono h fuel _ a' w' h'.2⟩) (k.2 i hi)⟩
set_option maxRecDepth 100000 in
set_option maxHeartbeats 4000000 in
theorem texts_any (a b : Nat) (ha : a < 256) (hb : b < 256) (L M : List (List Nat)) (p q : Option Addr) (len cap len2 cap2 : Nat) (w : World) (hL : Texts w p len cap L) (hM : Texts w q len2 cap2 M)
    (hl : len ≤ 9223372036854775807) (hm : len2 ≤ 9223372036854775807) :
    Calls Try.prog 6 #[.int .u8 a, .int .u8 b, .slice p len cap, .slice q len2 cap2] w fun e w' => e = .returned (.bool true) ∧ Below w.heap.size w w' := by
  have HL := Lib.hid hL
  have HM := Lib.hid hM
  clear hL hM
  go_enter Try.func6, Try.ntmps6
  go_wp2_with fail
  refine (alive_any w).mono ?_
  rintro _ w0 ⟨rfl, hb0⟩
  have HB0 := Lib.hid hb0
  clear hb0
  by_cases h20 : 20 < len
  · have b1 : (20 : Int) < len := by omega
    go_wp2_with fail
    go_ret
    exact ⟨rfl, HB0.out⟩
  by_cases h21 : 20 < len2
  · have b1 : ¬ (20 : Int) < len := by omega
    have b2 : (20 : Int) < len2 := by omega
    go_wp2_with fail
    go_ret
    exact ⟨rfl, HB0.out⟩
  have b1 : ¬ (20 : Int) < len := by omega
  have b2 : ¬ (20 : Int) < len2 := by omega
  obtain ⟨X, hX⟩ : ∃ X, X = decide (a = b) := ⟨_, rfl⟩
  obtain ⟨Y, hY⟩ : ∃ Y, Y = decide (len = len2) := ⟨_, rfl⟩
  have eX : ((a : Int) == (b : Int)) = X := by rw [hX, Bool.eq_iff_iff, beq_iff_eq, decide_eq_true_iff]; omega
  have eY : ((len : Int) == (len2 : Int)) = Y := by rw [hY, Bool.eq_iff_iff, beq_iff_eq, decide_eq_true_iff]; omega
  have e0 : alike a b L M 0 = (X && Y) := by rw [alike_zero, hX, hY, ← HL.out.size, ← HM.out.size]
  have E0 := Lib.hid e0
  clear hX hY e0 h20 h21
  go_upto_region 5 with fail
  go_cut [9] (fun s9 wx => s9 = .bool (X && Y) ∧ w0 = wx)
  case first =>
    cases X <;> cases Y
    all_goals (go_wp2_with fail; go_meet; exact ⟨rfl, rfl⟩)
  case rest =>
  obtain ⟨hs9, rfl⟩ := hcut
  rw [← E0.out] at hs9
  subst hs9
  clear eX eY E0
  go_wp2_with fail
  go_loopw [9, 10] (fun s i wr => T1Rel w a b len L M s i wr) (fun _ i _ => len - (intOf i).toNat)
  case atStart => exact ⟨0, by omega, rfl, rfl, fun j hj => absurd hj (by omega), HB0.out⟩
  case round =>
    obtain ⟨k, hk, rfl, rfl, hsm, hbr⟩ := hrel
    have HSM := Lib.hid hsm
    have HB := Lib.hid hbr
    clear hsm hbr
    by_cases hlt : k < len
    · obtain ⟨g, o, hp, hx⟩ := HL.out.at' (by intro e; have := HL.out.size; rw [e] at this; simp at this; omega)
      obtain ⟨q1, n1, c1, h1, h2⟩ := hx k (by have := HL.out.size; omega)
      subst hp
      have hcell : wr.cell? ⟨g, o + k, none⟩ = some (.slice q1 n1 c1) := (HB.out.cell (p := ⟨g, o + k, none⟩) (block_lt_of_cell h1)).trans h1
      have hn1 : n1 = (L.getD k []).length := h2.size
      have HT1 := Lib.hid (h2.later HB.out)
      have HN1 := Lib.hid hn1
      have hle := HL.out.le
      clear hx h1 h2 hn1
      by_cases h100 : 100 < n1
      · have d1 : (100 : Int) < n1 := by omega
        go_wp2_with fail
        go_ret
        exact ⟨rfl, HB.out⟩
      have d1 : ¬ (100 : Int) < n1 := by omega
      by_cases hk2 : k < len2
      · have d2 : (k : Int) < len2 := by omega
        obtain ⟨g2, o2, hp2, hx2⟩ := HM.out.at' (by intro e; have := HM.out.size; rw [e] at this; simp at this; omega)
        obtain ⟨q2, n2, c2, h1, h2⟩ := hx2 k (by have := HM.out.size; omega)
        subst hp2
        have hcell2 : wr.cell? ⟨g2, o2 + k, none⟩ = some (.slice q2 n2 c2) := (HB.out.cell (p := ⟨g2, o2 + k, none⟩) (block_lt_of_cell h1)).trans h1
        have HT2 := Lib.hid (h2.later HB.out)
        have HN2 := Lib.hid h2.size
        have hle2 := HM.out.le
        clear hx2 h1 h2
        by_cases h101 : 100 < n2
        · have d3 : (100 : Int) < n2 := by omega
          go_wp2_with fail
          go_ret
          exact ⟨rfl, HB.out⟩
        have d3 : ¬ (100 : Int) < n2 := by omega
        cases hal : alike a b L M k
        · have hal2 := alike_false (by have := HL.out.size; omega) hal
          have HAL := Lib.hid hal2
          clear hal2
          go_wp2_with fail
          go_quiet (fail)
          go_wp2_with fail
          go_roundw
          case rel => exact ⟨k + 1, by omega, by go_num, by rw [HAL.out], HSM.out.step (by have := HN1.out; omega), ⟨HB.out.os, HB.out.tape, HB.out.output, HB.out.size, HB.out.block⟩⟩
          case measure => simp [intOf]; omega
        · have hal2 := alike_step a b L M k (by have := HL.out.size; omega) (alike_len hal)
          rw [hal, Bool.true_and] at hal2
          have HAL := Lib.hid hal2
          have hcv1 : ∀ n', (convert 22 9 (.slice q1 n1 c1)).run Try.prog (World.drewN wr n') = .ok (.string (strOf (L.getD k []))) (World.drewN wr n') := fun n' => convert_tx (HT1.out.heap rfl)
          have hcv2 : ∀ n', (convert 22 9 (.slice q2 n2 c2)).run Try.prog (World.drewN wr n') = .ok (.string (strOf (M.getD k []))) (World.drewN wr n') := fun n' => convert_tx (HT2.out.heap rfl)
          have hse := str_eq HT1.out.ok HT2.out.ok
          obtain ⟨E, hE⟩ : ∃ E, E = decide (L.getD k [] = M.getD k []) := ⟨_, rfl⟩
          rw [← hE] at hse
          have HE := Lib.hid hE
          clear hal2 hE
          generalize strOf (L.getD k []) = s1 at *
          generalize strOf (M.getD k []) = s2 at *
          cases E
          all_goals
            go_wp2_with fail
            go_quiet (fail)
            go_wp2_with fail
            go_roundw
            case rel => exact ⟨k + 1, by omega, by go_num, by rw [HAL.out, ← HE.out], HSM.out.step (by have := HN1.out; omega), ⟨HB.out.os, HB.out.tape, HB.out.output, HB.out.size, HB.out.block⟩⟩
            case measure => simp [intOf]; omega
      · have d2 : ¬ (k : Int) < len2 := by omega
        have hal : alike a b L M k = false := by
          unfold alike
          rw [decide_eq_false (p := L.length = M.length) (by have := HL.out.size; have := HM.out.size; omega), Bool.and_false, Bool.false_and]
        have hal2 := alike_false (by have := HL.out.size; omega) hal
        have HAL := Lib.hid hal2
        clear hal2
        go_wp2_with fail
        go_quiet (fail)
        go_wp2_with fail
        go_roundw
        case rel => exact ⟨k + 1, by omega, by go_num, by rw [HAL.out], HSM.out.step (by have := HN1.out; omega), ⟨HB.out.os, HB.out.tape, HB.out.output, HB.out.size, HB.out.block⟩⟩
        case measure => simp [intOf]; omega
    · obtain rfl : k = len := by omega
      clear hlt
      go_wp2_with fail
      go_loopw [11] (fun i wr => T2Rel w len2 M i wr) (fun i _ => len2 - (intOf i).toNat)
      case atStart => exact ⟨0, by omega, rfl, fun j hj => absurd hj (by omega), HB.out⟩
      case round =>
        obtain ⟨j, hj, rfl, hsm2, hbr⟩ := hrel
        have HSM2 := Lib.hid hsm2
        have HB2 := Lib.hid hbr
        clear hsm2 hbr
        by_cases hlt : j < len2
        · obtain ⟨g2, o2, hp2, hx2⟩ := HM.out.at' (by intro e; have := HM.out.size; rw [e] at this; simp at this; omega)
          obtain ⟨q2, n2, c2, h1, h2⟩ := hx2 j (by have := HM.out.size; omega)
          subst hp2
          have hcell2 : wr.cell? ⟨g2, o2 + j, none⟩ = some (.slice q2 n2 c2) := (HB2.out.cell (p := ⟨g2, o2 + j, none⟩) (block_lt_of_cell h1)).trans h1
          have HN2 := Lib.hid h2.size
          have hle2 := HM.out.le
          clear hx2 h1 h2
          by_cases h101 : 100 < n2
          · have d3 : (100 : Int) < n2 := by omega
            go_wp2_with fail
            go_ret
            exact ⟨rfl, HB2.out⟩
          have d3 : ¬ (100 : Int) < n2 := by omega
          go_wp2_with fail
          go_roundw
          case rel => exact ⟨j + 1, by omega, by go_num, HSM2.out.step (by have := HN2.out; omega), HB2.out⟩
          case measure => simp [intOf]; omega
        · obtain rfl : j = len2 := by omega
          clear hlt
          have htL : tot L < 1099511627776 := by
            have h1 := tot_small (L := L) (fun i hi => HSM.out i (by have := HL.out.size; omega))
            have := HL.out.size
            omega
          have htM : tot M < 1099511627776 := by
            have h1 := tot_small (L := M) (fun i hi => HSM2.out i (by have := HM.out.size; omega))
            have := HM.out.size
            omega
          have hZZ : alike a b L M L.length = decide (pre a L = pre b M) := by
            rw [alike_all]
            exact decide_eq_decide.2 (pre_inj (fun t ht => Nat.lt_of_le_of_lt (small_mem (fun i hi => HSM.out i (by have := HL.out.size; omega)) t ht) (by omega)) (fun t ht => Nat.lt_of_le_of_lt (small_mem (fun i hi => HSM2.out i (by have := HM.out.size; omega)) t ht) (by omega))).symm
          obtain ⟨Z, hZ⟩ : ∃ Z, Z = decide (pre a L = pre b M) := ⟨_, rfl⟩
          rw [← hZ, ← HL.out.size] at hZZ
          rw [hZZ]
          have HZ := Lib.hid hZ
          clear hZ hZZ
          have HTL := Lib.hid htL
          have HTM := Lib.hid htM
          clear htL htM
          go_wp2_with fail
          refine (pre_any a ha L _ _ cap _ (HL.out.later (HB2.out.mono (by omega))) HTL.out).mono ?_
          rintro _ w3 ⟨qp, np, cp, rfl, ho3, hb3⟩
          have HO3 := Lib.hid ho3
          have HB3 := Lib.hid hb3
          clear ho3 hb3
          go_wp2_with fail
          have hBw3 : Below w.heap.size w w3 := HB2.out.trans (HB3.out.mono HB2.out.size)
          refine (pre_any b hb M _ _ cap2 _ (HM.out.later hBw3) HTM.out).mono ?_
          rintro _ w4 ⟨qq, nq, cq, rfl, ho4, hb4⟩
          have HO4 := Lib.hid ho4
          have HB4 := Lib.hid hb4
          clear ho4 hb4
          go_wp2_with fail
          have ho4 := HO4.out
          have hb4 := HB4.out
          have hTp := (tx_of_owns HO3.out (pre_ok ha (fun t ht => texts_ok HL.out t ht))).later hb4
          have hTq := tx_of_owns ho4 (pre_ok hb (fun t ht => texts_ok HM.out t ht))
          have hBw4 : Below w.heap.size w w4 := hBw3.trans (hb4.mono hBw3.size)
          obtain ⟨P, hP⟩ : ∃ P, P = pre a L := ⟨_, rfl⟩
          obtain ⟨Q', hQ⟩ : ∃ Q', Q' = pre b M := ⟨_, rfl⟩
          have hPl : P.length < 576460752303423488 := by rw [hP, pre_length]; have := HTL.out; omega
          rw [← hP] at hTp HZ
          rw [← hQ] at hTq HZ
          have hTT : TT w qp np cp P qq nq cq Q' w4 := ⟨hBw4, hTp, hTq⟩
          have hPok := hTp.ok
          have hQok := hTq.ok
          have hT0 : TT w qp np cp P qq nq cq Q' w4.drew := ⟨⟨hBw4.os, hBw4.tape, hBw4.output, hBw4.size, hBw4.block⟩, hTp.heap rfl, hTq.heap rfl⟩
          have hcp : ∀ w', TT w qp np cp P qq nq cq Q' w' → (convert 22 9 (.slice qp np cp)).run Try.prog w' = .ok (.string (strOf P)) w' := fun w' h => convert_tx h.tp
          have hcq : ∀ w', TT w qp np cp P qq nq cq Q' w' → (convert 22 9 (.slice qq nq cq)).run Try.prog w' = .ok (.string (strOf Q')) w' := fun w' h => convert_tx h.tq
          have hdig : ∀ w', (binOp .eql 25 (.agg (u8s (Sm.sum P))) (.agg (u8s (Sm.sum P)))).run Try.prog w' = .ok (.bool true) w' := fun w' => by rw [digest_eql _ _ (sum_len P) (sum_len P)]; simp
          have hse := str_eq hPok hQok
          rw [← HZ.out] at hse
          have HP := Lib.hid hP
          clear hBw3 hb4 ho4 hTp hTq hBw4 hTT hP hQ hPok hQok HB HB0 HB2 HB3 HO3
          generalize strOf Q' = sq at *
          cases Z
          all_goals
            refine wp_region_held_drew (S := fun w' => TT w qp np cp P qq nq cq Q' w') (by kernel_rfl) hT0 (fun hHeld => ?_)
            refine wpAnyH_take (i := 0) (oi := ⟨some 98, .move (.tmp 12), _, _, _, _⟩) (v := ?_) rfl (by kernel_rfl) (by kernel_rfl) (by kernel_rfl) (fun _ _ _ h => h) (Or.inl ⟨by rfl, ?_⟩) (by assumption) ?_
            rotate_left
            · intro w' hSw
              go_simp
              try with_reducible rfl
            try simp only [Act.put, List.setIfInBounds_toArray, List.set_cons_zero, List.set_cons_succ]
            refine wpAnyH_take (i := 1) (oi := ⟨some 99, .convert 22 9 (.tmp 98), _, _, _, _⟩) (v := ?_) rfl (by kernel_rfl) (by kernel_rfl) (by kernel_rfl) (fun _ _ _ h => h) (Or.inl ⟨by rfl, ?_⟩) (by assumption) ?_
            rotate_left
            · intro w' hSw
              go_simp
              try with_reducible rfl
            try simp only [Act.put, List.setIfInBounds_toArray, List.set_cons_zero, List.set_cons_succ]
            refine wpAnyH_take (i := 2) (oi := ⟨some 100, .move (.tmp 0), _, _, _, _⟩) (v := ?_) rfl (by kernel_rfl) (by kernel_rfl) (by kernel_rfl) (fun _ _ _ h => h) (Or.inl ⟨by rfl, ?_⟩) (by assumption) ?_
            rotate_left
            · intro w' hSw
              go_simp
              try with_reducible rfl
            try simp only [Act.put, List.setIfInBounds_toArray, List.set_cons_zero, List.set_cons_succ]
            refine wpAnyH_take (i := 3) (oi := ⟨some 101, .move (.tmp 2), _, _, _, _⟩) (v := ?_) rfl (by kernel_rfl) (by kernel_rfl) (by kernel_rfl) (fun _ _ _ h => h) (Or.inl ⟨by rfl, ?_⟩) (by assumption) ?_
            rotate_left
            · intro w' hSw
              go_simp
              try with_reducible rfl
            try simp only [Act.put, List.setIfInBounds_toArray, List.set_cons_zero, List.set_cons_succ]
            refine wpAnyH_ready (rs := [4]) (by kernel_rfl) (by simp) ?_
            refine AllReadyH.cons (o := ⟨some 102, .call ⟨.value (.func 18), #[.tmp 100, .tmp 101], #[5, 28]⟩, _, _, _, _⟩) rfl (fun K hK => ?_) AllReadyH.nil
            go_simp
            refine (refpre_any a ha L _ _ cap _ (HL.out.later hHeld.below) HTL.out).mono ?_
            rintro _ w5 ⟨q5, n5, c5, rfl, ho5, hb5⟩
            have ht5 := hHeld.later hb5
            have hx5 := tx_of_owns ho5 (pre_ok ha (fun t ht => texts_ok HL.out t ht))
            rw [← HP.out] at hx5
            clear ho5 hb5
            try go_wp2_with fail
            refine hK.out _ _ ht5 (fun hHeld => ?_)
            clear hK K
            try simp only [Act.put, List.setIfInBounds_toArray, List.set_cons_zero, List.set_cons_succ]
            refine wpAnyH_mono (S' := fun w' => TT w qp np cp P qq nq cq Q' w' ∧ Tx w' q5 n5 c5 P) (fun _ h => h.1) _ _ _ _ ?_
            have hHeld2 : TT w qp np cp P qq nq cq Q' w5 ∧ Tx w5 q5 n5 c5 P := ⟨ht5, hx5⟩
            have hc5 : ∀ w', Tx w' q5 n5 c5 P → (convert 22 9 (.slice q5 n5 c5)).run Try.prog w' = .ok (.string (strOf P)) w' := fun w' h => convert_tx h
            refine wpAnyH_take (i := 5) (oi := ⟨some 103, .convert 22 9 (.tmp 102), _, _, _, _⟩) (v := ?_) rfl (by kernel_rfl) (by kernel_rfl) (by kernel_rfl) (fun _ _ _ h => h) (Or.inl ⟨by rfl, ?_⟩) (by assumption) ?_
            rotate_left
            · intro w' hSw
              obtain ⟨hS1, hS2⟩ := hSw
              go_simp
              try with_reducible rfl
            try simp only [Act.put, List.setIfInBounds_toArray, List.set_cons_zero, List.set_cons_succ]
            refine wpAnyH_take (i := 6) (oi := ⟨some 104, .binOp .eql 9 (.tmp 99) (.tmp 103) 9, _, _, _, _⟩) (v := ?_) rfl (by kernel_rfl) (by kernel_rfl) (by kernel_rfl) (fun _ _ _ h => h) (Or.inl ⟨by rfl, ?_⟩) (by assumption) ?_
            rotate_left
            · intro w' hSw
              obtain ⟨hS1, hS2⟩ := hSw
              go_simp
              try with_reducible rfl
            try simp only [Act.put, List.setIfInBounds_toArray, List.set_cons_zero, List.set_cons_succ]
            refine wpAnyH_take (i := 7) (oi := ⟨some 105, .move (.tmp 104), _, _, _, _⟩) (v := ?_) rfl (by kernel_rfl) (by kernel_rfl) (by kernel_rfl) (fun _ _ _ h => h) (Or.inl ⟨by rfl, ?_⟩) (by assumption) ?_
            rotate_left
            · intro w' hSw
              obtain ⟨hS1, hS2⟩ := hSw
              go_simp
              try with_reducible rfl
            try simp only [Act.put, List.setIfInBounds_toArray, List.set_cons_zero, List.set_cons_succ]
            refine wpAnyH_take (i := 8) (oi := ⟨some 106, .move (.tmp 0), _, _, _, _⟩) (v := ?_) rfl (by kernel_rfl) (by kernel_rfl) (by kernel_rfl) (fun _ _ _ h => h) (Or.inl ⟨by rfl, ?_⟩) (by assumption) ?_
            rotate_left
            · intro w' hSw
              obtain ⟨hS1, hS2⟩ := hSw
              go_simp
              try with_reducible rfl
            try simp only [Act.put, List.setIfInBounds_toArray, List.set_cons_zero, List.set_cons_succ]
            refine wpAnyH_take (i := 9) (oi := ⟨some 107, .move (.tmp 2), _, _, _, _⟩) (v := ?_) rfl (by kernel_rfl) (by kernel_rfl) (by kernel_rfl) (fun _ _ _ h => h) (Or.inl ⟨by rfl, ?_⟩) (by assumption) ?_
            rotate_left
            · intro w' hSw
              obtain ⟨hS1, hS2⟩ := hSw
              go_simp
              try with_reducible rfl
            try simp only [Act.put, List.setIfInBounds_toArray, List.set_cons_zero, List.set_cons_succ]
            refine wpAnyH_take (i := 11) (oi := ⟨some 109, .move (.tmp 12), _, _, _, _⟩) (v := ?_) rfl (by kernel_rfl) (by kernel_rfl) (by kernel_rfl) (fun _ _ _ h => h) (Or.inl ⟨by rfl, ?_⟩) (by assumption) ?_
            rotate_left
            · intro w' hSw
              obtain ⟨hS1, hS2⟩ := hSw
              go_simp
              try with_reducible rfl
            try simp only [Act.put, List.setIfInBounds_toArray, List.set_cons_zero, List.set_cons_succ]
            refine wpAnyH_ready (rs := [10]) (by kernel_rfl) (by simp) ?_
            refine AllReadyH.cons (o := ⟨some 108, .call ⟨.value (.func 19), #[.tmp 106, .tmp 107], #[5, 28]⟩, _, _, _, _⟩) rfl (fun K hK => ?_) AllReadyH.nil
            go_simp
            refine (hash_any a ha L _ _ cap _ (HL.out.later hHeld2.1.below) HTL.out).mono ?_
            rintro _ w6 ⟨rfl, hb6⟩
            rw [← HP.out]
            have ht6 := hHeld2.1.later hb6
            have hx6 := hHeld2.2.later hb6
            clear hb6
            try go_wp2_with fail
            refine hK.out _ _ ⟨ht6, hx6⟩ (fun hHeld => ?_)
            clear hK K
            try simp only [Act.put, List.setIfInBounds_toArray, List.set_cons_zero, List.set_cons_succ]
            refine wpAnyH_ready (rs := [12]) (by kernel_rfl) (by simp) ?_
            refine AllReadyH.cons (o := ⟨some 110, .call ⟨.value (.func 9), #[.tmp 109], #[22]⟩, _, _, _, _⟩) rfl (fun K hK => ?_) AllReadyH.nil
            go_simp
            refine (sum_any P qp np cp _ ht6.bytes hPl).mono ?_
            rintro _ w7 ⟨rfl, hb7⟩
            have ht7 := ht6.later hb7
            have hx7 := hx6.later hb7
            clear hb7
            try go_wp2_with fail
            refine hK.out _ _ ⟨ht7, hx7⟩ (fun hHeld => ?_)
            clear hK K
            try simp only [Act.put, List.setIfInBounds_toArray, List.set_cons_zero, List.set_cons_succ]
            refine wpAnyH_take (i := 13) (oi := ⟨some 111, .binOp .eql 25 (.tmp 108) (.tmp 110) 25, _, _, _, _⟩) (v := ?_) rfl (by kernel_rfl) (by kernel_rfl) (by kernel_rfl) (fun _ _ _ h => h) (Or.inl ⟨by rfl, ?_⟩) (by assumption) ?_
            rotate_left
            · intro w' hSw
              obtain ⟨hS1, hS2⟩ := hSw
              go_simp
              try with_reducible rfl
            try simp only [Act.put, List.setIfInBounds_toArray, List.set_cons_zero, List.set_cons_succ]
            refine wpAnyH_take (i := 14) (oi := ⟨some 112, .pick (.tmp 105) (.tmp 111) (.const (.bool false)), _, _, _, _⟩) (v := ?_) rfl (by kernel_rfl) (by kernel_rfl) (by kernel_rfl) (fun _ _ _ h => h) (Or.inl ⟨by rfl, ?_⟩) (by assumption) ?_
            rotate_left
            · intro w' hSw
              obtain ⟨hS1, hS2⟩ := hSw
              go_simp
              try with_reducible rfl
            try simp only [Act.put, List.setIfInBounds_toArray, List.set_cons_zero, List.set_cons_succ]
            refine wpAnyH_take (i := 15) (oi := ⟨some 113, .move (.tmp 112), _, _, _, _⟩) (v := ?_) rfl (by kernel_rfl) (by kernel_rfl) (by kernel_rfl) (fun _ _ _ h => h) (Or.inl ⟨by rfl, ?_⟩) (by assumption) ?_
            rotate_left
            · intro w' hSw
              obtain ⟨hS1, hS2⟩ := hSw
              go_simp
              try with_reducible rfl
            try simp only [Act.put, List.setIfInBounds_toArray, List.set_cons_zero, List.set_cons_succ]
            refine wpAnyH_take (i := 16) (oi := ⟨some 114, .move (.tmp 12), _, _, _, _⟩) (v := ?_) rfl (by kernel_rfl) (by kernel_rfl) (by kernel_rfl) (fun _ _ _ h => h) (Or.inl ⟨by rfl, ?_⟩) (by assumption) ?_
            rotate_left
            · intro w' hSw
              obtain ⟨hS1, hS2⟩ := hSw
              go_simp
              try with_reducible rfl
            try simp only [Act.put, List.setIfInBounds_toArray, List.set_cons_zero, List.set_cons_succ]
            refine wpAnyH_take (i := 17) (oi := ⟨some 115, .convert 22 9 (.tmp 114), _, _, _, _⟩) (v := ?_) rfl (by kernel_rfl) (by kernel_rfl) (by kernel_rfl) (fun _ _ _ h => h) (Or.inl ⟨by rfl, ?_⟩) (by assumption) ?_
            rotate_left
            · intro w' hSw
              obtain ⟨hS1, hS2⟩ := hSw
              go_simp
              try with_reducible rfl
            try simp only [Act.put, List.setIfInBounds_toArray, List.set_cons_zero, List.set_cons_succ]
            refine wpAnyH_take (i := 18) (oi := ⟨some 116, .move (.tmp 13), _, _, _, _⟩) (v := ?_) rfl (by kernel_rfl) (by kernel_rfl) (by kernel_rfl) (fun _ _ _ h => h) (Or.inl ⟨by rfl, ?_⟩) (by assumption) ?_
            rotate_left
            · intro w' hSw
              obtain ⟨hS1, hS2⟩ := hSw
              go_simp
              try with_reducible rfl
            try simp only [Act.put, List.setIfInBounds_toArray, List.set_cons_zero, List.set_cons_succ]
            refine wpAnyH_take (i := 19) (oi := ⟨some 117, .convert 22 9 (.tmp 116), _, _, _, _⟩) (v := ?_) rfl (by kernel_rfl) (by kernel_rfl) (by kernel_rfl) (fun _ _ _ h => h) (Or.inl ⟨by rfl, ?_⟩) (by assumption) ?_
            rotate_left
            · intro w' hSw
              obtain ⟨hS1, hS2⟩ := hSw
              go_simp
              try with_reducible rfl
            try simp only [Act.put, List.setIfInBounds_toArray, List.set_cons_zero, List.set_cons_succ]
            refine wpAnyH_take (i := 20) (oi := ⟨some 118, .binOp .eql 9 (.tmp 115) (.tmp 117) 9, _, _, _, _⟩) (v := ?_) rfl (by kernel_rfl) (by kernel_rfl) (by kernel_rfl) (fun _ _ _ h => h) (Or.inl ⟨by rfl, ?_⟩) (by assumption) ?_
            rotate_left
            · intro w' hSw
              obtain ⟨hS1, hS2⟩ := hSw
              go_simp
              try with_reducible rfl
            try simp only [Act.put, List.setIfInBounds_toArray, List.set_cons_zero, List.set_cons_succ]
            refine wpAnyH_take (i := 21) (oi := ⟨some 119, .move (.tmp 9), _, _, _, _⟩) (v := ?_) rfl (by kernel_rfl) (by kernel_rfl) (by kernel_rfl) (fun _ _ _ h => h) (Or.inl ⟨by rfl, ?_⟩) (by assumption) ?_
            rotate_left
            · intro w' hSw
              obtain ⟨hS1, hS2⟩ := hSw
              go_simp
              try with_reducible rfl
            try simp only [Act.put, List.setIfInBounds_toArray, List.set_cons_zero, List.set_cons_succ]
            refine wpAnyH_take (i := 22) (oi := ⟨some 120, .binOp .eql 4 (.tmp 118) (.tmp 119) 4, _, _, _, _⟩) (v := ?_) rfl (by kernel_rfl) (by kernel_rfl) (by kernel_rfl) (fun _ _ _ h => h) (Or.inl ⟨by rfl, ?_⟩) (by assumption) ?_
            rotate_left
            · intro w' hSw
              obtain ⟨hS1, hS2⟩ := hSw
              go_simp
              try with_reducible rfl
            try simp only [Act.put, List.setIfInBounds_toArray, List.set_cons_zero, List.set_cons_succ]
            refine wpAnyH_take (i := 23) (oi := ⟨some 121, .pick (.tmp 113) (.tmp 120) (.const (.bool false)), _, _, _, _⟩) (v := ?_) rfl (by kernel_rfl) (by kernel_rfl) (by kernel_rfl) (fun _ _ _ h => h) (Or.inl ⟨by rfl, ?_⟩) (by assumption) ?_
            rotate_left
            · intro w' hSw
              obtain ⟨hS1, hS2⟩ := hSw
              go_simp
              try with_reducible rfl
            try simp only [Act.put, List.setIfInBounds_toArray, List.set_cons_zero, List.set_cons_succ]
            refine wpAnyH_take (i := 24) (oi := ⟨some 8, .assign (.tmp 121), _, _, _, _⟩) (v := ?_) rfl (by kernel_rfl) (by kernel_rfl) (by kernel_rfl) (fun _ _ _ h => h) (Or.inl ⟨by rfl, ?_⟩) (by assumption) ?_
            rotate_left
            · intro w' hSw
              obtain ⟨hS1, hS2⟩ := hSw
              go_simp
              try with_reducible rfl
            try simp only [Act.put, List.setIfInBounds_toArray, List.set_cons_zero, List.set_cons_succ]
            refine wpAnyH_done (by kernel_rfl) ?_ _
            go_wp2_with fail
            go_ret
            exact ⟨rfl, ht7.below⟩
end Go.Proofs.Ytgdipdmpmaemjaa
