/- DistThird, walked. -/
import Derived.Test.YtfkemphkhfhabaaDistMath
namespace Go.Proofs.Ytfkemphkhfhabaa
open Go.RowKit

theorem btw_le (P Q : List Int) (n : Nat) (hn : n ≤ 8) (hP : ∀ k, k < n → -9223372036854775808 ≤ P.getD k 0 ∧ P.getD k 0 ≤ 9223372036854775807) (hQ : ∀ k, k < n → -9223372036854775808 ≤ Q.getD k 0 ∧ Q.getD k 0 ≤ 9223372036854775807) :
    0 ≤ tot (fun k => apart (P.getD k 0) (Q.getD k 0)) n ∧ tot (fun k => apart (P.getD k 0) (Q.getD k 0)) n ≤ 147573952589676412928 := by
  have h1 := tot_nonneg (fun k => apart (P.getD k 0) (Q.getD k 0)) n (fun k _ => apart_nonneg _ _)
  have h2 := tot_lt (fun k => apart (P.getD k 0) (Q.getD k 0)) n (fun k hk => (apart_word (hP k hk) (hQ k hk)).2)
  omega
def LoopRel (P Q : List Int) (n : Nat) (W : World) (s i : Value) (wr : World) : Prop := ∃ k j : Nat, k ≤ n ∧ i = .int .i64 k ∧ s = .bool (eqs P Q k) ∧ wr = W.drewN j
set_option maxRecDepth 100000 in
set_option maxHeartbeats 2000000 in
theorem third_any (p q r : Option Addr) (n c m d l e : Nat) (P Q R : List Int) (w : World) (hP : Ints w p n c P) (hQ : Ints w q m d Q) (hR : Ints w r l e R) (hl : l ≤ 9223372036854775807) (hn : n ≤ 9223372036854775807) :
    Calls Try.prog 5 #[.slice p n c, .slice q m d, .slice r l e] w fun x w' => x = .returned (.bool true) ∧ Below w.heap.size w w' := by
  have H1 := Lib.hid hP
  have H2 := Lib.hid hQ
  have H3 := Lib.hid hR
  clear hP hQ hR
  obtain ⟨a1, a0, hab⟩ := dV_two (btw P Q n m)
  obtain ⟨f1, hf1⟩ : ∃ f, f = btwE n m := ⟨_, rfl⟩
  have K1 : ∀ w, Ints w p n c P → Ints w q m d Q → Calls Try.prog 18 #[.slice p n c, .slice q m d] w fun x w' => x = .returned (.tuple #[.agg #[.int .u64 a1, .int .u64 a0], .int .i64 f1]) ∧ Below w.heap.size w w' := fun w h h2 => by
    have := between_any p q n c m d P Q w h h2
    rw [hab, ← hf1] at this
    exact this
  have HAB := Lib.hid hab
  have HF1 := Lib.hid hf1
  have K1 := Lib.hid K1
  clear hab hf1
  go_enter Try.func5, Try.ntmps5
  go_wp2_with fail
  refine (alive_any w).mono ?_
  rintro x w2 ⟨rfl, hb2⟩
  have B2 := Lib.hid hb2
  clear hb2
  go_wp2_with fail
  refine (K1.out w2 (H1.out.later B2.out) (H2.out.later B2.out)).mono ?_
  rintro x w3 ⟨rfl, hb3⟩
  have B3 := Lib.hid (B2.out.trans (hb3.mono B2.out.size))
  clear hb3 B2
  go_upto_region 4 with fail
  have t4 : Two (w3.alloc (.cells #[.int .u64 a1, .int .u64 a0] 25)) w3.heap.size (.int .u64 a1) (.int .u64 a0) := heap_alloc_new w3 _
  have hb4 : Below w3.heap.size w3 (w3.alloc (.cells #[.int .u64 a1, .int .u64 a0] 25)) := (Below.refl _ _).alloc (Nat.le_refl _) _
  generalize w3.alloc (.cells #[.int .u64 a1, .int .u64 a0] 25) = w4 at *
  have B4 := Lib.hid (B3.out.trans (hb4.mono B3.out.size))
  generalize w3.heap.size = ga at *
  have GAT4 := Lib.hid t4
  clear t4 hb4 B3
  by_cases hok : okP n m
  case neg =>
    obtain rfl : f1 = 1 := by rw [HF1.out]; unfold btwE; rw [if_neg hok]
    clear hok
    go_wp2_with fail
    go_ret
    exact ⟨rfl, B4.out⟩
  case pos =>
  obtain rfl : f1 = 0 := by rw [HF1.out]; unfold btwE; rw [if_pos hok]
  by_cases hln : l = n
  case neg =>
    have g1 : ((l : Int) != n) = true := by simp; omega
    clear hok
    go_wp2_with fail
    go_ret
    exact ⟨rfl, B4.out⟩
  case pos =>
  subst hln
  obtain ⟨n1, n8, rfl⟩ := hok
  obtain ⟨b1, b0, hbb⟩ := dV_two (btw Q P l l)
  obtain ⟨c1, c0, hcc⟩ := dV_two (btw P R l l)
  obtain ⟨d1, d0, hdd⟩ := dV_two (btw R Q l l)
  have hz : btwE l l = 0 := by unfold btwE; rw [if_pos ⟨n1, n8, rfl⟩]
  have K2 : ∀ w, Ints w q l d Q → Ints w p l c P → Calls Try.prog 18 #[.slice q l d, .slice p l c] w fun x w' => x = .returned (.tuple #[.agg #[.int .u64 b1, .int .u64 b0], .int .i64 0]) ∧ Below w.heap.size w w' := fun w h h2 => by
    have := between_any q p l d l c Q P w h h2
    rw [hbb, hz] at this
    exact this
  have K3 : ∀ w, Ints w p l c P → Ints w r l e R → Calls Try.prog 18 #[.slice p l c, .slice r l e] w fun x w' => x = .returned (.tuple #[.agg #[.int .u64 c1, .int .u64 c0], .int .i64 0]) ∧ Below w.heap.size w w' := fun w h h2 => by
    have := between_any p r l c l e P R w h h2
    rw [hcc, hz] at this
    exact this
  have K4 : ∀ w, Ints w r l e R → Ints w q l d Q → Calls Try.prog 18 #[.slice r l e, .slice q l d] w fun x w' => x = .returned (.tuple #[.agg #[.int .u64 d1, .int .u64 d0], .int .i64 0]) ∧ Below w.heap.size w w' := fun w h h2 => by
    have := between_any r q l e l d R Q w h h2
    rw [hdd, hz] at this
    exact this
  have hbt : ∀ A B : List Int, btw A B l l = tot (fun k => apart (A.getD k 0) (B.getD k 0)) l := fun A B => by unfold btw; rw [if_pos ⟨n1, n8, rfl⟩]
  have hab := HAB.out
  rw [hbt] at hab hbb hcc hdd
  have g1 : ∀ k, k < l → -9223372036854775808 ≤ P.getD k 0 ∧ P.getD k 0 ≤ 9223372036854775807 := fun k hk => H1.out.get k hk
  have g2 : ∀ k, k < l → -9223372036854775808 ≤ Q.getD k 0 ∧ Q.getD k 0 ≤ 9223372036854775807 := fun k hk => H2.out.get k hk
  have g3 : ∀ k, k < l → -9223372036854775808 ≤ R.getD k 0 ∧ R.getD k 0 ≤ 9223372036854775807 := fun k hk => H3.out.get k hk
  obtain ⟨p0, p1⟩ := btw_le P Q l n8 g1 g2
  obtain ⟨r0, r1⟩ := btw_le P R l n8 g1 g3
  obtain ⟨s0, s1⟩ := btw_le R Q l n8 g3 g2
  have hsame : a1 = b1 ∧ a0 = b0 := by
    have e : tot (fun k => apart (P.getD k 0) (Q.getD k 0)) l = tot (fun k => apart (Q.getD k 0) (P.getD k 0)) l := tot_congr _ _ l (fun k _ => apart_comm _ _)
    rw [e, hbb] at hab
    simpa [eq_comm] using hab
  have htri : tot (fun k => apart (P.getD k 0) (Q.getD k 0)) l ≤ tot (fun k => apart (P.getD k 0) (R.getD k 0)) l + tot (fun k => apart (R.getD k 0) (Q.getD k 0)) l := by
    rw [← tot_add]
    exact tot_mono _ _ l (fun k _ => apart_tri _ _ _)
  have hzz : decide (a1 = 0 ∧ a0 = 0) = eqs P Q l := by
    rw [dV_eq_zero p0 (by omega) hab, Bool.eq_iff_iff, decide_eq_true_iff]
    exact zero_eqs P Q l
  have dw := dV_inj hdd
  obtain ⟨h1, h0, hh⟩ := dV_two (tot (fun k => apart (P.getD k 0) (R.getD k 0)) l + d0)
  have A1 := fun w => add_any (tot (fun k => apart (P.getD k 0) (R.getD k 0)) l) d0 (by omega) w
  rw [hcc, hh] at A1
  have A2 := fun w => add_any (tot (fun k => apart (P.getD k 0) (R.getD k 0)) l + d0) 0 (by omega) w
  rw [Int.add_zero, hh] at A2
  obtain ⟨t1, ht1⟩ : ∃ t, t = (h1 + d1) % 18446744073709551616 := ⟨_, rfl⟩
  have hby := add_high _ _ c1 c0 d1 d0 h1 h0 hdd hh
  rw [← ht1] at hby
  have hle := dcmp_le p0 htri (by omega) hab hby
  have CM := fun w => cmp_any a1 a0 t1 h0 w
  obtain ⟨v, hv⟩ : ∃ v, v = dcmp a1 a0 t1 h0 := ⟨_, rfl⟩
  rw [← hv] at CM hle
  obtain ⟨rfl, rfl⟩ := hsame
  have q1 : ∀ w', (binOp .eql 25 (.agg #[.int .u64 a1, .int .u64 a0]) (.agg #[.int .u64 a1, .int .u64 a0])).run Try.prog w' = .ok (.bool true) w' := fun w' => by
    have := dist_eql a1 a0 a1 a0 w'
    simpa using this
  obtain ⟨bz, hbz⟩ : ∃ b, b = eqs P Q l := ⟨_, rfl⟩
  have q2 : ∀ w', (binOp .eql 25 (.agg #[.int .u64 a1, .int .u64 a0]) (.agg #[.int .u64 0, .int .u64 0])).run Try.prog w' = .ok (.bool bz) w' := fun w' => by
    rw [dist_eql, hzz, hbz]
  have hw1 : IntKind.u64.wrap (h1 + d1) = t1 := by rw [IntKind.wrap_u64, ht1]
  have HK2 := Lib.hid K2
  have HK3 := Lib.hid K3
  have HK4 := Lib.hid K4
  have HA1 := Lib.hid A1
  have HA2 := Lib.hid A2
  have HCM := Lib.hid CM
  have Q1 := Lib.hid q1
  have Q2 := Lib.hid q2
  have HW1 := Lib.hid hw1
  have HBZ := Lib.hid hbz
  have HLE := Lib.hid hle
  clear hab hbb hcc hdd hz K2 K3 K4 hbt g1 g2 g3 p0 p1 r0 r1 s0 s1 htri hzz dw hh A1 A2 ht1 hby hle CM hv q1 q2 hbz hw1 HAB HF1 K1
  go_wp2_with fail
  refine (HK2.out w4 (H2.out.later B4.out) (H1.out.later B4.out)).mono ?_
  rintro x w5 ⟨rfl, hb5⟩
  have B5 := Lib.hid (B4.out.trans (hb5.mono B4.out.size))
  have GAT5 := Lib.hid (GAT4.out.later hb5 GAT4.out.lt)
  clear hb5 B4 GAT4
  go_upto_region 7 with fail
  have t6 : Two (w5.alloc (.cells #[.int .u64 a1, .int .u64 a0] 25)) w5.heap.size (.int .u64 a1) (.int .u64 a0) := heap_alloc_new w5 _
  have hb6 : Below w5.heap.size w5 (w5.alloc (.cells #[.int .u64 a1, .int .u64 a0] 25)) := (Below.refl _ _).alloc (Nat.le_refl _) _
  generalize w5.alloc (.cells #[.int .u64 a1, .int .u64 a0] 25) = w6 at *
  have B6 := Lib.hid (B5.out.trans (hb6.mono B5.out.size))
  have GAT6 := Lib.hid (GAT5.out.later hb6 GAT5.out.lt)
  generalize w5.heap.size = gb at *
  have GBT6 := Lib.hid t6
  clear t6 hb6 B5 GAT5
  go_wp2_with fail
  refine (HK3.out w6 (H1.out.later B6.out) (H3.out.later B6.out)).mono ?_
  rintro x w7 ⟨rfl, hb7⟩
  have B7 := Lib.hid (B6.out.trans (hb7.mono B6.out.size))
  have GAT7 := Lib.hid (GAT6.out.later hb7 GAT6.out.lt)
  have GBT7 := Lib.hid (GBT6.out.later hb7 GBT6.out.lt)
  clear hb7 B6 GAT6 GBT6
  go_upto_region 8 with fail
  have t8 : Two (w7.alloc (.cells #[.int .u64 c1, .int .u64 c0] 25)) w7.heap.size (.int .u64 c1) (.int .u64 c0) := heap_alloc_new w7 _
  have hb8 : Below w7.heap.size w7 (w7.alloc (.cells #[.int .u64 c1, .int .u64 c0] 25)) := (Below.refl _ _).alloc (Nat.le_refl _) _
  generalize w7.alloc (.cells #[.int .u64 c1, .int .u64 c0] 25) = w8 at *
  have B8 := Lib.hid (B7.out.trans (hb8.mono B7.out.size))
  have GAT8 := Lib.hid (GAT7.out.later hb8 GAT7.out.lt)
  have GBT8 := Lib.hid (GBT7.out.later hb8 GBT7.out.lt)
  generalize w7.heap.size = gc at *
  have GCT8 := Lib.hid t8
  clear t8 hb8 B7 GAT7 GBT7
  go_wp2_with fail
  refine (HK4.out w8 (H3.out.later B8.out) (H2.out.later B8.out)).mono ?_
  rintro x w9 ⟨rfl, hb9⟩
  have B9 := Lib.hid (B8.out.trans (hb9.mono B8.out.size))
  have GAT9 := Lib.hid (GAT8.out.later hb9 GAT8.out.lt)
  have GBT9 := Lib.hid (GBT8.out.later hb9 GBT8.out.lt)
  have GCT9 := Lib.hid (GCT8.out.later hb9 GCT8.out.lt)
  clear hb9 B8 GAT8 GBT8 GCT8
  go_upto_region 9 with fail
  have t10 : Two (w9.alloc (.cells #[.int .u64 d1, .int .u64 d0] 25)) w9.heap.size (.int .u64 d1) (.int .u64 d0) := heap_alloc_new w9 _
  have hb10 : Below w9.heap.size w9 (w9.alloc (.cells #[.int .u64 d1, .int .u64 d0] 25)) := (Below.refl _ _).alloc (Nat.le_refl _) _
  generalize w9.alloc (.cells #[.int .u64 d1, .int .u64 d0] 25) = w10 at *
  have B10 := Lib.hid (B9.out.trans (hb10.mono B9.out.size))
  have GAT10 := Lib.hid (GAT9.out.later hb10 GAT9.out.lt)
  have GBT10 := Lib.hid (GBT9.out.later hb10 GBT9.out.lt)
  have GCT10 := Lib.hid (GCT9.out.later hb10 GCT9.out.lt)
  generalize w9.heap.size = gd at *
  have GDT10 := Lib.hid t10
  clear t10 hb10 B9 GAT9 GBT9 GCT9
  go_wp2_with fail
  go_loopw [15, 16] (fun s i wr => LoopRel P Q l w10 s i wr) (fun _ i _ => l - (intOf i).toNat)
  case atStart => exact ⟨0, 0, by omega, rfl, rfl, rfl⟩
  case round =>
    obtain ⟨k, j, hk, rfl, rfl, rfl⟩ := hrel
    by_cases hlt : k < l
    · obtain ⟨gx, o, rfl, hcx⟩ := H1.out.cell k hlt
      obtain ⟨gy, o2, rfl, hcy⟩ := H2.out.cell k hlt
      have hcx := (B10.out.cell (p := ⟨gx, o + k, none⟩) (block_lt_of_cell hcx)).trans hcx
      have hcy := (B10.out.cell (p := ⟨gy, o2 + k, none⟩) (block_lt_of_cell hcy)).trans hcy
      have i1 : (0 : Int) ≤ k ∧ (k : Int) < l := by omega
      have hstep : eqs P Q (k + 1) = (eqs P Q k && (P.getD k 0 == Q.getD k 0)) := rfl
      generalize P.getD k 0 = x at *
      generalize Q.getD k 0 = y at *
      have HST := Lib.hid hstep
      clear hstep
      cases hb : eqs P Q k with
      | true =>
        have HBK := Lib.hid hb
        clear hb
        obtain ⟨bx, hbx⟩ : ∃ b, (x == y) = b := ⟨_, rfl⟩
        have HBX := Lib.hid hbx
        go_upto_region 13 with fail
        go_quiet (fail)
        go_wp2_with fail
        go_roundw
        case rel => exact ⟨k + 1, j + nq, by omega, by go_num, by rw [HST.out, HBK.out, HBX.out, Bool.true_and], rfl⟩
        case measure => simp [intOf]; omega
      | false =>
        have HBK := Lib.hid hb
        clear hb
        go_upto_region 13 with fail
        go_quiet (fail)
        go_wp2_with fail
        go_roundw
        case rel => exact ⟨k + 1, j + nq, by omega, by go_num, by rw [HST.out, HBK.out, Bool.false_and], rfl⟩
        case measure => simp [intOf]; omega
    · obtain rfl : k = l := by omega
      rw [← HBZ.out]
      have T1 := Lib.hid (show Two (w10.drewN j) ga (.int .u64 a1) (.int .u64 a0) from GAT10.out)
      have T2 := Lib.hid (show Two (w10.drewN j) gb (.int .u64 a1) (.int .u64 a0) from GBT10.out)
      have T3 := Lib.hid (show Two (w10.drewN j) gc (.int .u64 c1) (.int .u64 c0) from GCT10.out)
      have T4 := Lib.hid (show Two (w10.drewN j) gd (.int .u64 d1) (.int .u64 d0) from GDT10.out)
      have B11 := Lib.hid (show Below w.heap.size w (w10.drewN j) from Below.drewN B10.out j)
      generalize w10.drewN j = w11 at *
      clear GAT10 GBT10 GCT10 GDT10 B10
      obtain ⟨x0, x1, _, _⟩ := T3.out.facts
      obtain ⟨x2, x3, _, _⟩ := T4.out.facts
      go_wp2_with fail
      refine (HA1.out w11).mono ?_
      rintro x w12 ⟨rfl, hb12⟩
      have B12 := Lib.hid (B11.out.trans (hb12.mono B11.out.size))
      have U1 := Lib.hid (T1.out.later hb12 T1.out.lt)
      have U2 := Lib.hid (T2.out.later hb12 T2.out.lt)
      have U4 := Lib.hid (T4.out.later hb12 T4.out.lt)
      clear hb12 B11 T1 T2 T3 T4 x0 x1 x2 x3
      go_wp2_with fail
      refine (HA2.out w12).mono ?_
      rintro x w13 ⟨rfl, hb13⟩
      have B13 := Lib.hid (B12.out.trans (hb13.mono B12.out.size))
      have V1 := Lib.hid (U1.out.later hb13 U1.out.lt)
      have V2 := Lib.hid (U2.out.later hb13 U2.out.lt)
      have V4 := Lib.hid (U4.out.later hb13 U4.out.lt)
      clear hb13 B12 U1 U2 U4
      go_upto_region 15 with fail
      have t14 : Two (w13.alloc (.cells #[.int .u64 h1, .int .u64 h0] 25)) w13.heap.size (.int .u64 h1) (.int .u64 h0) := heap_alloc_new w13 _
      have hb14 : Below w13.heap.size w13 (w13.alloc (.cells #[.int .u64 h1, .int .u64 h0] 25)) := (Below.refl _ _).alloc (Nat.le_refl _) _
      generalize w13.alloc (.cells #[.int .u64 h1, .int .u64 h0] 25) = w14 at *
      have B14 := Lib.hid (B13.out.trans (hb14.mono B13.out.size))
      have W1 := Lib.hid (V1.out.later hb14 V1.out.lt)
      have W2 := Lib.hid (V2.out.later hb14 V2.out.lt)
      have W4 := Lib.hid (V4.out.later hb14 V4.out.lt)
      have HLT := Lib.hid (show ga < w13.heap.size ∧ gb < w13.heap.size ∧ w.heap.size ≤ w13.heap.size from ⟨V1.out.lt, V2.out.lt, B13.out.size⟩)
      generalize w13.heap.size = gy at *
      have T14 := Lib.hid t14
      clear t14 hb14 B13 V1 V2 V4
      obtain ⟨x0, x1, x2, x3⟩ := T14.out.facts
      obtain ⟨x4, x5, _, _⟩ := W4.out.facts
      have hw1 := HW1.out
      go_upto_region 16 with fail
      have t15 : Two (w14.setCell ⟨gy, 0, none⟩ (.int .u64 t1)) gy (.int .u64 t1) (.int .u64 h0) := heap_setCell_same w14 gy 0 _ _ _ T14.out
      have h15 : ∀ k : Nat, k ≠ gy → (w14.setCell ⟨gy, 0, none⟩ (.int .u64 t1)).heap[k]? = w14.heap[k]? := fun k hk => heap_setCell_other _ _ _ _ hk
      have B15 := Lib.hid (B14.out.setCell (p := ⟨gy, 0, none⟩) HLT.out.2.2 (.int .u64 t1))
      have X1 := Lib.hid (show Two (w14.setCell ⟨gy, 0, none⟩ (.int .u64 t1)) ga (.int .u64 a1) (.int .u64 a0) from (h15 ga (Nat.ne_of_lt HLT.out.1)).trans W1.out)
      have X2 := Lib.hid (show Two (w14.setCell ⟨gy, 0, none⟩ (.int .u64 t1)) gb (.int .u64 a1) (.int .u64 a0) from (h15 gb (Nat.ne_of_lt HLT.out.2.1)).trans W2.out)
      generalize w14.setCell ⟨gy, 0, none⟩ (.int .u64 t1) = w15 at *
      obtain ⟨y0, y1, _, _⟩ := t15.facts
      obtain ⟨y2, y3, _, _⟩ := X1.out.facts
      obtain ⟨y4, y5, _, _⟩ := X2.out.facts
      clear t15 h15 x0 x1 x2 x3 x4 x5 T14 W1 W2 W4 B14 hw1
      have q1 := Q1.out
      have q2 := Q2.out
      have hle := HLE.out
      go_wp2_with (go_at_call 17; refine (HCM.out _).mono ?_; rintro x w16 ⟨rfl, hb16⟩)
      go_ret
      exact ⟨rfl, B15.out.trans (hb16.mono B15.out.size)⟩
end Go.Proofs.Ytfkemphkhfhabaa
