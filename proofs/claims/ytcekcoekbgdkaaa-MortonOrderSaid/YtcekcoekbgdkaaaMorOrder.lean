/- The walk of MortonOrder. -/
import Derived.Test.YtcekcoekbgdkaaaMorAlive
import Derived.Test.YtcekcoekbgdkaaaMorSame
import Derived.Test.YtcekcoekbgdkaaaMorRefB
import Derived.Test.YtcekcoekbgdkaaaMorCmp
namespace Go.Proofs.Ytcekcoekbgdkaaa
open Go.RowKit

/-- Whether none of the first k numbers is greater. -/
def leB (R S : List Int) : Nat → Bool
  | 0 => true
  | k + 1 => leB R S k && decide (R.getD k 0 ≤ S.getD k 0)
theorem leB_succ (R S : List Int) (k : Nat) : leB R S (k + 1) = (leB R S k && decide (R.getD k 0 ≤ S.getD k 0)) := rfl
theorem leB_all {R S : List Int} : ∀ {k}, leB R S k = true → ∀ t, t < k → R.getD t 0 ≤ S.getD t 0
  | 0, _, t, ht => by omega
  | k + 1, h, t, ht => by
    rw [leB_succ, Bool.and_eq_true, decide_eq_true_eq] at h
    by_cases c : t = k
    · rw [c]; exact h.2
    · exact leB_all h.1 t (by omega)
def ORel (w1 : World) (R S : List Int) (n : Nat) (a i : Value) (wr : World) : Prop := ∃ k j : Nat, k ≤ n ∧ i = .int .i64 k ∧ a = .bool (leB R S k) ∧ wr = w1.drewN j
set_option maxRecDepth 100000 in
set_option maxHeartbeats 4000000 in
theorem morder_any (R S : List Int) (p q : Option Addr) (n c m e : Nat) (w : World) (hR : Ints w p n c R) (hS : Ints w q m e S) (hn : n ≤ 9223372036854775807) (hm : m ≤ 9223372036854775807) :
    Calls Try.prog 5 #[.slice p n c, .slice q m e] w fun e w' => e = .returned (.bool true) ∧ Below w.heap.size w w' := by
  have HR := Lib.hid hR
  have HS := Lib.hid hS
  have SR := Lib.hid hR.size
  have SS := Lib.hid hS.size
  clear hR hS
  go_enter Try.func5, Try.ntmps5
  go_wp2_with fail
  refine (alive_any w).mono ?_
  rintro _ w0 ⟨rfl, hb0⟩
  have B0 := Lib.hid hb0
  have HR0 := Lib.hid (HR.out.later hb0)
  have HS0 := Lib.hid (HS.out.later hb0)
  clear hb0
  by_cases hbad : (n < 1 ∨ 8 < n) ∨ n ≠ m
  · have HBAD := Lib.hid hbad
    by_cases h1 : n < 1
    · have b1 : (n : Int) < 1 := by omega
      clear hbad
      go_wp2_with fail
      refine (ahead_no p q n c m e w0 HBAD.out hn hm).mono ?_
      rintro _ w2 ⟨rfl, j, rfl⟩
      go_wp2_with fail
      go_ret
      exact ⟨rfl, Below.drewN B0.out j⟩
    · by_cases h8 : 8 < n
      · have b1 : ¬ (n : Int) < 1 := by omega
        have b2 : (8 : Int) < n := by omega
        clear hbad
        go_wp2_with fail
        refine (ahead_no p q n c m e w0 HBAD.out hn hm).mono ?_
        rintro _ w2 ⟨rfl, j, rfl⟩
        go_wp2_with fail
        go_ret
        exact ⟨rfl, Below.drewN B0.out j⟩
      · have b1 : ¬ (n : Int) < 1 := by omega
        have b2 : ¬ (8 : Int) < n := by omega
        have b3 : ((n : Int) != (m : Int)) = true := by simp; omega
        clear hbad
        go_wp2_with fail
        refine (ahead_no p q n c m e w0 HBAD.out hn hm).mono ?_
        rintro _ w2 ⟨rfl, j, rfl⟩
        go_wp2_with fail
        go_ret
        exact ⟨rfl, Below.drewN B0.out j⟩
  obtain rfl : n = m := by omega
  have h1 : 1 ≤ n := by omega
  have h8 : n ≤ 8 := by omega
  have b1 : ¬ (n : Int) < 1 := by omega
  have b2 : ¬ (8 : Int) < n := by omega
  clear hbad
  go_wp2_with fail
  refine (refcode_any R p n c w0 HR0.out h8).mono ?_
  rintro _ w1 hp
  obtain ⟨qa, ca, rfl, ha, hb1⟩ := hp
  have HA1 := Lib.hid ha.tx
  have HR1 := Lib.hid (HR0.out.later hb1)
  have HS1 := Lib.hid (HS0.out.later hb1)
  have B1 := Lib.hid (B0.out.trans (hb1.mono B0.out.size))
  clear ha hb1
  go_wp2_with fail
  refine (refcode_any S q n e w1 HS1.out h8).mono ?_
  rintro _ w2 hp
  obtain ⟨qb, cb, rfl, hb, hb2⟩ := hp
  have HB2 := Lib.hid hb.tx
  have HA2 := Lib.hid (HA1.out.later hb2)
  have HR2 := Lib.hid (HR1.out.later hb2)
  have HS2 := Lib.hid (HS1.out.later hb2)
  have B2 := Lib.hid (B1.out.trans (hb2.mono B1.out.size))
  clear hb hb2
  have hl : (Mm.code S).length = (Mm.code R).length := by rw [Mm.code_length, Mm.code_length, ← SR.out, ← SS.out]
  have hl2 : (Mm.code R).length ≤ 64 := by rw [Mm.code_length, ← SR.out]; omega
  have HB2' := HB2.out
  rw [hl] at HB2' ⊢
  have HB3 := Lib.hid HB2'
  clear HB2' HB2 HA1 HR1 HS1 HR0 HS0 hl
  obtain ⟨L, hL⟩ : ∃ L, L = (Mm.code R).length := ⟨_, rfl⟩
  rw [← hL] at hl2 HA2 HB3 ⊢
  clear hL
  go_wp2_with fail
  go_loopw [7, 8] (fun a i wr => ORel w2 R S n a i wr) (fun _ i _ => n - (intOf i).toNat)
  case atStart => exact ⟨0, 0, by omega, rfl, rfl, rfl⟩
  case round =>
    obtain ⟨k, j, hk, rfl, rfl, rfl⟩ := hrel
    by_cases hlt : k < n
    · obtain ⟨gx, o, rfl, hcx⟩ := HR2.out.cell k hlt
      obtain ⟨gy, o2, rfl, hcy⟩ := HS2.out.cell k hlt
      have i1 : (0 : Int) ≤ k ∧ (k : Int) < n := by omega
      have HLE := Lib.hid (leB_succ R S k)
      generalize leB R S k = a at *
      generalize R.getD k 0 = x at *
      generalize S.getD k 0 = y at *
      cases a with
      | false =>
        go_upto_region 10 with fail
        go_quiet (fail)
        go_wp2_with fail
        go_roundw
        case rel => exact ⟨k + 1, _, by omega, by go_num, by rw [HLE.out]; rfl, by first | rfl | simp [World.drewN_drewN]⟩
        case measure => simp [intOf]; omega
      | true =>
        by_cases hxy : x ≤ y
        · go_upto_region 10 with fail
          go_quiet (fail)
          go_wp2_with fail
          go_roundw
          case rel => exact ⟨k + 1, _, by omega, by go_num, by rw [HLE.out, decide_eq_true hxy]; rfl, by first | rfl | simp [World.drewN_drewN]⟩
          case measure => simp [intOf]; omega
        · go_upto_region 10 with fail
          go_quiet (fail)
          go_wp2_with fail
          go_roundw
          case rel => exact ⟨k + 1, _, by omega, by go_num, by rw [HLE.out, decide_eq_false hxy]; rfl, by first | rfl | simp [World.drewN_drewN]⟩
          case measure => simp [intOf]; omega
    · obtain rfl : k = n := by omega
      have hmono : leB R S k = true → Cm.cmpL (Mm.code R) (Mm.code S) ≤ 0 := fun h => Mm.code_mono HR.out.ok HS.out.ok (SR.out.symm.trans SS.out) (fun i hi => leB_all h i (by rw [SR.out]; exact hi))
      have hsame := Mm.code_same HR.out.ok HS.out.ok (SR.out.symm.trans SS.out)
      have hrange := Cm.cmpL_range (Mm.code R) (Mm.code S)
      have HA := Lib.hid (HA2.out.heap (w' := w2.drewN j) rfl)
      have HB := Lib.hid (HB3.out.heap (w' := w2.drewN j) rfl)
      have hbj : Below w2.heap.size w2 (w2.drewN j) := Below.drewN (Below.refl _ _) j
      have HRj := Lib.hid (HR2.out.later hbj)
      have HSj := Lib.hid (HS2.out.later hbj)
      have Bj := Lib.hid (Below.drewN B2.out j)
      have hneg := Cm.cmpL_neg (Mm.code R) (Mm.code S)
      clear hbj
      obtain ⟨r, hr⟩ : ∃ r, r = Cm.cmpL (Mm.code R) (Mm.code S) := ⟨_, rfl⟩
      rw [← hr] at hmono hsame hrange hneg
      have HRR := Lib.hid hr
      have HNEG := Lib.hid hneg
      have HMONO := Lib.hid hmono
      have HSAME := Lib.hid (show decide (R = S) = decide (r = 0) from decide_eq_decide.2 hsame.symm)
      clear hr hneg hmono hsame
      generalize hwj : w2.drewN j = wj at *
      have HWJ := Lib.hid hwj
      clear hwj
      generalize leB R S k = none at *
      go_wp2_with fail
      refine (mcmp_any (Mm.code R) (Mm.code S) qa qb L ca cb wj HA.out HB.out).mono ?_
      rintro _ w5 ⟨rfl, rfl⟩
      rw [← HRR.out]
      go_wp2_with fail
      refine (ahead_any R S p q k c e w5 HRj.out HSj.out h1 h8).mono ?_
      rintro _ w6 ⟨rfl, j6, rfl⟩
      rw [← HRR.out]
      have HA6 := Lib.hid (HA.out.heap (w' := w5.drewN j6) rfl)
      have HB6 := Lib.hid (HB.out.heap (w' := w5.drewN j6) rfl)
      have hbj : Below w5.heap.size w5 (w5.drewN j6) := Below.drewN (Below.refl _ _) j6
      have HR6 := Lib.hid (HRj.out.later hbj)
      have HS6 := Lib.hid (HSj.out.later hbj)
      have B6 := Lib.hid (Below.drewN Bj.out j6)
      clear hbj
      generalize hwj : w5.drewN j6 = w6 at *
      have HWJ6 := Lib.hid hwj
      clear hwj
      rcases hrange with hr0 | hr0 | hr0
      all_goals
        subst hr0
        go_wp2_with fail
        refine (less_any (Mm.code R) (Mm.code S) qa qb L ca cb w6 HA6.out HB6.out).mono ?_
        rintro _ w7 ⟨rfl, rfl⟩
        rw [← HRR.out]
        go_wp2_with fail
        refine (less_any (Mm.code R) (Mm.code S) qa qb L ca cb w7 HA6.out HB6.out).mono ?_
        rintro _ w8 ⟨rfl, rfl⟩
        rw [← HRR.out]
        go_wp2_with fail
        refine (less_any (Mm.code S) (Mm.code R) qb qa L cb ca w8 HB6.out HA6.out).mono ?_
        rintro _ w9 ⟨rfl, rfl⟩
        rw [HNEG.out]
        go_wp2_with fail
        refine (msame_any p q k c k e R S w9 HR6.out HS6.out (by omega)).mono ?_
        rintro _ w10 ⟨rfl, j10, rfl⟩
        rw [HSAME.out]
        have B10 := Lib.hid (Below.drewN B6.out j10)
      · cases none
        all_goals
          go_wp2_with fail
          go_ret
          exact ⟨rfl, B10.out⟩
      · cases none
        all_goals
          go_wp2_with fail
          go_ret
          exact ⟨rfl, B10.out⟩
      · cases none
        · go_wp2_with fail
          go_ret
          exact ⟨rfl, B10.out⟩
        · exact absurd (HMONO.out rfl) (by decide)
end Go.Proofs.Ytcekcoekbgdkaaa
