/- The walk of MortonPoints. -/
import Derived.Test.YtcekcoekbgdkaaaMorAlive
import Derived.Test.YtcekcoekbgdkaaaMorSame
namespace Go.Proofs.Ytcekcoekbgdkaaa
open Go.RowKit

set_option maxRecDepth 100000 in
set_option maxHeartbeats 4000000 in
theorem mpoints_any (B : List Nat) (d i : Int) (p : Option Addr) (n c : Nat) (w : World) (hB : Tx w p n c B) (d1 : -9223372036854775808 ≤ d) (d2 : d ≤ 9223372036854775807) (i1 : -9223372036854775808 ≤ i) (i2 : i ≤ 9223372036854775807) (hn : n ≤ 9223372036854775807) :
    Calls Try.prog 4 #[.slice p n c, .int .i64 d, .int .i64 i] w fun e w' => e = .returned (.bool true) ∧ Below w.heap.size w w' := by
  have HB := Lib.hid hB
  have SB := Lib.hid hB.size
  clear hB
  go_enter Try.func4, Try.ntmps4
  go_wp2_with fail
  refine (alive_any w).mono ?_
  rintro _ w0 ⟨rfl, hb0⟩
  have B0 := Lib.hid hb0
  have HB0 := Lib.hid (HB.out.later hb0)
  clear hb0
  by_cases h1 : 300 < n
  · have b1 : (300 : Int) < n := by omega
    go_wp2_with fail
    go_ret
    exact ⟨rfl, B0.out⟩
  have b1 : ¬ (300 : Int) < n := by omega
  go_wp2_with fail
  refine (bit_any B p n c i w0 HB0.out.bytes i1 i2).mono ?_
  rintro _ w1 ⟨rfl, rfl⟩
  go_wp2_with fail
  refine (refbit_any B p n c i w1 HB0.out.bytes (by omega) i1 i2).mono ?_
  rintro _ w2 ⟨rfl, rfl⟩
  generalize bitI B i = bt at *
  by_cases hdb : d < 1 ∨ 8 < d
  · go_wp2_with fail
    refine (point_arg p n c d _ hdb).mono ?_
    rintro _ w7 ⟨rfl, rfl⟩
    by_cases e1 : d < 1
    · clear hdb
      go_wp2_with fail
      go_ret
      exact ⟨rfl, B0.out⟩
    · have e2 : 8 < d := by omega
      clear hdb
      go_wp2_with fail
      go_ret
      exact ⟨rfl, B0.out⟩
  have e1 : ¬ d < 1 := by omega
  have e2 : ¬ 8 < d := by omega
  clear hdb
  by_cases hne : (n : Int) = 8 * d
  case neg =>
    go_wp2_with fail
    refine (point_form p n c d _ (by omega) (by omega) hne).mono ?_
    rintro _ w7 ⟨rfl, rfl⟩
    have e3 : ((n : Int) != 8 * d) = true := by simp; omega
    have HNE := Lib.hid hne
    clear hne
    go_wp2_with fail
    go_ret
    exact ⟨rfl, B0.out⟩
  obtain ⟨k, rfl⟩ : ∃ k : Nat, d = k := ⟨d.toNat, by omega⟩
  obtain rfl : n = 8 * k := by omega
  have k1 : 1 ≤ k := by omega
  have k8 : k ≤ 8 := by omega
  have e3 : (((8 * k : Nat) : Int) != 8 * (k : Int)) = false := by simp
  clear hne
  go_wp2_with fail
  refine (point_any B p (8 * k) c k w2 HB0.out.bytes k1 k8 rfl).mono ?_
  rintro _ w3 hp
  obtain ⟨q, c2, rfl, hq, hb3⟩ := hp
  have HQ3 := Lib.hid hq
  have HB3 := Lib.hid (HB0.out.later hb3)
  have B3 := Lib.hid (B0.out.trans (hb3.mono B0.out.size))
  clear hq hb3
  go_wp2_with fail
  refine (code_any (Mm.point B k) q k c2 w3 HQ3.out k1 k8).mono ?_
  rintro _ w4 hp
  obtain ⟨g, rfl, -, hr4, hb4⟩ := hp
  rw [Mm.code_point HB.out.ok k SB.out.symm] at hr4
  have hby := Bytes.row hr4 HB.out.ok
  rw [← SB.out] at hby
  have BY4 := Lib.hid hby.tx
  have HQ4 := Lib.hid (HQ3.out.later hb4)
  have HB4 := Lib.hid (HB3.out.later hb4)
  have B4 := Lib.hid (B3.out.trans (hb4.mono B3.out.size))
  clear hr4 hby hb4
  go_wp2_with fail
  refine (refpoint_any B p (8 * k) c k w4 HB4.out.bytes k1 k8 rfl).mono ?_
  rintro _ w5 hp
  obtain ⟨q5, c5, rfl, hq5, hb5⟩ := hp
  have HQ5 := Lib.hid hq5
  have HQ45 := Lib.hid (HQ4.out.later hb5)
  have HB5 := Lib.hid (HB4.out.later hb5)
  have BY5 := Lib.hid (BY4.out.later hb5)
  have B5 := Lib.hid (B4.out.trans (hb5.mono B4.out.size))
  clear hq5 hb5
  go_wp2_with fail
  refine (msame_any q q5 k c2 _ c5 (Mm.point B k) (Mm.point B k) w5 HQ45.out HQ5.out (by omega)).mono ?_
  rintro _ w6 ⟨rfl, j, rfl⟩
  rw [decide_eq_true (rfl : Mm.point B k = Mm.point B k)]
  have hcv1 := convert_tx (BY5.out.heap (w' := w5.drewN j) rfl)
  have hcv2 := convert_tx (HB5.out.heap (w' := w5.drewN j) rfl)
  have B6 := Lib.hid (Below.drewN B5.out j)
  generalize strOf B = s at *
  go_wp2_with fail
  go_ret
  exact ⟨rfl, B6.out⟩
end Go.Proofs.Ytcekcoekbgdkaaa
