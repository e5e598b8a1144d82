/- math/bits.Div64 by 10. -/
import Derived.Test.YtfkemphkhfhabaaDist6
namespace Go.Proofs.Ytfkemphkhfhabaa
open Go.RowKit

set_option maxRecDepth 100000 in
theorem len64_10 (w : World) : Calls Try.prog 34 #[.int .u64 10] w fun e w' => e = .returned (.int .i64 4) ∧ w' = w := by
  go_enter Try.func34, Try.ntmps34
  go_wp2
  go_ret
  exact ⟨by kernel_rfl, rfl⟩
set_option maxRecDepth 100000 in
theorem lead64_10 (w : World) : Calls Try.prog 33 #[.int .u64 10] w fun e w' => e = .returned (.int .i64 60) ∧ w' = w := by
  go_enter Try.func33, Try.ntmps33
  go_wp2_with (go_at_call 34; refine (len64_10 _).mono ?_; rintro e w' ⟨rfl, rfl⟩)
  go_ret
  exact ⟨rfl, rfl⟩
set_option maxRecDepth 100000 in
theorem div0_any (lo : Int) (hl : 0 ≤ lo ∧ lo < 18446744073709551616) (w : World) :
    Calls Try.prog 32 #[.int .u64 0, .int .u64 lo, .int .u64 10] w fun e w' => e = .returned (.tuple #[.int .u64 (lo / 10), .int .u64 (lo % 10)]) ∧ ∃ j, w' = w.drewN j := by
  obtain ⟨l0, l1⟩ := hl
  go_enter Try.func32, Try.ntmps32
  go_wp2_with fail
  go_quiet (fail)
  go_wp2_with fail
  go_ret2
  exact ⟨rfl, _, rfl⟩
theorem or_hi (hi lo : Int) (h0 : 0 < hi) (h1 : hi < 10) (l0 : 0 ≤ lo) (l1 : lo < 18446744073709551616) : bits .or .u64 (hi * 1152921504606846976) (lo / 16) = hi * 1152921504606846976 + lo / 16 := by
  obtain ⟨a, rfl⟩ := Int.eq_ofNat_of_zero_le (Int.le_of_lt h0)
  obtain ⟨b, hb⟩ := Int.eq_ofNat_of_zero_le (show 0 ≤ lo / 16 by omega)
  rw [hb]
  have hb2 : b < 2 ^ 60 := by omega
  have h := bits_or_u64_nat (a * 1152921504606846976) b (by omega) (by omega)
  have e := Nat.two_pow_add_eq_or_of_lt hb2 a
  rw [show (2 : Nat) ^ 60 * a = a * 1152921504606846976 from by omega] at e
  rw [← e] at h
  have h2 : ((a * 1152921504606846976 : Nat) : Int) = (a : Int) * 1152921504606846976 := by omega
  rw [h2] at h
  rw [h, Int.natCast_add, Int.natCast_mul]
  rfl
theorem div_mid (u r q t : Int) (ht : t = u - q * 2684354560) (t0 : 0 ≤ t) (t1 : t < 2684354560) (r0 : 0 ≤ r) (r1 : r < 16) :
    IntKind.u64.wrap (IntKind.u64.wrap (IntKind.u64.wrap (u * 4294967296) + r * 268435456) - IntKind.u64.wrap (q * 11529215046068469760)) = 268435456 * (16 * u + r - q * 42949672960) := by
  rw [IntKind.wrap_u64, IntKind.wrap_u64, IntKind.wrap_u64, IntKind.wrap_u64]
  omega
theorem div_end (v s m : Int) (hv : v = 268435456 * m) (hs : s = m / 10) (m0 : 0 ≤ m) (m1 : m < 42949672960) :
    IntKind.u64.wrap (IntKind.u64.wrap (IntKind.u64.wrap (v * 4294967296)) - IntKind.u64.wrap (s * 11529215046068469760)) / 1152921504606846976 = m % 10 := by
  rw [IntKind.wrap_u64, IntKind.wrap_u64, IntKind.wrap_u64, IntKind.wrap_u64]
  omega
theorem ret_pair {a b c d : Int} (h : a = b) (k : c = d) : Ending.returned (.tuple #[.int .u64 a, .int .u64 c]) = .returned (.tuple #[.int .u64 b, .int .u64 d]) := by rw [h, k]
set_option maxRecDepth 100000 in
theorem div10_any (hi lo : Int) (hh : 0 < hi ∧ hi < 10) (hl : 0 ≤ lo ∧ lo < 18446744073709551616) (w : World) :
    Calls Try.prog 32 #[.int .u64 hi, .int .u64 lo, .int .u64 10] w fun e w' => e = .returned (.tuple #[.int .u64 ((hi * 18446744073709551616 + lo) / 10), .int .u64 ((hi * 18446744073709551616 + lo) % 10)]) ∧ ∃ j, w' = w.drewN j := by
  obtain ⟨l0, l1⟩ := hl
  obtain ⟨h0, h1⟩ := hh
  have n1 : ¬ (10 : Int) ≤ hi := by omega
  have n2 : (hi == 0) = false := by simp; omega
  go_enter Try.func32, Try.ntmps32
  go_upto_region 12 with (go_at_call 33; refine (lead64_10 _).mono ?_; rintro e w' ⟨rfl, rfl⟩)
  have e1 : bits .and .u64 11529215046068469760 4294967295 = 0 := by decide +kernel
  have e2 := or_hi hi lo h0 h1 l0 l1
  obtain ⟨u, hu⟩ : ∃ u, u = hi * 1152921504606846976 + lo / 16 := ⟨_, rfl⟩
  rw [e1, e2, ← hu]
  have HU := Lib.hid hu
  have u0 : 0 ≤ u := by omega
  have u1 : u < 11529215046068469760 := by omega
  clear e1 e2 hu n1 n2
  go_upto_region 17 with fail
  obtain ⟨r, hr⟩ : ∃ r, r = lo % 16 := ⟨_, rfl⟩
  have f1 : IntKind.u64.wrap (lo * 1152921504606846976) = r * 1152921504606846976 := by rw [IntKind.wrap_u64]; omega
  have f2 : r * 1152921504606846976 / 4294967296 = r * 268435456 := by omega
  have f3 : bits .and .u64 (r * 1152921504606846976) 4294967295 = 0 := by rw [and_low32 _ (by omega) (by omega)]; omega
  obtain ⟨q, hq⟩ : ∃ q, q = u / 2684354560 := ⟨_, rfl⟩
  obtain ⟨t, ht⟩ : ∃ t, t = u - q * 2684354560 := ⟨_, rfl⟩
  rw [f1, f2, f3, ← hq, ← ht]
  have q1 : q < 4294967296 := by omega
  have q0 : 0 ≤ q := by omega
  have t0 : 0 ≤ t := by omega
  have r0 : 0 ≤ r := by omega
  have r1 : r < 16 := by omega
  have HQ := Lib.hid hq
  have HT := Lib.hid ht
  have HR := Lib.hid hr
  have n3 : ¬ (4294967296 : Int) ≤ q := by omega
  clear f1 f2 f3 hq ht hr
  have n4 : ¬ IntKind.u64.wrap (IntKind.u64.wrap (4294967296 * t) + r * 268435456) < 0 := Int.not_lt.2 (wrap_u64_nonneg _)
  refine wp_loop_rounds 1 ?_
  rw [rounds_succ]
  go_upto_region 22 with fail
  have f4 : IntKind.u64.wrap (IntKind.u64.wrap (IntKind.u64.wrap (u * 4294967296) + r * 268435456) - IntKind.u64.wrap (q * 11529215046068469760)) = 268435456 * (16 * u + r - q * 42949672960) := div_mid u r q t HT.out t0 (by have := HQ.out; have := HT.out; omega) r0 r1
  obtain ⟨m, hm⟩ : ∃ m, m = 16 * u + r - q * 42949672960 := ⟨_, rfl⟩
  obtain ⟨v, hv⟩ : ∃ v, v = 268435456 * m := ⟨_, rfl⟩
  rw [f4, ← hm, ← hv]
  have m0 : 0 ≤ m := by have := HT.out; omega
  have m1 : m < 42949672960 := by have := HT.out; have := HQ.out; omega
  have v0 : 0 ≤ v := by omega
  have v1 : v < 11529215046068469760 := by omega
  have HM := Lib.hid hm
  have HV := Lib.hid hv
  have N4 := Lib.hid n4
  clear f4 hm hv n4
  go_upto_region 24 with fail
  obtain ⟨s, hs⟩ : ∃ s, s = v / 2684354560 := ⟨_, rfl⟩
  obtain ⟨x, hx⟩ : ∃ x, x = v - s * 2684354560 := ⟨_, rfl⟩
  rw [← hs, ← hx]
  have s0 : 0 ≤ s := by omega
  have s1 : s < 4294967296 := by omega
  have x0 : 0 ≤ x := by omega
  have n5 : ¬ (4294967296 : Int) ≤ s := by omega
  have HSS := Lib.hid hs
  have HX := Lib.hid hx
  clear hs hx
  have n6 : ¬ IntKind.u64.wrap (IntKind.u64.wrap (4294967296 * x)) < 0 := Int.not_lt.2 (wrap_u64_nonneg _)
  refine wp_loop_rounds 1 ?_
  rw [rounds_succ]
  go_upto_region 28 with fail
  have N6 := Lib.hid n6
  clear n6
  go_wp2_with fail
  go_ret2
  have k1 : q * 4294967296 + s = (hi * 18446744073709551616 + lo) / 10 := by
    have := HU.out; have := HQ.out; have := HR.out; have := HM.out; have := HV.out; have := HSS.out
    omega
  have k2 : IntKind.u64.wrap (IntKind.u64.wrap (IntKind.u64.wrap (v * 4294967296)) - IntKind.u64.wrap (s * 11529215046068469760)) / 1152921504606846976 = (hi * 18446744073709551616 + lo) % 10 := by
    rw [div_end v s m HV.out (by rw [HSS.out, HV.out]; omega) m0 m1]
    have := HU.out; have := HQ.out; have := HR.out; have := HM.out
    omega
  exact ⟨ret_pair k1 k2, 0, rfl⟩
end Go.Proofs.Ytfkemphkhfhabaa
