/- The walk of MortonBegins. -/
import Derived.Test.YtcekcoekbgdkaaaMorAlive
namespace Go.Proofs.Ytcekcoekbgdkaaa
open Go.RowKit

/-- Whether the first k bits are alike. -/
def eqB (f g : Nat → Nat) : Nat → Bool
  | 0 => true
  | k + 1 => eqB f g k && decide (f k = g k)
theorem eqB_succ (f g : Nat → Nat) (k : Nat) : eqB f g (k + 1) = (eqB f g k && decide (f k = g k)) := rfl
theorem eqB_iff (f g : Nat → Nat) : ∀ k, eqB f g k = true ↔ ∀ t, t < k → f t = g t
  | 0 => by simp [eqB]
  | k + 1 => by
    rw [eqB_succ, Bool.and_eq_true, decide_eq_true_eq, eqB_iff f g k]
    constructor
    · rintro ⟨h1, h2⟩ t ht
      by_cases c : t = k
      · rw [c]; exact h2
      · exact h1 t (by omega)
    · intro h
      exact ⟨fun t ht => h t (by omega), h k (by omega)⟩
/-- Whether the first k numbers begin alike, all but for t bits. -/
def nuB (R S : List Int) (t : Nat) : Nat → Bool := eqB (fun k => Cm.z64 (R.getD k 0) / 2 ^ t) (fun k => Cm.z64 (S.getD k 0) / 2 ^ t)
theorem begins_eq {R S : List Int} (hR : Mm.inI R) (hS : Mm.inI S) (hl : R.length = S.length) {K t : Nat} (hK : K + t = 64) : eqB (Mm.cbit R) (Mm.cbit S) (K * R.length) = nuB R S t R.length := by
  rw [Bool.eq_iff_iff]
  unfold nuB
  rw [eqB_iff, eqB_iff]
  constructor
  · intro h k hk
    have e := Mm.bin_congr (g := fun l => Cm.z64 (R.getD k 0) / 2 ^ (64 - 1 - l) % 2) (h := fun l => Cm.z64 (S.getD k 0) / 2 ^ (64 - 1 - l) % 2) K (fun l hl2 => by
      have h1 := h (l * R.length + k) (Mm.place_lt hk hl2)
      rw [Mm.cbit_at R l k hk] at h1
      have h2 := Mm.cbit_at S l k (by omega)
      rw [← hl] at h2
      rw [h2] at h1
      exact h1)
    rw [Mm.bin_top 64 _ (Mm.z64_in hR k).1 K (by omega), Mm.bin_top 64 _ (Mm.z64_in hS k).1 K (by omega), show 64 - K = t from by omega] at e
    exact e
  · intro h i hi
    have hd : 0 < R.length := by
      rcases Nat.eq_zero_or_pos R.length with h0 | h0
      · rw [h0] at hi; simp at hi
      · exact h0
    have hk : i % R.length < R.length := Nat.mod_lt _ hd
    have e : i / R.length * R.length + i % R.length = i := by
      have := Nat.div_add_mod i R.length
      rw [Nat.mul_comm] at this
      exact this
    have g1 := Mm.cbit_at R (i / R.length) (i % R.length) hk
    have g2 := Mm.cbit_at S (i / R.length) (i % R.length) (by omega)
    rw [← hl] at g2
    rw [e] at g1 g2
    have hlv : i / R.length < K := Mm.div_lt hi
    have := h (i % R.length) hk
    rw [g1, g2, Mm.pow_split (m := t) (by omega), Mm.pow_split (a := Cm.z64 (S.getD _ 0)) (m := t) (s := 63 - i / R.length) (by omega), this]
def E1 (R S : List Int) (N : Nat) (a i : Value) : Prop := ∃ k : Nat, k ≤ N ∧ i = .int .i64 k ∧ a = .bool (eqB (Mm.cbit R) (Mm.cbit S) k)
def E2 (w1 : World) (R S : List Int) (t n : Nat) (a i : Value) (wr : World) : Prop := ∃ k j : Nat, k ≤ n ∧ i = .int .i64 k ∧ a = .bool (nuB R S t k) ∧ wr = w1.drewN j
set_option maxRecDepth 100000 in
set_option maxHeartbeats 4000000 in
theorem mbegins_any (R S : List Int) (k0 : Nat) (p q : Option Addr) (n c m e : Nat) (w : World) (hR : Ints w p n c R) (hS : Ints w q m e S) (hn : n ≤ 9223372036854775807) (hm : m ≤ 9223372036854775807) (hk0 : k0 < 256) :
    Calls Try.prog 6 #[.slice p n c, .slice q m e, .int .u8 k0] w fun e w' => e = .returned (.bool true) ∧ Below w.heap.size w w' := by
  have HR := Lib.hid hR
  have HS := Lib.hid hS
  have SR := Lib.hid hR.size
  have SS := Lib.hid hS.size
  clear hR hS
  go_enter Try.func6, Try.ntmps6
  go_wp2_with fail
  refine (alive_any w).mono ?_
  rintro _ w0 ⟨rfl, hb0⟩
  have B0 := Lib.hid hb0
  have HR0 := Lib.hid (HR.out.later hb0)
  have HS0 := Lib.hid (HS.out.later hb0)
  clear hb0
  by_cases hbad : (n < 1 ∨ 8 < n) ∨ n ≠ m
  · by_cases h1 : n < 1
    · have b1 : (n : Int) < 1 := by omega
      clear hbad
      go_wp2_with fail
      go_ret
      exact ⟨rfl, B0.out⟩
    · by_cases h8 : 8 < n
      · have b1 : ¬ (n : Int) < 1 := by omega
        have b2 : (8 : Int) < n := by omega
        clear hbad
        go_wp2_with fail
        go_ret
        exact ⟨rfl, B0.out⟩
      · have b1 : ¬ (n : Int) < 1 := by omega
        have b2 : ¬ (8 : Int) < n := by omega
        have b3 : ((n : Int) != (m : Int)) = true := by simp; omega
        clear hbad
        go_wp2_with fail
        go_ret
        exact ⟨rfl, B0.out⟩
  obtain rfl : n = m := by omega
  have h1 : 1 ≤ n := by omega
  have h8 : n ≤ 8 := by omega
  have b1 : ¬ (n : Int) < 1 := by omega
  have b2 : ¬ (8 : Int) < n := by omega
  clear hbad
  obtain ⟨K, hK⟩ : ∃ K : Nat, (k0 : Int) % 65 = K := ⟨k0 % 65, by omega⟩
  have hK64 : K ≤ 64 := by omega
  go_upto_region 6 with fail
  clear hK
  go_wp2_with fail
  refine (code_any R p n c w0 HR0.out h1 h8).mono ?_
  rintro _ w1 hp
  obtain ⟨g, rfl, -, hr1, hb1⟩ := hp
  have HA1 := Lib.hid (Bytes.row hr1 (Mm.code_ok R))
  have HS1 := Lib.hid (HS0.out.later hb1)
  have HR1 := Lib.hid (HR0.out.later hb1)
  have B1 := Lib.hid (B0.out.trans (hb1.mono B0.out.size))
  clear hr1 hb1
  go_wp2_with fail
  refine (code_any S q n e w1 HS1.out h1 h8).mono ?_
  rintro _ w2 hp
  obtain ⟨g2, rfl, -, hr2, hb2⟩ := hp
  have hA2 := (HA1.out.tx.later hb2).bytes
  have hB2 := Bytes.row hr2 (Mm.code_ok S)
  rw [Mm.code_length, ← SR.out] at hA2
  rw [Mm.code_length, ← SS.out] at hB2
  have HA2 := Lib.hid hA2
  have HB2 := Lib.hid hB2
  have HS2 := Lib.hid (HS1.out.later hb2)
  have HR2 := Lib.hid (HR1.out.later hb2)
  have B2 := Lib.hid (B1.out.trans (hb2.mono B1.out.size))
  clear hr2 hb2 hA2 hB2
  have m0 : (0 : Int) ≤ (K : Int) * n := Int.mul_nonneg (by omega) (by omega)
  have m1 : K * n ≤ 64 * n := Nat.mul_le_mul_right _ hK64
  have m2 : ((K * n : Nat) : Int) = (K : Int) * n := by simp
  have m3 : (K : Int) * n ≤ 64 * n := by omega
  have HM := Lib.hid m2
  clear m2
  go_wp2_with fail
  go_loop [12, 14] (fun a i => E1 R S (K * n) a i) (fun _ i => K * n - (intOf i).toNat)
  case atStart => exact ⟨0, by omega, rfl, rfl⟩
  case round =>
    obtain ⟨k, hk, rfl, rfl⟩ := hrel
    have hm2 : ((K * n : Nat) : Int) = (K : Int) * n := HM.out
    by_cases hlt : k < K * n
    · have i1 : (k : Int) < (K : Int) * n := by omega
      have HE := Lib.hid (eqB_succ (Mm.cbit R) (Mm.cbit S) k)
      have HX := Lib.hid ((bitI_of (B := Mm.code R) (k := k) (i := k) rfl).trans (Mm.code_bit R k (by rw [← SR.out]; omega)))
      have HY := Lib.hid ((bitI_of (B := Mm.code S) (k := k) (i := k) rfl).trans (Mm.code_bit S k (by rw [← SS.out]; omega)))
      have k512 : (k : Int) ≤ 512 := by omega
      clear hm2
      generalize Mm.cbit R k = x at *
      generalize Mm.cbit S k = y at *
      generalize eqB (Mm.cbit R) (Mm.cbit S) k = a at *
      cases a with
      | false =>
        go_wp2_with fail
        go_round
        case rel => exact ⟨k + 1, by omega, by go_num, by rw [HE.out]; rfl⟩
        case measure => simp [intOf]; omega
      | true =>
        go_wp2_with fail
        refine (bit_any (Mm.code R) _ (8 * n) (8 * n) k w2 HA2.out (by omega) (by omega)).mono ?_
        rintro _ w5 ⟨rfl, rfl⟩
        rw [HX.out]
        go_wp2_with fail
        refine (bit_any (Mm.code S) _ (8 * n) (8 * n) k w5 HB2.out (by omega) (by omega)).mono ?_
        rintro _ w6 ⟨rfl, rfl⟩
        rw [HY.out]
        by_cases hxy : x = y
        · subst hxy
          go_wp2_with fail
          go_round
          case rel => exact ⟨k + 1, by omega, by go_num, by rw [HE.out]; simp⟩
          case measure => simp [intOf]; omega
        · have e1 : ((x : Int) == (y : Int)) = false := by simp; omega
          have HXY := Lib.hid hxy
          clear hxy
          go_wp2_with fail
          go_round
          case rel => exact ⟨k + 1, by omega, by go_num, by rw [HE.out, decide_eq_false HXY.out]; rfl⟩
          case measure => simp [intOf]; omega
    · obtain rfl : k = K * n := by omega
      have i1 : ¬ ((K * n : Nat) : Int) < (K : Int) * n := by omega
      rw [hm2]
      obtain ⟨t, ht⟩ : ∃ t : Nat, (64 : Int) - K = t := ⟨64 - K, by omega⟩
      have hbe := begins_eq HR.out.ok HS.out.ok (SR.out.symm.trans SS.out) (K := K) (t := t) (by omega)
      rw [← SR.out] at hbe
      rw [hbe]
      have HBE := Lib.hid hbe
      have HT := Lib.hid ht
      clear hbe ht hm2 i1
      obtain ⟨cb, hcb⟩ : ∃ cb, cb = nuB R S t n := ⟨_, rfl⟩
      rw [← hcb]
      have HCB := Lib.hid hcb
      clear hcb
      by_cases hK0 : K = 0
      · subst hK0
        have h0 : cb = true := by
          rw [HCB.out, ← HBE.out, Nat.zero_mul]
          rfl
        subst h0
        go_wp2_with fail
        go_loop [13, 15] (fun a i => a = .bool true ∧ i = .int .i64 0) (fun _ _ => 0)
        case atStart => exact ⟨rfl, rfl⟩
        case round =>
          obtain ⟨rfl, rfl⟩ := hrel
          go_wp2_with fail
          go_ret
          exact ⟨rfl, B2.out⟩
      · have K1 : (0 : Int) < K := by omega
        go_wp2_with fail
        go_loopw [13, 15] (fun a i wr => E2 w2 R S t n a i wr) (fun _ i _ => n - (intOf i).toNat)
        case atStart => exact ⟨0, 0, by omega, rfl, rfl, rfl⟩
        case round =>
          obtain ⟨k, j, hk, rfl, rfl, rfl⟩ := hrel
          by_cases hlt : k < n
          · obtain ⟨gx, o, rfl, hcx⟩ := HR2.out.cell k hlt
            obtain ⟨gy, o2, rfl, hcy⟩ := HS2.out.cell k hlt
            have i1 : (0 : Int) ≤ k ∧ (k : Int) < n := by omega
            have HE := Lib.hid (show nuB R S t (k + 1) = (nuB R S t k && decide (Cm.z64 (R.getD k 0) / 2 ^ t = Cm.z64 (S.getD k 0) / 2 ^ t)) from rfl)
            have hx := Mm.inI_get HR2.out.ok k
            have hy := Mm.inI_get HS2.out.ok k
            have hxor := xor_z64 hx.1 hx.2 hy.1 hy.2
            have zx := (Mm.z64_in HR2.out.ok k).1
            have zy := (Mm.z64_in HS2.out.ok k).1
            have hz : Cm.z64 (R.getD k 0) ^^^ Cm.z64 (S.getD k 0) < 18446744073709551616 := Nat.xor_lt_two_pow (n := 64) zx zy
            have HD := Lib.hid (Mm.xor_div (Cm.z64 (R.getD k 0)) (Cm.z64 (S.getD k 0)) t)
            clear zx zy hx hy
            generalize Cm.z64 (R.getD k 0) ^^^ Cm.z64 (S.getD k 0) = z at *
            generalize Cm.z64 (R.getD k 0) / 2 ^ t = zr at *
            generalize Cm.z64 (S.getD k 0) / 2 ^ t = zs at *
            generalize R.getD k 0 = x at *
            generalize S.getD k 0 = y at *
            generalize nuB R S t k = a at *
            have q1 : IntKind.i64.wrap ((64 : Int) - K) = (t : Int) := by rw [HT.out]; exact IntWalk.i64_in _ (by have := HT.out; omega)
            have q2 : IntKind.u64.wrap (t : Int) = (t : Int) := by rw [IntKind.wrap_u64]; have := HT.out; omega
            have hsh : (z : Int) / 2 ^ t = ((z / 2 ^ t : Nat) : Int) := by simp
            cases a with
            | false =>
              clear q1 q2 hsh hxor
              go_upto_region 16 with fail
              go_quiet (fail)
              go_wp2_with fail
              go_roundw
              case rel => exact ⟨k + 1, _, by omega, by go_num, by rw [HE.out]; rfl, by first | rfl | simp [World.drewN_drewN]⟩
              case measure => simp [intOf]; omega
            | true =>
              go_upto_region 16 with fail
              go_quiet (fail)
              clear q1 q2 hxor
              rw [show min t 64 = t from by have := HT.out; omega, hsh]
              clear hsh
              generalize z / 2 ^ t = zz at *
              go_wp2_with fail
              go_roundw
              case rel =>
                refine ⟨k + 1, _, by omega, by go_num, ?_, by first | rfl | simp [World.drewN_drewN]⟩
                refine congrArg Value.bool ?_
                rw [HE.out, Bool.true_and, Bool.eq_iff_iff, decide_eq_true_iff, beq_iff_eq, ← HD.out]
                omega
              case measure => simp [intOf]; omega
          · obtain rfl : k = n := by omega
            rw [← HCB.out]
            go_wp2_with fail
            go_ret
            exact ⟨by cases cb <;> rfl, Below.drewN B2.out j⟩
end Go.Proofs.Ytcekcoekbgdkaaa
