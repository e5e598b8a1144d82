/- morton.Ahead. -/
import Derived.Test.YtcekcoekbgdkaaaMorLen
import Derived.Test.YtcekcoekbgdkaaaMorOrd
namespace Go.Proofs.Ytcekcoekbgdkaaa
open Go.RowKit

theorem len64_nat (a : Nat) (ha : a < 18446744073709551616) (w : World) :
    Calls Try.prog 24 #[.int .u64 a] w fun e w' => e = .returned (.int .i64 (Lib.bitLen a)) ∧ w' = w := by
  have := len64_any (a : Int) (by omega) (by omega) w
  rw [Int.toNat_natCast] at this
  exact this
theorem xor_z64 {x y : Int} (x1 : -9223372036854775808 ≤ x) (x2 : x ≤ 9223372036854775807) (y1 : -9223372036854775808 ≤ y) (y2 : y ≤ 9223372036854775807) :
    bits .xor .u64 (IntKind.u64.wrap x) (IntKind.u64.wrap y) = ((Cm.z64 x ^^^ Cm.z64 y : Nat) : Int) := by
  obtain ⟨a, ha, hw⟩ : ∃ a : Nat, a < 18446744073709551616 ∧ IntKind.u64.wrap x = (a : Int) := ⟨(x % 18446744073709551616).toNat, by omega, by rw [IntKind.wrap_u64]; omega⟩
  obtain ⟨b, hb, hv⟩ : ∃ b : Nat, b < 18446744073709551616 ∧ IntKind.u64.wrap y = (b : Int) := ⟨(y % 18446744073709551616).toNat, by omega, by rw [IntKind.wrap_u64]; omega⟩
  have e1 := Cm.sign_int x1 x2
  have e2 := Cm.sign_int y1 y2
  rw [hw] at e1
  rw [hv] at e2
  have f1 := u64_xor_nat a 9223372036854775808 ha (by omega)
  have f2 := u64_xor_nat b 9223372036854775808 hb (by omega)
  have g1 : Cm.z64 x = a ^^^ 9223372036854775808 := Int.ofNat.inj (e1.symm.trans f1)
  have g2 : Cm.z64 y = b ^^^ 9223372036854775808 := Int.ofNat.inj (e2.symm.trans f2)
  rw [hw, hv, u64_xor_nat a b ha hb, g1, g2]
  congr 1
  rw [Nat.xor_comm b, Nat.xor_assoc, ← Nat.xor_assoc 9223372036854775808, Nat.xor_self, Nat.zero_xor]
def ARel (w : World) (P Q : List Int) (n : Nat) (hi ah i : Value) (wr : World) : Prop :=
  ∃ k d : Nat, k ≤ n ∧ i = .int .i64 k ∧ hi = .int .i64 (Mm.ahd P Q k).1 ∧ ah = .bool (Mm.ahd P Q k).2 ∧ wr = w.drewN d
def AheadPost (w : World) (b : Bool) (e : Ending) (w' : World) : Prop := e = .returned (.bool b) ∧ ∃ d, w' = w.drewN d
theorem ahead_no (p q : Option Addr) (n c m e : Nat) (w : World) (h : (n < 1 ∨ 8 < n) ∨ n ≠ m) (hn : n ≤ 9223372036854775807) (hm : m ≤ 9223372036854775807) :
    Calls Try.prog 16 #[.slice p n c, .slice q m e] w (AheadPost w false) := by
  by_cases hd : n < 1 ∨ 8 < n
  · clear h
    go_enter Try.func16, Try.ntmps16
    go_wp2_with fail
    refine (dim_no n (by omega) _).mono ?_
    rintro e w' ⟨rfl, rfl⟩
    go_wp2_with fail
    go_ret
    exact ⟨rfl, 0, rfl⟩
  · have hne : ¬ (n : Int) = m := by omega
    have d1 : (1 : Int) ≤ n := by omega
    have d2 : (n : Int) ≤ 8 := by omega
    clear h hd
    go_enter Try.func16, Try.ntmps16
    go_wp2_with fail
    refine (dim_yes n d1 d2 _).mono ?_
    rintro e w' ⟨rfl, rfl⟩
    go_wp2_with fail
    go_ret
    exact ⟨rfl, 0, rfl⟩
set_option maxRecDepth 100000 in
set_option maxHeartbeats 4000000 in
theorem ahead_any (P Q : List Int) (p q : Option Addr) (n c e : Nat) (w : World) (hP : Ints w p n c P) (hQ : Ints w q n e Q) (h1 : 1 ≤ n) (h8 : n ≤ 8) :
    Calls Try.prog 16 #[.slice p n c, .slice q n e] w (AheadPost w (decide (Cm.cmpL (Mm.code P) (Mm.code Q) < 0))) := by
  have hend := Mm.ahd_code hP.ok hQ.ok (hP.size.symm.trans hQ.size)
  rw [← hP.size] at hend
  rw [← hend]
  have H1 := Lib.hid hP
  have H2 := Lib.hid hQ
  clear hP hQ hend
  go_enter Try.func16, Try.ntmps16
  go_wp2_with fail
  refine (dim_yes n (by omega) (by omega) _).mono ?_
  rintro e w' ⟨rfl, rfl⟩
  go_wp2_with fail
  go_loopw [5, 6, 23] (fun hi ah i wr => ARel w' P Q n hi ah i wr) (fun _ _ i _ => n - (intOf i).toNat)
  case atStart => exact ⟨0, 0, by omega, rfl, rfl, rfl, rfl⟩
  case round =>
    obtain ⟨k, d, hk, rfl, rfl, rfl, rfl⟩ := hrel
    by_cases hlt : k < n
    · obtain ⟨gx, o, rfl, hcx⟩ := H1.out.cell k hlt
      obtain ⟨gy, o2, rfl, hcy⟩ := H2.out.cell k hlt
      have i1 : (0 : Int) ≤ k ∧ (k : Int) < n := by omega
      have hx := Mm.inI_get H1.out.ok k
      have hy := Mm.inI_get H2.out.ok k
      have hxor := xor_z64 hx.1 hx.2 hy.1 hy.2
      have zx := (Mm.z64_in H1.out.ok k).1
      have zy := (Mm.z64_in H2.out.ok k).1
      have hz : Cm.z64 (P.getD k 0) ^^^ Cm.z64 (Q.getD k 0) < 18446744073709551616 := Nat.xor_lt_two_pow (n := 64) zx zy
      have hs : Mm.ahd P Q (k + 1) = if (Mm.ahd P Q k).1 < Lib.bitLen (Cm.z64 (P.getD k 0) ^^^ Cm.z64 (Q.getD k 0)) then (Lib.bitLen (Cm.z64 (P.getD k 0) ^^^ Cm.z64 (Q.getD k 0)), decide (P.getD k 0 < Q.getD k 0)) else Mm.ahd P Q k := rfl
      have HS := Lib.hid hs
      clear zx zy hs hx hy
      generalize Cm.z64 (P.getD k 0) ^^^ Cm.z64 (Q.getD k 0) = z at *
      generalize P.getD k 0 = x at *
      generalize Q.getD k 0 = y at *
      go_wp2_with fail
      refine (len64_nat z hz _).mono ?_
      rintro e w5 ⟨rfl, rfl⟩
      obtain ⟨hi0, ah0, hah⟩ : ∃ a b, Mm.ahd P Q k = (a, b) := ⟨_, _, rfl⟩
      rw [hah] at HS ⊢
      clear hah hxor
      generalize Lib.bitLen z = t at *
      by_cases hgt : hi0 < t
      · have g1 : (hi0 : Int) < t := by omega
        go_upto_region 9 with fail
        go_quiet (fail)
        go_wp2_with fail
        go_roundw
        case rel => exact ⟨k + 1, _, by omega, by go_num, by rw [HS.out, if_pos hgt], by rw [HS.out, if_pos hgt], by first | rfl | simp [World.drewN_drewN]⟩
        case measure => simp [intOf]; omega
      · have g1 : ¬ (hi0 : Int) < t := by omega
        go_wp2_with fail
        go_roundw
        case rel => exact ⟨k + 1, d, by omega, by go_num, by rw [HS.out, if_neg hgt], by rw [HS.out, if_neg hgt], rfl⟩
        case measure => simp [intOf]; omega
    · obtain rfl : k = n := by omega
      go_wp2_with fail
      go_ret
      exact ⟨rfl, d, rfl⟩
end Go.Proofs.Ytcekcoekbgdkaaa
