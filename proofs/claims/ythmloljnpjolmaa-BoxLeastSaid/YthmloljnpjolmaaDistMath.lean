/- Plain arithmetic of distances: no Go in sight. -/
import Derived.Test.YthmloljnpjolmaaDist4
namespace Go.Proofs.Ythmloljnpjolmaa

theorem apart_comm (a b : Int) : apart a b = apart b a := by unfold apart; split <;> split <;> omega
theorem apart_tri (a b c : Int) : apart a b ≤ apart a c + apart c b := by unfold apart; split <;> split <;> split <;> omega
theorem apart_nonneg (a b : Int) : 0 ≤ apart a b := by unfold apart; split <;> omega
theorem apart_zero (a b : Int) : apart a b = 0 ↔ a = b := by unfold apart; split <;> omega
theorem tot_nonneg (f : Nat → Int) : ∀ n, (∀ k, k < n → 0 ≤ f k) → 0 ≤ tot f n
  | 0, _ => Int.le_refl 0
  | n + 1, h => by
    have := tot_nonneg f n (fun k hk => h k (by omega))
    have := h n (by omega)
    rw [tot_succ]; omega
theorem tot_lt (f : Nat → Int) : ∀ n : Nat, (∀ k, k < n → f k < 18446744073709551616) → tot f n ≤ n * 18446744073709551616
  | 0, _ => by show (0 : Int) ≤ _; omega
  | n + 1, h => by
    have := tot_lt f n (fun k hk => h k (by omega))
    have := h n (by omega)
    rw [tot_succ]; omega
theorem tot_mono (f g : Nat → Int) : ∀ n, (∀ k, k < n → f k ≤ g k) → tot f n ≤ tot g n
  | 0, _ => Int.le_refl 0
  | n + 1, h => by
    have := tot_mono f g n (fun k hk => h k (by omega))
    have := h n (by omega)
    rw [tot_succ, tot_succ]; omega
theorem tot_add (f g : Nat → Int) : ∀ n, tot (fun k => f k + g k) n = tot f n + tot g n
  | 0 => rfl
  | n + 1 => by
    have := tot_add f g n
    rw [tot_succ, tot_succ, tot_succ, this]; omega
theorem tot_zero (f : Nat → Int) : ∀ n, (∀ k, k < n → 0 ≤ f k) → (tot f n = 0 ↔ ∀ k, k < n → f k = 0)
  | 0, _ => ⟨fun _ k hk => by omega, fun _ => rfl⟩
  | n + 1, h => by
    have ih := tot_zero f n (fun k hk => h k (by omega))
    have h1 := tot_nonneg f n (fun k hk => h k (by omega))
    have h2 := h n (by omega)
    rw [tot_succ]
    constructor
    · intro e k hk
      have e1 : tot f n = 0 := by omega
      have e2 : f n = 0 := by omega
      by_cases hkn : k = n
      · rw [hkn]; exact e2
      · exact ih.1 e1 k (by omega)
    · intro e
      rw [ih.2 (fun k hk => e k (by omega)), e n (by omega)]
      rfl
/-- Whether the first so many numbers are the same. -/
def eqs (P Q : List Int) : Nat → Bool
  | 0 => true
  | k + 1 => eqs P Q k && (P.getD k 0 == Q.getD k 0)
theorem eqs_iff (P Q : List Int) : ∀ n, eqs P Q n = true ↔ ∀ k, k < n → P.getD k 0 = Q.getD k 0
  | 0 => ⟨fun _ k hk => by omega, fun _ => rfl⟩
  | n + 1 => by
    show (eqs P Q n && (P.getD n 0 == Q.getD n 0)) = true ↔ _
    rw [Bool.and_eq_true, eqs_iff P Q n, beq_iff_eq]
    constructor
    · rintro ⟨h1, h2⟩ k hk
      by_cases hkn : k = n
      · rw [hkn]; exact h2
      · exact h1 k (by omega)
    · intro h
      exact ⟨fun k hk => h k (by omega), h n (by omega)⟩
theorem zero_eqs (P Q : List Int) (n : Nat) : tot (fun k => apart (P.getD k 0) (Q.getD k 0)) n = 0 ↔ eqs P Q n = true := by
  rw [tot_zero _ n (fun k _ => apart_nonneg _ _), eqs_iff]
  exact ⟨fun h k hk => (apart_zero _ _).1 (h k hk), fun h k hk => (apart_zero _ _).2 (h k hk)⟩
theorem dV_inj {a : Int} {hi lo : Int} (h : dV a = .agg #[.int .u64 hi, .int .u64 lo]) : hi = a / 18446744073709551616 % 18446744073709551616 ∧ lo = a % 18446744073709551616 := by
  unfold dV at h
  simp only [Value.agg.injEq, Array.mk.injEq, List.cons.injEq, Value.int.injEq, true_and, and_true] at h
  exact ⟨h.1.symm, h.2.symm⟩
theorem dcmp_le {a b : Int} (h0 : 0 ≤ a) (h : a ≤ b) (hb : b < 340282366920938463463374607431768211456) {a1 a0 b1 b0 : Int} (ha : dV a = .agg #[.int .u64 a1, .int .u64 a0]) (hbb : dV b = .agg #[.int .u64 b1, .int .u64 b0]) : dcmp a1 a0 b1 b0 ≤ 0 := by
  obtain ⟨rfl, rfl⟩ := dV_inj ha
  obtain ⟨rfl, rfl⟩ := dV_inj hbb
  unfold dcmp
  split
  · omega
  · split
    · omega
    · rename_i h1 h2
      exfalso
      omega
theorem dV_eq_zero {a : Int} (h0 : 0 ≤ a) (hb : a < 340282366920938463463374607431768211456) {a1 a0 : Int} (ha : dV a = .agg #[.int .u64 a1, .int .u64 a0]) : decide (a1 = 0 ∧ a0 = 0) = decide (a = 0) := by
  obtain ⟨rfl, rfl⟩ := dV_inj ha
  rw [Bool.eq_iff_iff, decide_eq_true_iff, decide_eq_true_iff]
  omega
/-- d's high word on top of c and d's low word. -/
theorem add_high (c d c1 c0 d1 d0 b1 b0 : Int) (hd : dV d = .agg #[.int .u64 d1, .int .u64 d0]) (hb : dV (c + d0) = .agg #[.int .u64 b1, .int .u64 b0]) : dV (c + d) = .agg #[.int .u64 ((b1 + d1) % 18446744073709551616), .int .u64 b0] := by
  obtain ⟨rfl, rfl⟩ := dV_inj hd
  obtain ⟨rfl, rfl⟩ := dV_inj hb
  have e : (c + d) / 18446744073709551616 = (c + d % 18446744073709551616) / 18446744073709551616 + d / 18446744073709551616 := by omega
  have e2 : (c + d) % 18446744073709551616 = (c + d % 18446744073709551616) % 18446744073709551616 := by omega
  unfold dV
  rw [e, e2, Int.add_emod]
end Go.Proofs.Ythmloljnpjolmaa
