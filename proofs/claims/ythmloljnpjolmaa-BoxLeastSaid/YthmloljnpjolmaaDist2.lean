/- dist.Add by math/bits.Add64. -/
import Derived.Test.YthmloljnpjolmaaDist1
namespace Go.Proofs.Ythmloljnpjolmaa
open Go.RowKit

theorem add64 (x y c : Int) (hx : 0 ≤ x) (hy : 0 ≤ y) (hc0 : 0 ≤ c) (hc : c ≤ 1) (w : World) : (callFunc 69 #[.int .u64 x, .int .u64 y, .int .u64 c]).run Try.prog w =
    .ok (.value (.tuple #[.int .u64 ((x + y + c) % 18446744073709551616), .int .u64 ((x + y + c) / 18446744073709551616)])) w := by
  rw [run_callFunc_extern Try.func69 (by kernel_rfl) (by kernel_rfl) (by kernel_rfl) (e := add64Entry) (by kernel_rfl), run_add64 x y c hx hy hc0 hc]
  rfl
theorem add64_0 (x y : Int) (hx : 0 ≤ x) (hy : 0 ≤ y) (w : World) : (callFunc 69 #[.int .u64 x, .int .u64 y, .int .u64 0]).run Try.prog w =
    .ok (.value (.tuple #[.int .u64 ((x + y) % 18446744073709551616), .int .u64 ((x + y) / 18446744073709551616)])) w := by
  simpa using add64 x y 0 hx hy (Int.le_refl 0) (by decide) w
theorem add64_1 (x c : Int) (hx : 0 ≤ x) (hc0 : 0 ≤ c) (hc : c ≤ 1) (w : World) : (callFunc 69 #[.int .u64 x, .int .u64 0, .int .u64 c]).run Try.prog w =
    .ok (.value (.tuple #[.int .u64 ((x + c) % 18446744073709551616), .int .u64 ((x + c) / 18446744073709551616)])) w := by
  simpa using add64 x 0 c hx (Int.le_refl 0) hc0 hc w
theorem add_hi (n k : Int) (hk : 0 ≤ k ∧ k < 18446744073709551616) : (n / 18446744073709551616 % 18446744073709551616 + (n % 18446744073709551616 + k) / 18446744073709551616) % 18446744073709551616 = (n + k) / 18446744073709551616 % 18446744073709551616 := by omega
theorem add_lo (n k : Int) : (n % 18446744073709551616 + k) % 18446744073709551616 = (n + k) % 18446744073709551616 := by omega
set_option maxRecDepth 100000 in
theorem add_any (n k : Int) (hk : 0 ≤ k ∧ k < 18446744073709551616) (w : World) :
    Calls Try.prog 67 #[dV n, .int .u64 k] w fun e w' => e = .returned (dV (n + k)) ∧ Below w.heap.size w w' := by
  have e1 := add_hi n k hk
  have e2 := add_lo n k
  have l0 : 0 ≤ n % 18446744073709551616 := by omega
  have l1 : n % 18446744073709551616 < 18446744073709551616 := by omega
  have l2 : 0 ≤ n / 18446744073709551616 % 18446744073709551616 := by omega
  unfold dV
  rw [← e1, ← e2]
  generalize n / 18446744073709551616 % 18446744073709551616 = hi at *
  generalize n % 18446744073709551616 = lo at *
  clear e1 e2
  have k0 : 0 ≤ (lo + k) / 18446744073709551616 := by omega
  have k1 : (lo + k) / 18446744073709551616 ≤ 1 := by omega
  have hk0 := hk.1
  clear hk
  go_enter Try.func67, Try.ntmps67
  go_wp2_with (first | simp only [add64_0 lo k l0 hk0] | simp only [add64_1 hi _ l2 k0 k1])
  simp [bodyPost, results, Try.results67, go_sem]
  exact (((Below.refl _ _).alloc (Nat.le_refl _) _).alloc (by simp) _)
end Go.Proofs.Ythmloljnpjolmaa
