/- dist's numbers: Apart, Gap, Add, Cmp; indentureref03's Apart, Gap, Less. -/
import Derived.Test.YthmloljnpjolmaaGenInts
import Derived.Laws.Externs
namespace Go.Proofs.Ythmloljnpjolmaa
open Go.RowKit

/-- A distance, as the program has it. -/
def dV (n : Int) : Value := .agg #[.int .u64 (n / 18446744073709551616 % 18446744073709551616), .int .u64 (n % 18446744073709551616)]
def dRow (n : Int) : Array Value := #[.int .u64 (n / 18446744073709551616 % 18446744073709551616), .int .u64 (n % 18446744073709551616)]
def apart (a b : Int) : Int := if a < b then b - a else a - b
def gap (x lo hi : Int) : Int := if x < lo then apart x lo else if hi < x then apart x hi else 0
theorem apart_word {a b : Int} (ha : -9223372036854775808 ≤ a ∧ a ≤ 9223372036854775807) (hb : -9223372036854775808 ≤ b ∧ b ≤ 9223372036854775807) : 0 ≤ apart a b ∧ apart a b < 18446744073709551616 := by
  unfold apart; split <;> omega
theorem gap_word {a b c : Int} (ha : -9223372036854775808 ≤ a ∧ a ≤ 9223372036854775807) (hb : -9223372036854775808 ≤ b ∧ b ≤ 9223372036854775807) (hc : -9223372036854775808 ≤ c ∧ c ≤ 9223372036854775807) : 0 ≤ gap a b c ∧ gap a b c < 18446744073709551616 := by
  unfold gap
  split
  · exact apart_word ha hb
  · split
    · exact apart_word ha hc
    · omega
theorem apart_sub (a b : Int) (h : b ≤ a) (ha : -9223372036854775808 ≤ a ∧ a ≤ 9223372036854775807) (hb : -9223372036854775808 ≤ b ∧ b ≤ 9223372036854775807) : (a % 18446744073709551616 - b % 18446744073709551616) % 18446744073709551616 = a - b := by omega
theorem ret_eq {x y : Int} (h : x = y) : Ending.returned (.int .u64 x) = Ending.returned (.int .u64 y) := by rw [h]
set_option maxRecDepth 100000 in
theorem apart_any (a b : Int) (ha : -9223372036854775808 ≤ a ∧ a ≤ 9223372036854775807) (hb : -9223372036854775808 ≤ b ∧ b ≤ 9223372036854775807) (w : World) :
    Calls Try.prog 52 #[.int .i64 a, .int .i64 b] w fun e w' => e = .returned (.int .u64 (apart a b)) ∧ w' = w := by
  by_cases h : a < b
  · go_enter Try.func52, Try.ntmps52
    go_wp2
    go_ret
    refine ⟨ret_eq ?_, rfl⟩
    unfold apart
    rw [if_pos h, IntKind.wrap_u64, IntKind.wrap_u64, IntKind.wrap_u64]
    omega
  · go_enter Try.func52, Try.ntmps52
    go_wp2
    go_ret
    refine ⟨ret_eq ?_, rfl⟩
    unfold apart
    rw [if_neg (by omega), IntKind.wrap_u64, IntKind.wrap_u64, IntKind.wrap_u64]
    omega
set_option maxRecDepth 100000 in
theorem refapart_any (a b : Int) (ha : -9223372036854775808 ≤ a ∧ a ≤ 9223372036854775807) (hb : -9223372036854775808 ≤ b ∧ b ≤ 9223372036854775807) (w : World) :
    Calls Try.prog 54 #[.int .i64 a, .int .i64 b] w fun e w' => e = .returned (.int .u64 (apart a b)) ∧ w' = w := by
  by_cases h : b < a
  · go_enter Try.func54, Try.ntmps54
    go_wp2
    go_ret
    refine ⟨ret_eq ?_, rfl⟩
    unfold apart
    rw [if_neg (by omega), IntKind.wrap_u64, IntKind.wrap_u64, IntKind.wrap_u64]
    omega
  · go_enter Try.func54, Try.ntmps54
    go_wp2
    go_ret
    refine ⟨ret_eq ?_, rfl⟩
    unfold apart
    rw [IntKind.wrap_u64, IntKind.wrap_u64, IntKind.wrap_u64]
    split <;> omega
end Go.Proofs.Ythmloljnpjolmaa
