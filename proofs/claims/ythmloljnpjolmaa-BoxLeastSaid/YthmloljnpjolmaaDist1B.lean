/- dist.Gap. -/
import Derived.Test.YthmloljnpjolmaaDist1
namespace Go.Proofs.Ythmloljnpjolmaa
open Go.RowKit

set_option maxRecDepth 100000 in
theorem gap_any (a b c : Int) (ha : -9223372036854775808 ≤ a ∧ a ≤ 9223372036854775807) (hb : -9223372036854775808 ≤ b ∧ b ≤ 9223372036854775807) (hc : -9223372036854775808 ≤ c ∧ c ≤ 9223372036854775807) (w : World) :
    Calls Try.prog 63 #[.int .i64 a, .int .i64 b, .int .i64 c] w fun e w' => e = .returned (.int .u64 (gap a b c)) ∧ w' = w := by
  by_cases h : a < b
  · go_enter Try.func63, Try.ntmps63
    go_wp2_with (go_at_call 52; refine (apart_any _ _ ha hb _).mono ?_; rintro e w' ⟨rfl, rfl⟩)
    go_ret
    refine ⟨ret_eq ?_, rfl⟩
    unfold gap
    rw [if_pos h]
  · by_cases h2 : c < a
    · go_enter Try.func63, Try.ntmps63
      go_wp2_with (go_at_call 52; refine (apart_any _ _ ha hc _).mono ?_; rintro e w' ⟨rfl, rfl⟩)
      go_ret
      refine ⟨ret_eq ?_, rfl⟩
      unfold gap
      rw [if_neg (by omega), if_pos h2]
    · go_enter Try.func63, Try.ntmps63
      go_wp2_with fail
      go_ret
      refine ⟨ret_eq ?_, rfl⟩
      unfold gap
      rw [if_neg (by omega), if_neg (by omega)]
end Go.Proofs.Ythmloljnpjolmaa
