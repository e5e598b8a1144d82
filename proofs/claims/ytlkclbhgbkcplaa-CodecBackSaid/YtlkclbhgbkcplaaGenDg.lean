/- Digests: arrays of 32 bytes, compared. -/
import Derived.Test.YtlkclbhgbkcplaaGen
namespace Go.Proofs.Ytlkclbhgbkcplaa
open Go.RowKit

theorem A25 : Try.prog.underlying 30 = some (.array 32 5) := by kernel_rfl
theorem Z25 : (Try.prog.info? 30).map (fun i => (i.zero, i.size)) = some (some (.agg (u8s (zeros 32))), 32) := by kernel_rfl
theorem S25 : (Try.prog.info? 30).map (·.size) = some 32 := by kernel_rfl
theorem digest_equal (a b : List Nat) (ha : a.length = 32) (hb : b.length = 32) (d : Nat) (w : World) : (Op.equalIn (d + 2) 30 (.agg (u8s a)) (.agg (u8s b))).run Try.prog w = .ok (decide (a = b)) w := by
  obtain ⟨i, hi, hi1⟩ : ∃ i, Try.prog.info? 5 = some i ∧ i.size = 1 := by
    obtain ⟨i5, hi, _, hi1, _⟩ := info_parts I5
    exact ⟨i5, hi, hi1⟩
  rw [run_equalIn_array w (d + 1) (u8s a) (u8s b) A25 hi, C5, eqItems_u8 a b d w _ (fun i hi => by have := List.mem_range.1 hi; omega), all_getD a b ha hb]
theorem digest_eql (a b : List Nat) (ha : a.length = 32) (hb : b.length = 32) (w : World) : (binOp .eql 30 (.agg (u8s a)) (.agg (u8s b))).run Try.prog w = .ok (.bool (decide (a = b))) w := by
  rw [run_eql_struct, digest_equal a b ha hb 9998 w]
  rfl
theorem digest_neq (a b : List Nat) (ha : a.length = 32) (hb : b.length = 32) (w : World) : (binOp .neq 30 (.agg (u8s a)) (.agg (u8s b))).run Try.prog w = .ok (.bool (!decide (a = b))) w := by
  rw [run_neq_struct, digest_equal a b ha hb 9998 w]
  rfl
end Go.Proofs.Ytlkclbhgbkcplaa
