/- Digests held against one another. -/
import Derived.Test.YtffjmkbglhcblaaShaAlive
import Derived.ChangeKeysEq
namespace Go.Proofs.Ytffjmkbglhcblaa
open Go.RowKit

theorem C5 : Try.prog.cellsOf 5 = 1 := by kernel_rfl
theorem run_part_u8 (l : List Nat) (i : Nat) (h : i < l.length) (w : World) : (_root_.Go.part 5 (u8s l) (i * 1)).run Try.prog w = .ok (.int .u8 (l.getD i 0 : Nat)) w := by
  have hagg : (isAgg 5).run Try.prog w = .ok false w := by
    unfold isAgg
    rw [Sem.run_bind, run_underlying U5 w]
    rfl
  have := u8s_get l i h
  simp [_root_.Go.part, Sem.run_bind, hagg, this]
theorem eqItems_u8 (a b : List Nat) (d : Nat) (w : World) : ∀ is : List Nat, (∀ i ∈ is, i < a.length ∧ i < b.length) → (Op.eqItems (d + 1) 5 1 (u8s a) (u8s b) is).run Try.prog w = .ok (is.all fun i => a.getD i 0 == b.getD i 0) w
  | [], _ => rfl
  | i :: is, h => by
    have h1 := h i (by simp)
    have ih := eqItems_u8 a b d w is (fun j hj => h j (by simp [hj]))
    have e1 : (Op.equalIn (d + 1) 5 (.int .u8 (a.getD i 0 : Nat)) (.int .u8 (b.getD i 0 : Nat))).run Try.prog w = .ok (a.getD i 0 == b.getD i 0) w := by
      rw [run_equalIn_int w d 5 .u8 .u8 _ _ U5]
      congr 1
      rw [Bool.eq_iff_iff]
      simp only [beq_iff_eq]
      omega
    simp only [Op.eqItems, Sem.run_bind, run_part_u8 a i h1.1, run_part_u8 b i h1.2, Result.andThen_ok, e1]
    cases hc : (a.getD i 0 == b.getD i 0)
    · simp only [List.all_cons, hc, Bool.false_and]
      rfl
    · simp only [List.all_cons, hc, Bool.true_and, Bool.not_true, Bool.false_eq_true, if_false]
      exact ih
theorem all_getD (a b : List Nat) (ha : a.length = 32) (hb : b.length = 32) : ((List.range 32).all fun i => a.getD i 0 == b.getD i 0) = decide (a = b) := by
  rw [Bool.eq_iff_iff]
  simp only [List.all_eq_true, List.mem_range, beq_iff_eq, decide_eq_true_eq]
  constructor
  · intro h
    apply List.ext_getElem (by omega)
    intro i h1 h2
    have := h i (by omega)
    simpa [List.getD_eq_getElem?_getD, List.getElem?_eq_getElem h1, List.getElem?_eq_getElem h2] using this
  · rintro rfl i _
    rfl
theorem digest_equal (a b : List Nat) (ha : a.length = 32) (hb : b.length = 32) (d : Nat) (w : World) : (Op.equalIn (d + 2) 25 (.agg (u8s a)) (.agg (u8s b))).run Try.prog w = .ok (decide (a = b)) w := by
  obtain ⟨i, hi, hi1⟩ : ∃ i, Try.prog.info? 5 = some i ∧ i.size = 1 := by
    obtain ⟨i5, hi, _, hi1, _⟩ := info_parts I5
    exact ⟨i5, hi, hi1⟩
  rw [run_equalIn_array w (d + 1) (u8s a) (u8s b) A25 hi, C5, eqItems_u8 a b d w _ (fun i hi => by have := List.mem_range.1 hi; omega), all_getD a b ha hb]
theorem digest_eql (a b : List Nat) (ha : a.length = 32) (hb : b.length = 32) (w : World) : (binOp .eql 25 (.agg (u8s a)) (.agg (u8s b))).run Try.prog w = .ok (.bool (decide (a = b))) w := by
  rw [run_eql_struct, digest_equal a b ha hb 9998 w]
  rfl
theorem digest_neq (a b : List Nat) (ha : a.length = 32) (hb : b.length = 32) (w : World) : (binOp .neq 25 (.agg (u8s a)) (.agg (u8s b))).run Try.prog w = .ok (.bool (!decide (a = b))) w := by
  rw [run_neq_struct, digest_equal a b ha hb 9998 w]
  rfl
end Go.Proofs.Ytffjmkbglhcblaa
