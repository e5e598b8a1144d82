/- Distances compared: '==' of two, dist.Cmp, indentureref03.Less. -/
import Derived.Test.YthmloljnpjolmaaDist2
namespace Go.Proofs.Ythmloljnpjolmaa
open Go.RowKit

theorem U23 : Try.prog.underlying 35 = some (.int .u64) := by kernel_rfl
theorem F25 : (Try.prog.fieldsOf 37).toList.map (fun f => (f.name == "_", f.offset, f.type)) = [(false, 0, 35), (false, 1, 35)] := by kernel_rfl
theorem US25 : Try.prog.underlying 37 = some (.struct (Try.prog.fieldsOf 37)) := by kernel_rfl
theorem SH25 : Try.prog.stoodInHeld 37 = false := by kernel_rfl
theorem part_u64 (xs : Array Value) (i : Nat) (v : Int) (h : xs[i]? = some (.int .u64 v)) (w : World) : (_root_.Go.part 35 xs i).run Try.prog w = .ok (.int .u64 v) w := by
  have hagg : (isAgg 35).run Try.prog w = .ok false w := by
    unfold isAgg
    rw [Sem.run_bind, run_underlying U23 w]
    rfl
  simp [_root_.Go.part, Sem.run_bind, hagg, h]
theorem dist_equal (a b c d : Int) (m : Nat) (w : World) : (Op.equalIn (m + 2) 37 (.agg #[.int .u64 a, .int .u64 b]) (.agg #[.int .u64 c, .int .u64 d])).run Try.prog w = .ok (decide (a = c ∧ b = d)) w := by
  rw [run_equalIn_struct w (m + 1) _ _ _ US25 SH25]
  have hf := F25
  match hl : (Try.prog.fieldsOf 37).toList with
  | [] => rw [hl] at hf; simp at hf
  | [_] => rw [hl] at hf; simp at hf
  | _ :: _ :: _ :: _ => rw [hl] at hf; simp at hf
  | [f, g] =>
    rw [hl] at hf
    simp only [List.map_cons, List.map_nil, List.cons.injEq, Prod.mk.injEq, and_true, beq_eq_false_iff_ne] at hf
    obtain ⟨⟨n1, o1, t1⟩, n2, o2, t2⟩ := hf
    simp only [Op.eqFields, n1, n2, o1, o2, t1, t2, ne_eq, not_false_eq_true, if_true, Sem.run_bind]
    rw [part_u64 #[.int .u64 a, .int .u64 b] 0 a rfl, Result.andThen_ok, part_u64 #[.int .u64 c, .int .u64 d] 0 c rfl, Result.andThen_ok, run_equalIn_int w m 35 .u64 .u64 a c U23, Result.andThen_ok]
    by_cases h : a = c
    · subst h
      simp only [BEq.rfl, Bool.not_true, Bool.false_eq_true, if_false, true_and, Sem.run_bind]
      rw [part_u64 #[.int .u64 a, .int .u64 b] 1 b rfl, Result.andThen_ok, part_u64 #[.int .u64 a, .int .u64 d] 1 d rfl, Result.andThen_ok, run_equalIn_int w m 35 .u64 .u64 b d U23, Result.andThen_ok]
      by_cases h2 : b = d
      · subst h2
        simp
      · simp [h2]
    · simp [h]
theorem dist_eql (a b c d : Int) (w : World) : (binOp .eql 37 (.agg #[.int .u64 a, .int .u64 b]) (.agg #[.int .u64 c, .int .u64 d])).run Try.prog w = .ok (.bool (decide (a = c ∧ b = d))) w := by
  rw [run_eql_struct, dist_equal a b c d 9998 w]
  rfl
theorem dist_neq (a b c d : Int) (w : World) : (binOp .neq 37 (.agg #[.int .u64 a, .int .u64 b]) (.agg #[.int .u64 c, .int .u64 d])).run Try.prog w = .ok (.bool (!decide (a = c ∧ b = d))) w := by
  rw [run_neq_struct, dist_equal a b c d 9998 w]
  rfl
/-- Which of two distances is less. -/
def dcmp (a b c d : Int) : Int := if a = c ∧ b = d then 0 else if a < c ∨ a = c ∧ b < d then -1 else 1
set_option maxRecDepth 100000 in
set_option maxHeartbeats 1000000 in
theorem cmp_any (a b c d : Int) (w : World) :
    Calls Try.prog 56 #[.agg #[.int .u64 a, .int .u64 b], .agg #[.int .u64 c, .int .u64 d]] w fun e w' => e = .returned (.int .i64 (dcmp a b c d)) ∧ Below w.heap.size w w' := by
  have hb : ∀ x y, Below w.heap.size w ((w.alloc x).alloc y) := fun x y => ((Below.refl _ _).alloc (Nat.le_refl _) _).alloc (by simp) _
  have q := dist_eql a b c d
  by_cases h1 : a = c ∧ b = d
  · simp only [h1, and_self, decide_true] at q
    have e : dcmp a b c d = 0 := by unfold dcmp; rw [if_pos h1]
    rw [e]
    obtain ⟨rfl, rfl⟩ := h1
    clear e
    go_enter Try.func56, Try.ntmps56
    go_wp2_with fail
    go_ret
    exact ⟨rfl, hb _ _⟩
  · simp only [h1, decide_false] at q
    by_cases h2 : a < c
    · have e : dcmp a b c d = -1 := by unfold dcmp; rw [if_neg h1, if_pos (Or.inl h2)]
      rw [e]
      clear e h1
      go_enter Try.func56, Try.ntmps56
      go_wp2_with fail
      go_ret
      exact ⟨rfl, hb _ _⟩
    · by_cases h3 : a = c
      · subst h3
        by_cases h4 : b < d
        · have e : dcmp a b a d = -1 := by unfold dcmp; rw [if_neg h1, if_pos (Or.inr ⟨rfl, h4⟩)]
          rw [e]
          clear e h1
          go_enter Try.func56, Try.ntmps56
          go_wp2_with fail
          go_ret
          exact ⟨rfl, hb _ _⟩
        · have e : dcmp a b a d = 1 := by unfold dcmp; rw [if_neg h1, if_neg (by omega)]
          rw [e]
          clear e h1
          go_enter Try.func56, Try.ntmps56
          go_wp2_with fail
          go_ret
          exact ⟨rfl, hb _ _⟩
      · have e : dcmp a b c d = 1 := by unfold dcmp; rw [if_neg h1, if_neg (by omega)]
        have h5 : (a == c) = false := by simpa using h3
        rw [e]
        clear e h1
        go_enter Try.func56, Try.ntmps56
        go_wp2_with fail
        go_ret
        exact ⟨rfl, hb _ _⟩
set_option maxRecDepth 100000 in
set_option maxHeartbeats 1000000 in
theorem less_any (a b c d : Int) (w : World) :
    Calls Try.prog 23 #[.agg #[.int .u64 a, .int .u64 b], .agg #[.int .u64 c, .int .u64 d]] w fun e w' => e = .returned (.bool (decide (a < c ∨ a = c ∧ b < d))) ∧ Below w.heap.size w w' := by
  have hb : ∀ x y, Below w.heap.size w ((w.alloc x).alloc y) := fun x y => ((Below.refl _ _).alloc (Nat.le_refl _) _).alloc (by simp) _
  by_cases h3 : a = c
  · subst h3
    have e : decide (a < a ∨ a = a ∧ b < d) = decide (b < d) := by
      rw [Bool.eq_iff_iff]; simp
    rw [e]
    clear e
    go_enter Try.func23, Try.ntmps23
    go_wp2_with fail
    go_ret
    exact ⟨rfl, hb _ _⟩
  · have e : decide (a < c ∨ a = c ∧ b < d) = decide (a < c) := by
      rw [Bool.eq_iff_iff]; simp [h3]
    have h5 : (a != c) = true := by simpa using h3
    rw [e]
    clear e
    go_enter Try.func23, Try.ntmps23
    go_wp2_with fail
    go_ret
    exact ⟨rfl, hb _ _⟩
end Go.Proofs.Ythmloljnpjolmaa
