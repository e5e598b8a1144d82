/- dist.Sum, dist.Between, dist.ToBox. -/
import Derived.Test.YthmloljnpjolmaaDist5
namespace Go.Proofs.Ythmloljnpjolmaa
open Go.RowKit

theorem enter_side {F : Nat} {fn : Func} {c : Code} (hf : Try.prog.funcs[F]? = some fn) (hname : (fn.name == "runtime.NumGoroutine") = false) (hb : fn.body = some c) : ∀ args w, (callFunc F args).run Try.prog w = .ok (.enter F args) w := fun args w => by
  have h1 : fn.name ≠ "runtime.NumGoroutine" := by simpa using hname
  simp [callFunc, hf, h1, hb, mark]
theorem ret_two2 {fn : Func} {P : Ending → World → Prop} (p u : Tmp) (hr : fn.results = #[.cell p 37, .tmp u]) {tmps : Array Value} {w : World} (g : Nat) (a b x : Value)
    (hp : tmps.getD p undef = .pointer (some ⟨g, 0, none⟩)) (hu : tmps.getD u undef = x) (hg : Two w g a b) (h : P (.returned (.tuple #[.agg #[a, b], x])) w) : bodyPost Try.prog fn P .ret ⟨tmps, []⟩ w := by
  obtain ⟨r0, r1, _, _⟩ := hg.facts
  refine bodyPost_ret (a := ⟨tmps, []⟩) (v := .tuple #[.agg #[a, b], x]) ?_ rfl h
  have hp' : tmps[p]?.getD undef = .pointer (some ⟨g, 0, none⟩) := by simpa using hp
  have hu' : tmps[u]?.getD undef = x := by simpa using hu
  simp [results, hr, hp', hu', go_sem, r0, r1]
theorem zero_two (w : World) : Two (w.alloc (.cells #[.int .u64 0, .int .u64 0] 37)) w.heap.size (.int .u64 0) (.int .u64 0) := heap_alloc_new w _
theorem boxed (w : World) (v : Value) (t : TypeId) : (w.alloc (.cells #[v] t)).cell? ⟨w.heap.size, 0, none⟩ = some v := cell_of_row _ _ 0 _ t (0, 0) (heap_alloc_new w _)
/-- The Manhattan distance, and its error. -/
def okP (n m : Nat) : Prop := 1 ≤ n ∧ n ≤ 8 ∧ n = m
instance (n m : Nat) : Decidable (okP n m) := by unfold okP; infer_instance
def btw (R S : List Int) (n m : Nat) : Int := if okP n m then tot (fun k => apart (R.getD k 0) (S.getD k 0)) n else 0
def btwE (n m : Nat) : Int := if okP n m then 0 else 1
end Go.Proofs.Ythmloljnpjolmaa
