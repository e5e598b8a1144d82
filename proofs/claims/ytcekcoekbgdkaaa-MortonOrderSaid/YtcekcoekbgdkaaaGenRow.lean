/- What every row's proof wants: the program's closed facts; arguments opened: bytes. -/
import Derived.Test.YtcekcoekbgdkaaaRows
import Derived.Test.YtcekcoekbgdkaaaGen
import Derived.ProofKit
import Derived.OpenShut
import Derived.ShutString
import Derived.ChangeOld
import Derived.Deep.Matrix
namespace Go.Proofs.Ytcekcoekbgdkaaa
open Go.ChangeShapes Go.WideShapes Go.ChangeAt Go.RowKit Go.Deep

theorem gen_own : ownKnob Try.prog.godebug = none := by kernel_rfl
theorem gen_laidOut : laidOutB Try.prog = true := by kernel_rfl
def nats (z : List Int) (n : Nat) : List Nat := (z.take n).map Int.toNat
theorem nats_ok {z : List Int} (h : ∀ n ∈ z, (Lit.int .u8 n).wf = true) (n : Nat) : Sm.allB (nats z n) := by
  intro x hx
  simp only [nats, List.mem_map] at hx
  obtain ⟨y, hy, rfl⟩ := hx
  have := bounds_u8 (h y (List.mem_of_mem_take hy))
  omega
theorem nats_get {z : List Int} (h : ∀ n ∈ z, (Lit.int .u8 n).wf = true) (n j : Nat) (hn : n ≤ z.length) (u : Value) (hu : (vals (nats z n))[j]? = some u) : j < n ∧ u = .int .u8 (z.getD j 0) := by
  have hj : j < n := by
    have := (List.getElem?_eq_some_iff.1 hu).1
    simp [vals, nats] at this
    omega
  refine ⟨hj, ?_⟩
  have hz : j < z.length := by omega
  have hb := bounds_u8 (h z[j] (List.getElem_mem hz))
  rw [vals_get _ _ (by simp [nats]; omega)] at hu
  simp only [Option.some.injEq] at hu
  rw [← hu]
  simp only [nats, List.getD_eq_getElem?_getD, List.getElem?_map, List.getElem?_take_of_lt hj, List.getElem?_eq_getElem hz, Option.map_some, Option.getD_some]
  congr 1
  omega
end Go.Proofs.Ytcekcoekbgdkaaa
