/- What every row's proof wants: the program's closed facts; arguments opened: bytes. -/
import Derived.Test.YtlkclbhgbkcplaaRows
import Derived.Test.YtlkclbhgbkcplaaGen
import Derived.ProofKit
import Derived.OpenShut
import Derived.ShutString
import Derived.ChangeOld
import Derived.Deep.Matrix
namespace Go.Proofs.Ytlkclbhgbkcplaa
open Go.ChangeShapes Go.WideShapes Go.ChangeAt Go.RowKit Go.Deep

theorem gen_own : ownKnob Try.prog.godebug = none := by kernel_rfl
theorem gen_laidOut : laidOutB Try.prog = true := by kernel_rfl
theorem C22 : Try.prog.cellsOf 25 = 1 := by kernel_rfl
def nats (z : List Int) (n : Nat) : List Nat := (z.take n).map Int.toNat
theorem nats_ok {z : List Int} (h : ∀ n ∈ z, (Lit.int .u8 n).wf = true) (n : Nat) : Sm.allB (nats z n) := by
  intro x hx
  simp only [nats, List.mem_map] at hx
  obtain ⟨y, hy, rfl⟩ := hx
  have := bounds_u8 (h y (List.mem_of_mem_take hy))
  omega
theorem nats_get {z : List Int} (h : ∀ n ∈ z, (Lit.int .u8 n).wf = true) (n j : Nat) (hn : n ≤ z.length) (u : Value) (hu : (vals (nats z n))[j]? = some u) : j < n ∧ u = .int .u8 (z.getD j 0) := by
  have hj : j < n := by
    have := (List.getElem?_eq_some_iff.1 hu).1
    simp [vals, nats] at this
    omega
  refine ⟨hj, ?_⟩
  have hz : j < z.length := by omega
  have hb := bounds_u8 (h z[j] (List.getElem_mem hz))
  rw [vals_get _ _ (by simp [nats]; omega)] at hu
  simp only [Option.some.injEq] at hu
  rw [← hu]
  simp only [nats, List.getD_eq_getElem?_getD, List.getElem?_map, List.getElem?_take_of_lt hj, List.getElem?_eq_getElem hz, Option.map_some, Option.getD_some]
  congr 1
  omega
/-- Bytes, as the reading has them. -/
theorem open_bytes {H : Type} {enc : TypeId × Value → H} {W : World} {base : Nat} {held : Bool} {fuel : Nat} {a0 : Option Addr} {len0 cap0 : Nat} {x : DataW H × List MemPlace}
    (h : DataW.trod enc Try.prog W base (fun _ => true) held fuel 25 (Value.slice a0 len0 cap0).cells.toList = some x) : (∃ B, Tx W a0 len0 cap0 B) ∧ len0 ≤ 9223372036854775807 := by
  rcases open_ints Try.underlying25 Try.underlying5 C5 h with ⟨hcs, _⟩ | ⟨a, len, cap, zs, hcs, _, hl, hm, hz, _, hx, hw⟩
  · simp [Value.cells] at hcs
    obtain ⟨rfl, rfl, rfl⟩ := hcs
    exact ⟨⟨[], rfl, Nat.le_refl _, fun x hx => by simp at hx, Or.inl ⟨rfl, rfl⟩, fun _ h _ => by cases h⟩, by omega⟩
  · simp [Value.cells] at hcs
    obtain ⟨rfl, rfl, rfl⟩ := hcs
    simp only [if_true] at hz
    refine ⟨⟨nats zs len0, by simp [nats]; omega, hl, nats_ok hw _, Or.inr ⟨a, rfl, fun j u hu => ?_⟩, fun y hy hc => ?_⟩, by unfold maxLen at hm; omega⟩
    · obtain ⟨hj, rfl⟩ := nats_get hw len0 j (by omega) u hu
      exact hx j (by omega)
    · cases hy
      have := World.cell?_spot (hx 0 (by omega))
      simpa [Addr.add] using this
end Go.Proofs.Ytlkclbhgbkcplaa
