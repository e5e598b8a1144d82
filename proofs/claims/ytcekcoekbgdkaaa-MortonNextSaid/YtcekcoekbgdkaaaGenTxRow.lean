/- An argument that is bytes, opened. -/
import Derived.Test.YtcekcoekbgdkaaaGenRow
import Derived.Test.YtcekcoekbgdkaaaGenTx
namespace Go.Proofs.Ytcekcoekbgdkaaa
open Go.ChangeShapes Go.WideShapes Go.ChangeAt Go.RowKit Go.Deep

theorem C22 : Try.prog.cellsOf 25 = 1 := by kernel_rfl
/-- Bytes, as the reading has them. -/
theorem open_bytes {H : Type} {enc : TypeId × Value → H} {W : World} {base : Nat} {held : Bool} {fuel : Nat} {a0 : Option Addr} {len0 cap0 : Nat} {x : DataW H × List MemPlace}
    (h : DataW.trod enc Try.prog W base (fun _ => true) held fuel 25 (Value.slice a0 len0 cap0).cells.toList = some x) : (∃ B, Tx W a0 len0 cap0 B) ∧ len0 ≤ 9223372036854775807 := by
  rcases open_ints Try.underlying25 Try.underlying5 C5 h with ⟨hcs, _⟩ | ⟨a, len, cap, zs, hcs, _, hl, hm, hz, _, hx, hw⟩
  · simp [Value.cells] at hcs
    obtain ⟨rfl, rfl, rfl⟩ := hcs
    exact ⟨⟨[], rfl, Nat.le_refl _, fun x hx => by simp at hx, Or.inl ⟨rfl, rfl⟩, fun _ h _ => by cases h⟩, by omega⟩
  · simp [Value.cells] at hcs
    obtain ⟨rfl, rfl, rfl⟩ := hcs
    simp only [if_true] at hz
    refine ⟨⟨nats zs len0, by simp [nats]; omega, hl, nats_ok hw _, Or.inr ⟨a, rfl, fun j u hu => ?_⟩, fun y hy hc => ?_⟩, by unfold maxLen at hm; omega⟩
    · obtain ⟨hj, rfl⟩ := nats_get hw len0 j (by omega) u hu
      exact hx j (by omega)
    · cases hy
      have := World.cell?_spot (hx 0 (by omega))
      simpa [Addr.add] using this
end Go.Proofs.Ytcekcoekbgdkaaa
