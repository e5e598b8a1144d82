/- An argument that is a list of texts, opened. -/
import Derived.Test.YtgdipdmpmaemjaaGenRow
namespace Go.Proofs.Ytgdipdmpmaemjaa
open Go.ChangeShapes Go.WideShapes Go.ChangeAt Go.RowKit Go.Deep

/-- A list of texts, as the reading has it. -/
theorem open_texts {H : Type} {enc : TypeId × Value → H} {W : World} {base : Nat} {held : Bool} {fuel : Nat} {a0 : Option Addr} {len0 cap0 : Nat} {x : DataW H × List MemPlace}
    (h : DataW.trod enc Try.prog W base (fun _ => true) held fuel 28 (Value.slice a0 len0 cap0).cells.toList = some x) : (∃ L, Texts W a0 len0 cap0 L) ∧ len0 ≤ 9223372036854775807 := by
  rcases open_int_rows Try.underlying28 Try.underlying22 Try.underlying5 C22 C5 h with ⟨hcs, _⟩ | ⟨a, len, cap, A, L, C, Z, hcs, _, hl, hm, _, hx⟩
  · simp [Value.cells] at hcs
    obtain ⟨rfl, rfl, rfl⟩ := hcs
    exact ⟨⟨[], rfl, Nat.le_refl _, fun h => absurd rfl h⟩, by omega⟩
  · simp [Value.cells] at hcs
    obtain ⟨rfl, rfl, rfl⟩ := hcs
    refine ⟨⟨(List.range len0).map fun r => nats (Z r) (L r), by simp, hl, fun hn => ?_⟩, by unfold maxLen at hm; omega⟩
    have hp : 0 < len0 := by
      rcases Nat.eq_zero_or_pos len0 with h0 | h0
      · subst h0; exact absurd rfl hn
      · exact h0
    obtain ⟨g, o, spot⟩ := a
    have hspot : spot = none := by simpa [Addr.add] using World.cell?_spot (hx 0 (by omega)).1
    subst hspot
    refine ⟨g, o, rfl, fun i hi => ?_⟩
    have hi' : i < len0 := by simpa using hi
    obtain ⟨h1, h2, h3, h4, h5, h6, h7⟩ := hx i (by omega)
    refine ⟨A i, L i, C i, by rw [← Addr.add_mid]; exact h1, ?_⟩
    have e : ((List.range len0).map fun r => nats (Z r) (L r)).getD i [] = nats (Z i) (L i) := by
      simp [List.getD_eq_getElem?_getD, hi']
    rw [e]
    refine ⟨by simp [nats]; omega, h2, nats_ok h5 _, ?_, fun x hx hc => World.cell?_spot ((h7 x hx).2 0 hc)⟩
    cases hA : A i with
    | none => exact Or.inl ⟨rfl, h6 hA⟩
    | some a' =>
      refine Or.inr ⟨a', rfl, fun j u hu => ?_⟩
      obtain ⟨hj, rfl⟩ := nats_get h5 (L i) j (by omega) u hu
      exact (h7 a' hA).2 j (by omega)
end Go.Proofs.Ytgdipdmpmaemjaa
