/- Slices of numbers that lie in memory. -/
import Derived.Test.YtlkclbhgbkcplaaGen
namespace Go.Proofs.Ytlkclbhgbkcplaa
open Go.RowKit

/-- A slice whose numbers are known. -/
structure Ints (w : World) (p : Option Addr) (n c : Nat) (R : List Int) : Prop where
  size : n = R.length
  le : n ≤ c
  ok : ∀ x ∈ R, -9223372036854775808 ≤ x ∧ x ≤ 9223372036854775807
  at' : R = [] ∨ ∃ g o, p = some ⟨g, o, none⟩ ∧ ∀ i, i < R.length → w.cell? ⟨g, o + i, none⟩ = some (.int .i64 (R.getD i 0))
theorem Ints.later {w w' : World} {p : Option Addr} {n c : Nat} {R : List Int} (h : Ints w p n c R) (hb : Below w.heap.size w w') : Ints w' p n c R :=
  ⟨h.size, h.le, h.ok, h.at'.imp id fun ⟨g, o, hp, hx⟩ => ⟨g, o, hp, fun i hi => (hb.cell (p := ⟨g, o + i, none⟩) (block_lt_of_cell (hx i hi))).trans (hx i hi)⟩⟩
theorem Ints.get {w : World} {p : Option Addr} {n c : Nat} {R : List Int} (h : Ints w p n c R) (k : Nat) (hk : k < n) : -9223372036854775808 ≤ R.getD k 0 ∧ R.getD k 0 ≤ 9223372036854775807 := by
  have hk' : k < R.length := by rw [← h.size]; exact hk
  rw [List.getD_eq_getElem?_getD, List.getElem?_eq_getElem hk']
  exact h.ok _ (List.getElem_mem hk')
end Go.Proofs.Ytlkclbhgbkcplaa
