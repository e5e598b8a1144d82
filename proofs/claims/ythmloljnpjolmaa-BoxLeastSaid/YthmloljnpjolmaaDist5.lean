/- dist.Sum, dist.Between, dist.ToBox: their functions of a side, and they themselves. -/
import Derived.Test.YthmloljnpjolmaaDist4
namespace Go.Proofs.Ythmloljnpjolmaa
open Go.RowKit

/-- A slice whose words are known. -/
structure Words (w : World) (p : Option Addr) (n c : Nat) (R : List Int) : Prop where
  size : n = R.length
  le : n ≤ c
  ok : ∀ x ∈ R, 0 ≤ x ∧ x < 18446744073709551616
  at' : R = [] ∨ ∃ g o, p = some ⟨g, o, none⟩ ∧ ∀ i, i < R.length → w.cell? ⟨g, o + i, none⟩ = some (.int .u64 (R.getD i 0))
theorem Words.later {w w' : World} {p : Option Addr} {n c : Nat} {R : List Int} (h : Words w p n c R) (hb : Below w.heap.size w w') : Words w' p n c R :=
  ⟨h.size, h.le, h.ok, h.at'.imp id fun ⟨g, o, hp, hx⟩ => ⟨g, o, hp, fun i hi => (hb.cell (p := ⟨g, o + i, none⟩) (block_lt_of_cell (hx i hi))).trans (hx i hi)⟩⟩
theorem Words.get {w : World} {p : Option Addr} {n c : Nat} {R : List Int} (h : Words w p n c R) (k : Nat) (hk : k < n) : 0 ≤ R.getD k 0 ∧ R.getD k 0 < 18446744073709551616 := by
  have hk' : k < R.length := by rw [← h.size]; exact hk
  rw [List.getD_eq_getElem?_getD, List.getElem?_eq_getElem hk']
  exact h.ok _ (List.getElem_mem hk')
theorem Words.cell {w : World} {p : Option Addr} {n c : Nat} {R : List Int} (h : Words w p n c R) (k : Nat) (hk : k < n) : ∃ g o, p = some ⟨g, o, none⟩ ∧ w.cell? ⟨g, o + k, none⟩ = some (.int .u64 (R.getD k 0)) := by
  have hk' : k < R.length := by rw [← h.size]; exact hk
  rcases h.at' with h0 | ⟨g, o, hp, hx⟩
  · rw [h0] at hk'; exact absurd hk' (by simp)
  · exact ⟨g, o, hp, hx k hk'⟩
end Go.Proofs.Ythmloljnpjolmaa
