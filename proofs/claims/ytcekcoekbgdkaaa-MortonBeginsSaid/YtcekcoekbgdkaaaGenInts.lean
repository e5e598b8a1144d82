/- Slices of numbers that lie in memory. -/
import Derived.Test.YtcekcoekbgdkaaaGen
namespace Go.Proofs.Ytcekcoekbgdkaaa
open Go.RowKit

/-- A slice whose numbers are known. -/
structure Ints (w : World) (p : Option Addr) (n c : Nat) (R : List Int) : Prop where
  size : n = R.length
  le : n ≤ c
  ok : ∀ x ∈ R, -9223372036854775808 ≤ x ∧ x ≤ 9223372036854775807
  at' : R = [] ∨ ∃ g o, p = some ⟨g, o, none⟩ ∧ ∀ i, i < R.length → w.cell? ⟨g, o + i, none⟩ = some (.int .i64 (R.getD i 0))
theorem Ints.later {w w' : World} {p : Option Addr} {n c : Nat} {R : List Int} (h : Ints w p n c R) (hb : Below w.heap.size w w') : Ints w' p n c R :=
  ⟨h.size, h.le, h.ok, h.at'.imp id fun ⟨g, o, hp, hx⟩ => ⟨g, o, hp, fun i hi => (hb.cell (p := ⟨g, o + i, none⟩) (block_lt_of_cell (hx i hi))).trans (hx i hi)⟩⟩
theorem Ints.get {w : World} {p : Option Addr} {n c : Nat} {R : List Int} (h : Ints w p n c R) (k : Nat) (hk : k < n) : -9223372036854775808 ≤ R.getD k 0 ∧ R.getD k 0 ≤ 9223372036854775807 := by
  have hk' : k < R.length := by rw [← h.size]; exact hk
  rw [List.getD_eq_getElem?_getD, List.getElem?_eq_getElem hk']
  exact h.ok _ (List.getElem_mem hk')
theorem Ints.cell {w : World} {p : Option Addr} {n c : Nat} {R : List Int} (h : Ints w p n c R) (k : Nat) (hk : k < n) : ∃ g o, p = some ⟨g, o, none⟩ ∧ w.cell? ⟨g, o + k, none⟩ = some (.int .i64 (R.getD k 0)) := by
  have hk' : k < R.length := by rw [← h.size]; exact hk
  rcases h.at' with h0 | ⟨g, o, hp, hx⟩
  · rw [h0] at hk'; exact absurd hk' (by simp)
  · exact ⟨g, o, hp, hx k hk'⟩
theorem lit2 (w : World) (a b : Int) (ha : -9223372036854775808 ≤ a ∧ a ≤ 9223372036854775807) (hb : -9223372036854775808 ≤ b ∧ b ≤ 9223372036854775807) :
    Ints (w.alloc (.cells #[.int .i64 a, .int .i64 b] 2)) (some ⟨w.heap.size, 0, none⟩) 2 2 [a, b] :=
  ⟨rfl, Nat.le_refl _, fun x hx => by simp at hx; rcases hx with rfl | rfl <;> assumption, Or.inr ⟨_, _, rfl, fun i hi => by
    match i, hi with
    | 0, _ => exact cell_of_row _ _ 0 _ _ (0, 0) (heap_alloc_new w _)
    | 1, _ => exact cell_of_row _ _ 1 _ _ (0, 0) (heap_alloc_new w _)⟩⟩
end Go.Proofs.Ytcekcoekbgdkaaa
