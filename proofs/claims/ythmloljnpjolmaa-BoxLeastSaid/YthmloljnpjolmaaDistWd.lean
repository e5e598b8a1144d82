/- Words in a block. -/
import Derived.Test.YthmloljnpjolmaaDist6
namespace Go.Proofs.Ythmloljnpjolmaa
open Go.RowKit

/-- Words in a block. -/
def Wd (w : World) (g : Nat) (n : Nat) (f : Nat → Nat) (C : Array Value) : Prop := w.heap[g]? = some (.cells C 35 (0, 0)) ∧ n ≤ C.size ∧ ∀ i, i < n → C[i]? = some (.int .u64 (f i : Nat))
theorem Wd.set {w : World} {g n : Nat} {f : Nat → Nat} {C : Array Value} (h : Wd w g n f C) (k x : Nat) : Wd (w.setCell ⟨g, k, none⟩ (.int .u64 (x : Nat))) g n (fun i => if i = k then x else f i) (C.setIfInBounds k (.int .u64 (x : Nat))) := by
  obtain ⟨h1, h2, h3⟩ := h
  refine ⟨heap_setCell_same w g k _ _ _ h1, by simpa using h2, fun i hi => ?_⟩
  rw [Array.getElem?_setIfInBounds]
  by_cases e : k = i
  · subst e
    rw [if_pos rfl, if_pos (by omega)]
    simp
  · rw [if_neg e, h3 i hi]
    simp [Ne.symm e]
theorem Wd.cell {w : World} {g n : Nat} {f : Nat → Nat} {C : Array Value} (h : Wd w g n f C) (k : Nat) (hk : k < n) : w.cell? ⟨g, k, none⟩ = some (.int .u64 (f k : Nat)) := by
  rw [cell_of_row w g k _ _ _ h.1]; exact h.2.2 k hk
theorem Wd.free {w : World} {g n : Nat} {f : Nat → Nat} {C : Array Value} (h : Wd w g n f C) (k : Nat) : w.frozen? ⟨g, k, none⟩ = false := frozen_of_row w g _ _ _ h.1
theorem Wd.ext {w : World} {g n : Nat} {f f' : Nat → Nat} {C : Array Value} (h : Wd w g n f C) (hf : ∀ i, i < n → f i = f' i) : Wd w g n f' C :=
  ⟨h.1, h.2.1, fun i hi => by rw [h.2.2 i hi, hf i hi]⟩
theorem Wd.later {w w' : World} {g n : Nat} {f : Nat → Nat} {C : Array Value} (h : Wd w g n f C) {m : Nat} (hb : Below m w w') (hg : g < m) : Wd w' g n f C := ⟨(hb.block _ hg).trans h.1, h.2⟩
theorem Wd.lt {w : World} {g n : Nat} {f : Nat → Nat} {C : Array Value} (h : Wd w g n f C) : g < w.heap.size := (Array.getElem?_eq_some_iff.1 h.1).1
end Go.Proofs.Ythmloljnpjolmaa
