/- Rows of a struct's cells: parts of a row, a part put anew; and what a State holds. -/
import Derived.Test.YtffjmkbglhcblaaShaFill
import Derived.Deep.RegionHeld3
namespace Go.Proofs.Ytffjmkbglhcblaa
open Go.RowKit

theorem heap_setCells_other (g : Nat) : ∀ (vs : List Value) (o : Nat) (w : World) (k : Nat), k ≠ g → (w.setCells g o vs).heap[k]? = w.heap[k]?
  | [], _, _, _, _ => rfl
  | v :: r, o, w, k, h => by
    rw [World.setCells, heap_setCells_other g r (o + 1) _ k h, heap_setCell_other _ _ _ _ h]
theorem heap_setCells_same (g : Nat) (t : TypeId) : ∀ (vs A B C : List Value) (w : World), w.heap[g]? = some (.cells (A ++ B ++ C).toArray t (0, 0)) → vs.length = B.length →
    (w.setCells g A.length vs).heap[g]? = some (.cells (A ++ vs ++ C).toArray t (0, 0))
  | [], A, B, C, w, h, hl => by
    obtain rfl : B = [] := List.length_eq_zero_iff.1 (by simpa using hl.symm)
    exact h
  | v :: r, A, B, C, w, h, hl => by
    match B, hl with
    | b :: B, hl =>
      have h1 := heap_setCell_same w g A.length _ _ v h
      have e : ((A ++ b :: B ++ C).toArray).setIfInBounds A.length v = ((A ++ [v]) ++ B ++ C).toArray := by
        apply Array.ext'
        simp
      rw [e] at h1
      have := heap_setCells_same g t r (A ++ [v]) B C _ h1 (by simpa using hl)
      rw [World.setCells]
      simpa using this
theorem size_setCells (g : Nat) : ∀ (vs : List Value) (o : Nat) (w : World), (w.setCells g o vs).heap.size = w.heap.size ∧ (w.setCells g o vs).os = w.os ∧ (w.setCells g o vs).tape = w.tape ∧ (w.setCells g o vs).output = w.output
  | [], _, _ => ⟨rfl, rfl, rfl, rfl⟩
  | v :: r, o, w => by
    obtain ⟨h1, h2, h3, h4⟩ := size_setCells g r (o + 1) (w.setCell ⟨g, o, none⟩ v)
    rw [World.setCells]
    exact ⟨h1.trans (by simp [World.setCell]), h2.trans rfl, h3.trans rfl, h4.trans rfl⟩
theorem rangeAt_row {w : World} {g : Nat} {t : TypeId} (A B C : List Value) (h : w.heap[g]? = some (.cells (A ++ B ++ C).toArray t (0, 0))) : w.rangeAt g A.length B := fun j v hv => by
  have hj : j < B.length := (List.getElem?_eq_some_iff.1 hv).1
  rw [cell_of_row w g _ _ t _ h]
  rw [List.getElem?_eq_getElem hj] at hv
  simpa [hj, List.getElem?_append_right, List.getElem?_append] using hv
theorem there_row {w : World} {g : Nat} {t : TypeId} {C : Array Value} (h : w.heap[g]? = some (.cells C t (0, 0))) (o n : Nat) (hn : o + n ≤ C.size) : w.there g o n := fun j hj => by
  refine ⟨?_, frozen_of_row w g _ _ t h⟩
  rw [cell_of_row w g _ _ t _ h, Array.getElem?_eq_getElem (by omega)]
  rfl
def w32 (l : List Nat) : List Value := l.map fun x => Value.int .u32 (x : Nat)
theorem w32_toArray (l : List Nat) : (w32 l).toArray = u32s l := rfl
theorem vals_toArray (l : List Nat) : (vals l).toArray = u8s l := rfl
/-- The cells of a State. -/
def stL (v : Sm.V8) (bl : List Nat) (L : Nat) : List Value := w32 v.list ++ vals bl ++ [.int .u64 (L : Nat)]
/-- A state to which the bytes T were written. -/
structure Held (T : List Nat) (v : Sm.V8) (bl : List Nat) : Prop where
  ok : Sm.allB T
  vok : v.ok
  lt : T.length < 1152921504606846976
  words : T ≠ [] → v = Sm.blocks T Sm.first (T.length / 64)
  size : bl.length = 64
  bok : Sm.allB bl
  block : bl.take (T.length % 64) = T.drop (64 * (T.length / 64))
def StateAt (w : World) (g : Nat) (T : List Nat) : Prop :=
  ∃ v bl, Held T v bl ∧ w.heap[g]? = some (.cells (stL v bl T.length).toArray 36 (0, 0))
end Go.Proofs.Ytffjmkbglhcblaa
