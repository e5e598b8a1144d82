/- Rows of a struct's cells: parts of a row, a part put anew; and what a State holds. -/
import Derived.Test.YtgdipdmpmaemjaaShaFill
import Derived.Deep.RegionHeld3
namespace Go.Proofs.Ytgdipdmpmaemjaa
open Go.RowKit

def w32 (l : List Nat) : List Value := l.map fun x => Value.int .u32 (x : Nat)
theorem w32_toArray (l : List Nat) : (w32 l).toArray = u32s l := rfl
/-- The cells of a State. -/
def stL (v : Sm.V8) (bl : List Nat) (L : Nat) : List Value := w32 v.list ++ vals bl ++ [.int .u64 (L : Nat)]
/-- A state to which the bytes T were written. -/
structure Held (T : List Nat) (v : Sm.V8) (bl : List Nat) : Prop where
  ok : Sm.allB T
  vok : v.ok
  lt : T.length < 1152921504606846976
  words : T ≠ [] → v = Sm.blocks T Sm.first (T.length / 64)
  size : bl.length = 64
  bok : Sm.allB bl
  block : bl.take (T.length % 64) = T.drop (64 * (T.length / 64))
def StateAt (w : World) (g : Nat) (T : List Nat) : Prop :=
  ∃ v bl, Held T v bl ∧ w.heap[g]? = some (.cells (stL v bl T.length).toArray 36 (0, 0))
end Go.Proofs.Ytgdipdmpmaemjaa
