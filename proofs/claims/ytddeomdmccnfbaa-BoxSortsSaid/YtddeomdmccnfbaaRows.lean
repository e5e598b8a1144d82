/-
  No cell of these rows narrows 'for every input' (looked for: loops, veiled, ifaces, maps, wideKeys, modest, calm, conditions, laid).
  DERIVED. THE GIVEN ROWS OF THIS SEAT. 5 by the template 'for every input the law returns true; each argument reads behind the call as it read before'; 0 by the template 'total and deterministic' (their statements: YtddeomdmccnfbaaTotals.lean).
  GIVEN WITH THE SEED: the statements are not yours to turn. If you find one false, say at which input.
  Laid BY PROGRAM, IN A SANDBOX (cutbox-rows.mjs): the forced cells as the released guide's own fill.sh prints them over the translation fee8e83758349482… (all of the seat's roots in one cut). By AI agents, Wed Nov 11 2026. No macro, syntax, notation, axiom, sorry.
-/
import Derived.Test.YtddeomdmccnfbaaChecked
import GoSem.Claim
import GoSem.ClaimJoined
import GoSem.ClaimMapViews
import Derived.JoinedTies
import Derived.KernelRfl
namespace Go.Proofs.Ytddeomdmccnfbaa
/- THE CELL 'sum', in the pinned program and in every row, IS THE sha256 OF THE DUMP (.gsa) THAT YtddeomdmccnfbaaProg.lean LOADS. Nothing in Lean hashes anything: it is a label: what it is worth is what the hold of that sum in a sandbox is worth. -/
noncomputable def Try.pinned : Pinned := { name := "ytddeomdmccnfbaa", sum := "fee8e83758349482f31c09bafb166b14e7aee467f2450cf5d2251f07045ec929", checked := Try.checked }
namespace Rows
def none {H : Type} : Left H := { results := [], args := [] }

/-- 'indenturelaw04.BoxHolds': WHATEVER THE INPUT: true; the input reads as it did. -/
def boxHoldsSpec : ChangeSpec := { name := "boxHolds", fn := fun _ => fun
  | [d1, d2, d3] => { results := [.lit (.bool true)], args := [d1, d2, d3] }
  | _ => none }
def boxHoldsRow : OpenClaim := { program := "ytddeomdmccnfbaa", sum := "fee8e83758349482f31c09bafb166b14e7aee467f2450cf5d2251f07045ec929", func := "indenture/indenturelaw04.BoxHolds", spec := "boxHolds", inPlace := ["math/bits.Add64"], unfollowed := true, recurses := true, apart := false }
def BoxHoldsSaid : Prop := boxHoldsRow.holds Try.pinned (OpenSpec.ofChange boxHoldsSpec)

/-- ITS FALSE NEIGHBOUR: 'it returns false'. Refute it at one input. -/
def boxHoldsWrong : ChangeSpec := { name := "boxHolds", fn := fun _ => fun
  | [d1, d2, d3] => { results := [.lit (.bool false)], args := [d1, d2, d3] }
  | _ => none }
def BoxHoldsWrongFalsely : Prop := boxHoldsRow.holds Try.pinned (OpenSpec.ofChange boxHoldsWrong)

/-- 'indenturelaw04.BoxKeys': WHATEVER THE INPUT: true; the input reads as it did. -/
def boxKeysSpec : ChangeSpec := { name := "boxKeys", fn := fun _ => fun
  | [d1, d2, d3, d4] => { results := [.lit (.bool true)], args := [d1, d2, d3, d4] }
  | _ => none }
def boxKeysRow : OpenClaim := { program := "ytddeomdmccnfbaa", sum := "fee8e83758349482f31c09bafb166b14e7aee467f2450cf5d2251f07045ec929", func := "indenture/indenturelaw04.BoxKeys", spec := "boxKeys", inPlace := ["math/bits.Add64"], unfollowed := true, recurses := true, apart := false }
def BoxKeysSaid : Prop := boxKeysRow.holds Try.pinned (OpenSpec.ofChange boxKeysSpec)

/-- ITS FALSE NEIGHBOUR: 'it returns false'. Refute it at one input. -/
def boxKeysWrong : ChangeSpec := { name := "boxKeys", fn := fun _ => fun
  | [d1, d2, d3, d4] => { results := [.lit (.bool false)], args := [d1, d2, d3, d4] }
  | _ => none }
def BoxKeysWrongFalsely : Prop := boxKeysRow.holds Try.pinned (OpenSpec.ofChange boxKeysWrong)

/-- 'indenturelaw04.BoxOrder': WHATEVER THE INPUT: true; the input reads as it did. -/
def boxOrderSpec : ChangeSpec := { name := "boxOrder", fn := fun _ => fun
  | [d1, d2, d3, d4] => { results := [.lit (.bool true)], args := [d1, d2, d3, d4] }
  | _ => none }
def boxOrderRow : OpenClaim := { program := "ytddeomdmccnfbaa", sum := "fee8e83758349482f31c09bafb166b14e7aee467f2450cf5d2251f07045ec929", func := "indenture/indenturelaw04.BoxOrder", spec := "boxOrder", inPlace := ["math/bits.Add64"], unfollowed := true, recurses := true, apart := false }
def BoxOrderSaid : Prop := boxOrderRow.holds Try.pinned (OpenSpec.ofChange boxOrderSpec)

/-- ITS FALSE NEIGHBOUR: 'it returns false'. Refute it at one input. -/
def boxOrderWrong : ChangeSpec := { name := "boxOrder", fn := fun _ => fun
  | [d1, d2, d3, d4] => { results := [.lit (.bool false)], args := [d1, d2, d3, d4] }
  | _ => none }
def BoxOrderWrongFalsely : Prop := boxOrderRow.holds Try.pinned (OpenSpec.ofChange boxOrderWrong)

/-- 'indenturelaw04.BoxLeast': WHATEVER THE INPUT: true; the input reads as it did. -/
def boxLeastSpec : ChangeSpec := { name := "boxLeast", fn := fun _ => fun
  | [d1, d2, d3, d4] => { results := [.lit (.bool true)], args := [d1, d2, d3, d4] }
  | _ => none }
def boxLeastRow : OpenClaim := { program := "ytddeomdmccnfbaa", sum := "fee8e83758349482f31c09bafb166b14e7aee467f2450cf5d2251f07045ec929", func := "indenture/indenturelaw04.BoxLeast", spec := "boxLeast", inPlace := ["math/bits.Add64"], unfollowed := true, recurses := true, apart := false }
def BoxLeastSaid : Prop := boxLeastRow.holds Try.pinned (OpenSpec.ofChange boxLeastSpec)

/-- ITS FALSE NEIGHBOUR: 'it returns false'. Refute it at one input. -/
def boxLeastWrong : ChangeSpec := { name := "boxLeast", fn := fun _ => fun
  | [d1, d2, d3, d4] => { results := [.lit (.bool false)], args := [d1, d2, d3, d4] }
  | _ => none }
def BoxLeastWrongFalsely : Prop := boxLeastRow.holds Try.pinned (OpenSpec.ofChange boxLeastWrong)

/-- 'indenturelaw04.BoxSorts': WHATEVER THE INPUT: true; the input reads as it did. -/
def boxSortsSpec : ChangeSpec := { name := "boxSorts", fn := fun _ => fun
  | [d1, d2] => { results := [.lit (.bool true)], args := [d1, d2] }
  | _ => none }
def boxSortsRow : OpenClaim := { program := "ytddeomdmccnfbaa", sum := "fee8e83758349482f31c09bafb166b14e7aee467f2450cf5d2251f07045ec929", func := "indenture/indenturelaw04.BoxSorts", spec := "boxSorts", inPlace := ["math/bits.Add64"], unfollowed := true, recurses := true, apart := false }
def BoxSortsSaid : Prop := boxSortsRow.holds Try.pinned (OpenSpec.ofChange boxSortsSpec)

/-- ITS FALSE NEIGHBOUR: 'it returns false'. Refute it at one input. -/
def boxSortsWrong : ChangeSpec := { name := "boxSorts", fn := fun _ => fun
  | [d1, d2] => { results := [.lit (.bool false)], args := [d1, d2] }
  | _ => none }
def BoxSortsWrongFalsely : Prop := boxSortsRow.holds Try.pinned (OpenSpec.ofChange boxSortsWrong)

/- THE SECOND FORM. 'bulk': how many values and letters a reading holds, each counted each time it is reached (what is shared counts as often as it is met; a slice's spare places count too). A statement '..UptoSaid' is the law's where the arguments, and the package variables that the reading takes, are together of bulk at most 1048576: NARROWER than '..Said'. Prove '..Said' where nothing that the law and all that it calls make is longer than what came in: it says more and counts as full. Else prove '..UptoSaid'. A law counts once. -/
mutual
def uptoBulk {H : Type} : DataW H → Nat
  | .lit (.string bytes) => bytes.length + 1
  | .lit _ => 1
  | .nil => 1
  | .ptr d => uptoBulk d + 1
  | .slice elems spare => uptoBulkAll elems + uptoBulkAll spare + 1
  | .agg parts => uptoBulkAll parts + 1
  | .iface _ d => uptoBulk d + 1
  | .map entries => uptoBulkEntries entries + 1
  | .held _ => 1
def uptoBulkAll {H : Type} : List (DataW H) → Nat
  | [] => 0
  | d :: r => uptoBulk d + uptoBulkAll r
def uptoBulkEntries {H : Type} : List (Lit × DataW H) → Nat
  | [] => 0
  | x :: r => uptoBulkEntry x + uptoBulkEntries r
def uptoBulkEntry {H : Type} : Lit × DataW H → Nat
  | (.string bytes, d) => bytes.length + uptoBulk d + 1
  | (_, d) => uptoBulk d + 1
 end
def uptoSmall : (H : Type) → List (DataW H) → Bool := fun _ ds => decide (uptoBulkAll ds ≤ 1048576)
def OpenSpec.upto (s : _root_.Go.ChangeSpec) : _root_.Go.OpenSpec := { _root_.Go.OpenSpec.ofChange s with cond := some uptoSmall }

/-- 'indenturelaw04.BoxHolds', WHERE WHAT IT READS IS OF BULK AT MOST 1048576: true; the input reads as it did. -/
def boxHoldsUptoRow : OpenClaim := { program := "ytddeomdmccnfbaa", sum := "fee8e83758349482f31c09bafb166b14e7aee467f2450cf5d2251f07045ec929", func := "indenture/indenturelaw04.BoxHolds", spec := "boxHolds", inPlace := ["math/bits.Add64"], unfollowed := true, recurses := true, apart := false, narrowed := true }
def BoxHoldsUptoSaid : Prop := boxHoldsUptoRow.holds Try.pinned (OpenSpec.upto boxHoldsSpec)

/-- 'indenturelaw04.BoxKeys', WHERE WHAT IT READS IS OF BULK AT MOST 1048576: true; the input reads as it did. -/
def boxKeysUptoRow : OpenClaim := { program := "ytddeomdmccnfbaa", sum := "fee8e83758349482f31c09bafb166b14e7aee467f2450cf5d2251f07045ec929", func := "indenture/indenturelaw04.BoxKeys", spec := "boxKeys", inPlace := ["math/bits.Add64"], unfollowed := true, recurses := true, apart := false, narrowed := true }
def BoxKeysUptoSaid : Prop := boxKeysUptoRow.holds Try.pinned (OpenSpec.upto boxKeysSpec)

/-- 'indenturelaw04.BoxOrder', WHERE WHAT IT READS IS OF BULK AT MOST 1048576: true; the input reads as it did. -/
def boxOrderUptoRow : OpenClaim := { program := "ytddeomdmccnfbaa", sum := "fee8e83758349482f31c09bafb166b14e7aee467f2450cf5d2251f07045ec929", func := "indenture/indenturelaw04.BoxOrder", spec := "boxOrder", inPlace := ["math/bits.Add64"], unfollowed := true, recurses := true, apart := false, narrowed := true }
def BoxOrderUptoSaid : Prop := boxOrderUptoRow.holds Try.pinned (OpenSpec.upto boxOrderSpec)

/-- 'indenturelaw04.BoxLeast', WHERE WHAT IT READS IS OF BULK AT MOST 1048576: true; the input reads as it did. -/
def boxLeastUptoRow : OpenClaim := { program := "ytddeomdmccnfbaa", sum := "fee8e83758349482f31c09bafb166b14e7aee467f2450cf5d2251f07045ec929", func := "indenture/indenturelaw04.BoxLeast", spec := "boxLeast", inPlace := ["math/bits.Add64"], unfollowed := true, recurses := true, apart := false, narrowed := true }
def BoxLeastUptoSaid : Prop := boxLeastUptoRow.holds Try.pinned (OpenSpec.upto boxLeastSpec)

/-- 'indenturelaw04.BoxSorts', WHERE WHAT IT READS IS OF BULK AT MOST 1048576: true; the input reads as it did. -/
def boxSortsUptoRow : OpenClaim := { program := "ytddeomdmccnfbaa", sum := "fee8e83758349482f31c09bafb166b14e7aee467f2450cf5d2251f07045ec929", func := "indenture/indenturelaw04.BoxSorts", spec := "boxSorts", inPlace := ["math/bits.Add64"], unfollowed := true, recurses := true, apart := false, narrowed := true }
def BoxSortsUptoSaid : Prop := boxSortsUptoRow.holds Try.pinned (OpenSpec.upto boxSortsSpec)

end Rows
end Go.Proofs.Ytddeomdmccnfbaa
