/-
  No cell of these rows narrows 'for every input' (looked for: loops, veiled, ifaces, maps, wideKeys, modest, calm, conditions, laid).
  DERIVED. THE GIVEN ROWS OF THIS SEAT. 5 by the template 'for every input the law returns true; each argument reads behind the call as it read before'; 0 by the template 'total and deterministic' (their statements: YtcekcoekbgdkaaaTotals.lean).
  GIVEN WITH THE SEED: the statements are not yours to turn. If you find one false, say at which input.
  Laid BY PROGRAM, IN A SANDBOX (cutbox-rows.mjs): the forced cells as the released guide's own fill.sh prints them over the translation ddf8b2dcab229bf2… (all of the seat's roots in one cut). By AI agents, Wed Nov 11 2026. No macro, syntax, notation, axiom, sorry.
-/
import Derived.Test.YtcekcoekbgdkaaaChecked
import GoSem.Claim
import GoSem.ClaimJoined
import GoSem.ClaimMapViews
import Derived.JoinedTies
import Derived.KernelRfl
namespace Go.Proofs.Ytcekcoekbgdkaaa
/- THE CELL 'sum', in the pinned program and in every row, IS THE sha256 OF THE DUMP (.gsa) THAT YtcekcoekbgdkaaaProg.lean LOADS. Nothing in Lean hashes anything: it is a label: what it is worth is what the hold of that sum in a sandbox is worth. -/
noncomputable def Try.pinned : Pinned := { name := "ytcekcoekbgdkaaa", sum := "ddf8b2dcab229bf28261ebc334b97bb83c75673f7342206403440ea3b7b8a0ed", checked := Try.checked }
namespace Rows
def none {H : Type} : Left H := { results := [], args := [] }

/-- 'indenturelaw05.MortonCodes': WHATEVER THE INPUT: true; the input reads as it did. -/
def mortonCodesSpec : ChangeSpec := { name := "mortonCodes", fn := fun _ => fun
  | [d1, d2] => { results := [.lit (.bool true)], args := [d1, d2] }
  | _ => none }
def mortonCodesRow : OpenClaim := { program := "ytcekcoekbgdkaaa", sum := "ddf8b2dcab229bf28261ebc334b97bb83c75673f7342206403440ea3b7b8a0ed", func := "indenture/indenturelaw05.MortonCodes", spec := "mortonCodes", apart := false }
def MortonCodesSaid : Prop := mortonCodesRow.holds Try.pinned (OpenSpec.ofChange mortonCodesSpec)

/-- ITS FALSE NEIGHBOUR: 'it returns false'. Refute it at one input. -/
def mortonCodesWrong : ChangeSpec := { name := "mortonCodes", fn := fun _ => fun
  | [d1, d2] => { results := [.lit (.bool false)], args := [d1, d2] }
  | _ => none }
def MortonCodesWrongFalsely : Prop := mortonCodesRow.holds Try.pinned (OpenSpec.ofChange mortonCodesWrong)

/-- 'indenturelaw05.MortonPoints': WHATEVER THE INPUT: true; the input reads as it did. -/
def mortonPointsSpec : ChangeSpec := { name := "mortonPoints", fn := fun _ => fun
  | [d1, d2, d3] => { results := [.lit (.bool true)], args := [d1, d2, d3] }
  | _ => none }
def mortonPointsRow : OpenClaim := { program := "ytcekcoekbgdkaaa", sum := "ddf8b2dcab229bf28261ebc334b97bb83c75673f7342206403440ea3b7b8a0ed", func := "indenture/indenturelaw05.MortonPoints", spec := "mortonPoints", apart := false }
def MortonPointsSaid : Prop := mortonPointsRow.holds Try.pinned (OpenSpec.ofChange mortonPointsSpec)

/-- ITS FALSE NEIGHBOUR: 'it returns false'. Refute it at one input. -/
def mortonPointsWrong : ChangeSpec := { name := "mortonPoints", fn := fun _ => fun
  | [d1, d2, d3] => { results := [.lit (.bool false)], args := [d1, d2, d3] }
  | _ => none }
def MortonPointsWrongFalsely : Prop := mortonPointsRow.holds Try.pinned (OpenSpec.ofChange mortonPointsWrong)

/-- 'indenturelaw05.MortonOrder': WHATEVER THE INPUT: true; the input reads as it did. -/
def mortonOrderSpec : ChangeSpec := { name := "mortonOrder", fn := fun _ => fun
  | [d1, d2] => { results := [.lit (.bool true)], args := [d1, d2] }
  | _ => none }
def mortonOrderRow : OpenClaim := { program := "ytcekcoekbgdkaaa", sum := "ddf8b2dcab229bf28261ebc334b97bb83c75673f7342206403440ea3b7b8a0ed", func := "indenture/indenturelaw05.MortonOrder", spec := "mortonOrder", inPlace := ["internal/bytealg.Compare"], apart := false }
def MortonOrderSaid : Prop := mortonOrderRow.holds Try.pinned (OpenSpec.ofChange mortonOrderSpec)

/-- ITS FALSE NEIGHBOUR: 'it returns false'. Refute it at one input. -/
def mortonOrderWrong : ChangeSpec := { name := "mortonOrder", fn := fun _ => fun
  | [d1, d2] => { results := [.lit (.bool false)], args := [d1, d2] }
  | _ => none }
def MortonOrderWrongFalsely : Prop := mortonOrderRow.holds Try.pinned (OpenSpec.ofChange mortonOrderWrong)

/-- 'indenturelaw05.MortonBegins': WHATEVER THE INPUT: true; the input reads as it did. -/
def mortonBeginsSpec : ChangeSpec := { name := "mortonBegins", fn := fun _ => fun
  | [d1, d2, d3] => { results := [.lit (.bool true)], args := [d1, d2, d3] }
  | _ => none }
def mortonBeginsRow : OpenClaim := { program := "ytcekcoekbgdkaaa", sum := "ddf8b2dcab229bf28261ebc334b97bb83c75673f7342206403440ea3b7b8a0ed", func := "indenture/indenturelaw05.MortonBegins", spec := "mortonBegins", apart := false }
def MortonBeginsSaid : Prop := mortonBeginsRow.holds Try.pinned (OpenSpec.ofChange mortonBeginsSpec)

/-- ITS FALSE NEIGHBOUR: 'it returns false'. Refute it at one input. -/
def mortonBeginsWrong : ChangeSpec := { name := "mortonBegins", fn := fun _ => fun
  | [d1, d2, d3] => { results := [.lit (.bool false)], args := [d1, d2, d3] }
  | _ => none }
def MortonBeginsWrongFalsely : Prop := mortonBeginsRow.holds Try.pinned (OpenSpec.ofChange mortonBeginsWrong)

/-- 'indenturelaw05.MortonNext': WHATEVER THE INPUT: true; the input reads as it did. -/
def mortonNextSpec : ChangeSpec := { name := "mortonNext", fn := fun _ => fun
  | [d1, d2] => { results := [.lit (.bool true)], args := [d1, d2] }
  | _ => none }
def mortonNextRow : OpenClaim := { program := "ytcekcoekbgdkaaa", sum := "ddf8b2dcab229bf28261ebc334b97bb83c75673f7342206403440ea3b7b8a0ed", func := "indenture/indenturelaw05.MortonNext", spec := "mortonNext", apart := false }
def MortonNextSaid : Prop := mortonNextRow.holds Try.pinned (OpenSpec.ofChange mortonNextSpec)

/-- ITS FALSE NEIGHBOUR: 'it returns false'. Refute it at one input. -/
def mortonNextWrong : ChangeSpec := { name := "mortonNext", fn := fun _ => fun
  | [d1, d2] => { results := [.lit (.bool false)], args := [d1, d2] }
  | _ => none }
def MortonNextWrongFalsely : Prop := mortonNextRow.holds Try.pinned (OpenSpec.ofChange mortonNextWrong)

/- THE SECOND FORM. 'bulk': how many values and letters a reading holds, each counted each time it is reached (what is shared counts as often as it is met; a slice's spare places count too). A statement '..UptoSaid' is the law's where the arguments, and the package variables that the reading takes, are together of bulk at most 1048576: NARROWER than '..Said'. Prove '..Said' where nothing that the law and all that it calls make is longer than what came in: it says more and counts as full. Else prove '..UptoSaid'. A law counts once. -/
mutual
def uptoBulk {H : Type} : DataW H → Nat
  | .lit (.string bytes) => bytes.length + 1
  | .lit _ => 1
  | .nil => 1
  | .ptr d => uptoBulk d + 1
  | .slice elems spare => uptoBulkAll elems + uptoBulkAll spare + 1
  | .agg parts => uptoBulkAll parts + 1
  | .iface _ d => uptoBulk d + 1
  | .map entries => uptoBulkEntries entries + 1
  | .held _ => 1
def uptoBulkAll {H : Type} : List (DataW H) → Nat
  | [] => 0
  | d :: r => uptoBulk d + uptoBulkAll r
def uptoBulkEntries {H : Type} : List (Lit × DataW H) → Nat
  | [] => 0
  | x :: r => uptoBulkEntry x + uptoBulkEntries r
def uptoBulkEntry {H : Type} : Lit × DataW H → Nat
  | (.string bytes, d) => bytes.length + uptoBulk d + 1
  | (_, d) => uptoBulk d + 1
 end
def uptoSmall : (H : Type) → List (DataW H) → Bool := fun _ ds => decide (uptoBulkAll ds ≤ 1048576)
def OpenSpec.upto (s : _root_.Go.ChangeSpec) : _root_.Go.OpenSpec := { _root_.Go.OpenSpec.ofChange s with cond := some uptoSmall }

/-- 'indenturelaw05.MortonCodes', WHERE WHAT IT READS IS OF BULK AT MOST 1048576: true; the input reads as it did. -/
def mortonCodesUptoRow : OpenClaim := { program := "ytcekcoekbgdkaaa", sum := "ddf8b2dcab229bf28261ebc334b97bb83c75673f7342206403440ea3b7b8a0ed", func := "indenture/indenturelaw05.MortonCodes", spec := "mortonCodes", apart := false, narrowed := true }
def MortonCodesUptoSaid : Prop := mortonCodesUptoRow.holds Try.pinned (OpenSpec.upto mortonCodesSpec)

/-- 'indenturelaw05.MortonPoints', WHERE WHAT IT READS IS OF BULK AT MOST 1048576: true; the input reads as it did. -/
def mortonPointsUptoRow : OpenClaim := { program := "ytcekcoekbgdkaaa", sum := "ddf8b2dcab229bf28261ebc334b97bb83c75673f7342206403440ea3b7b8a0ed", func := "indenture/indenturelaw05.MortonPoints", spec := "mortonPoints", apart := false, narrowed := true }
def MortonPointsUptoSaid : Prop := mortonPointsUptoRow.holds Try.pinned (OpenSpec.upto mortonPointsSpec)

/-- 'indenturelaw05.MortonOrder', WHERE WHAT IT READS IS OF BULK AT MOST 1048576: true; the input reads as it did. -/
def mortonOrderUptoRow : OpenClaim := { program := "ytcekcoekbgdkaaa", sum := "ddf8b2dcab229bf28261ebc334b97bb83c75673f7342206403440ea3b7b8a0ed", func := "indenture/indenturelaw05.MortonOrder", spec := "mortonOrder", inPlace := ["internal/bytealg.Compare"], apart := false, narrowed := true }
def MortonOrderUptoSaid : Prop := mortonOrderUptoRow.holds Try.pinned (OpenSpec.upto mortonOrderSpec)

/-- 'indenturelaw05.MortonBegins', WHERE WHAT IT READS IS OF BULK AT MOST 1048576: true; the input reads as it did. -/
def mortonBeginsUptoRow : OpenClaim := { program := "ytcekcoekbgdkaaa", sum := "ddf8b2dcab229bf28261ebc334b97bb83c75673f7342206403440ea3b7b8a0ed", func := "indenture/indenturelaw05.MortonBegins", spec := "mortonBegins", apart := false, narrowed := true }
def MortonBeginsUptoSaid : Prop := mortonBeginsUptoRow.holds Try.pinned (OpenSpec.upto mortonBeginsSpec)

/-- 'indenturelaw05.MortonNext', WHERE WHAT IT READS IS OF BULK AT MOST 1048576: true; the input reads as it did. -/
def mortonNextUptoRow : OpenClaim := { program := "ytcekcoekbgdkaaa", sum := "ddf8b2dcab229bf28261ebc334b97bb83c75673f7342206403440ea3b7b8a0ed", func := "indenture/indenturelaw05.MortonNext", spec := "mortonNext", apart := false, narrowed := true }
def MortonNextUptoSaid : Prop := mortonNextUptoRow.holds Try.pinned (OpenSpec.upto mortonNextSpec)

end Rows
end Go.Proofs.Ytcekcoekbgdkaaa
