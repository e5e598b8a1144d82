/-
  No cell of these rows narrows 'for every input' (looked for: loops, veiled, ifaces, maps, wideKeys, modest, calm, conditions, laid).
  DERIVED. THE GIVEN ROWS OF THIS SEAT. 5 by the template 'for every input the law returns true; each argument reads behind the call as it read before'; 0 by the template 'total and deterministic' (their statements: YtbhpmigblkaihaaTotals.lean).
  GIVEN WITH THE SEED: the statements are not yours to turn. If you find one false, say at which input.
  Laid BY PROGRAM, IN A SANDBOX (cutbox-rows.mjs): the forced cells as the released guide's own fill.sh prints them over the translation 012705cc56ce40bb… (all of the seat's roots in one cut). By AI agents, Wed Nov 11 2026. No macro, syntax, notation, axiom, sorry.
-/
import Derived.Test.YtbhpmigblkaihaaChecked
import GoSem.Claim
import GoSem.ClaimJoined
import GoSem.ClaimMapViews
import Derived.JoinedTies
import Derived.KernelRfl
namespace Go.Proofs.Ytbhpmigblkaihaa
/- THE CELL 'sum', in the pinned program and in every row, IS THE sha256 OF THE DUMP (.gsa) THAT YtbhpmigblkaihaaProg.lean LOADS. Nothing in Lean hashes anything: it is a label: what it is worth is what the hold of that sum in a sandbox is worth. -/
noncomputable def Try.pinned : Pinned := { name := "ytbhpmigblkaihaa", sum := "012705cc56ce40bbbad2e46742b50cb616d1f13daae6ea9f15c2c9b73ddd91df", checked := Try.checked }
namespace Rows
def none {H : Type} : Left H := { results := [], args := [] }

/-- 'indenturelaw06.ZrangeSkips': WHATEVER THE INPUT: true; the input reads as it did. -/
def zrangeSkipsSpec : ChangeSpec := { name := "zrangeSkips", fn := fun _ => fun
  | [d1, d2] => { results := [.lit (.bool true)], args := [d1, d2] }
  | _ => none }
def zrangeSkipsRow : OpenClaim := { program := "ytbhpmigblkaihaa", sum := "012705cc56ce40bbbad2e46742b50cb616d1f13daae6ea9f15c2c9b73ddd91df", func := "indenture/indenturelaw06.ZrangeSkips", spec := "zrangeSkips", unfollowed := true, recurses := true, apart := false }
def ZrangeSkipsSaid : Prop := zrangeSkipsRow.holds Try.pinned (OpenSpec.ofChange zrangeSkipsSpec)

/-- ITS FALSE NEIGHBOUR: 'it returns false'. Refute it at one input. -/
def zrangeSkipsWrong : ChangeSpec := { name := "zrangeSkips", fn := fun _ => fun
  | [d1, d2] => { results := [.lit (.bool false)], args := [d1, d2] }
  | _ => none }
def ZrangeSkipsWrongFalsely : Prop := zrangeSkipsRow.holds Try.pinned (OpenSpec.ofChange zrangeSkipsWrong)

/-- 'indenturelaw06.ZrangeBetween': WHATEVER THE INPUT: true; the input reads as it did. -/
def zrangeBetweenSpec : ChangeSpec := { name := "zrangeBetween", fn := fun _ => fun
  | [d1, d2, d3] => { results := [.lit (.bool true)], args := [d1, d2, d3] }
  | _ => none }
def zrangeBetweenRow : OpenClaim := { program := "ytbhpmigblkaihaa", sum := "012705cc56ce40bbbad2e46742b50cb616d1f13daae6ea9f15c2c9b73ddd91df", func := "indenture/indenturelaw06.ZrangeBetween", spec := "zrangeBetween", unfollowed := true, recurses := true, apart := false }
def ZrangeBetweenSaid : Prop := zrangeBetweenRow.holds Try.pinned (OpenSpec.ofChange zrangeBetweenSpec)

/-- ITS FALSE NEIGHBOUR: 'it returns false'. Refute it at one input. -/
def zrangeBetweenWrong : ChangeSpec := { name := "zrangeBetween", fn := fun _ => fun
  | [d1, d2, d3] => { results := [.lit (.bool false)], args := [d1, d2, d3] }
  | _ => none }
def ZrangeBetweenWrongFalsely : Prop := zrangeBetweenRow.holds Try.pinned (OpenSpec.ofChange zrangeBetweenWrong)

/-- 'indenturelaw06.ZrangeSplits': WHATEVER THE INPUT: true; the input reads as it did. -/
def zrangeSplitsSpec : ChangeSpec := { name := "zrangeSplits", fn := fun _ => fun
  | [d1, d2, d3] => { results := [.lit (.bool true)], args := [d1, d2, d3] }
  | _ => none }
def zrangeSplitsRow : OpenClaim := { program := "ytbhpmigblkaihaa", sum := "012705cc56ce40bbbad2e46742b50cb616d1f13daae6ea9f15c2c9b73ddd91df", func := "indenture/indenturelaw06.ZrangeSplits", spec := "zrangeSplits", unfollowed := true, recurses := true, apart := false }
def ZrangeSplitsSaid : Prop := zrangeSplitsRow.holds Try.pinned (OpenSpec.ofChange zrangeSplitsSpec)

/-- ITS FALSE NEIGHBOUR: 'it returns false'. Refute it at one input. -/
def zrangeSplitsWrong : ChangeSpec := { name := "zrangeSplits", fn := fun _ => fun
  | [d1, d2, d3] => { results := [.lit (.bool false)], args := [d1, d2, d3] }
  | _ => none }
def ZrangeSplitsWrongFalsely : Prop := zrangeSplitsRow.holds Try.pinned (OpenSpec.ofChange zrangeSplitsWrong)

/-- 'indenturelaw06.ZrangeRanges': WHATEVER THE INPUT: true; the input reads as it did. -/
def zrangeRangesSpec : ChangeSpec := { name := "zrangeRanges", fn := fun _ => fun
  | [d1, d2, d3, d4] => { results := [.lit (.bool true)], args := [d1, d2, d3, d4] }
  | _ => none }
def zrangeRangesRow : OpenClaim := { program := "ytbhpmigblkaihaa", sum := "012705cc56ce40bbbad2e46742b50cb616d1f13daae6ea9f15c2c9b73ddd91df", func := "indenture/indenturelaw06.ZrangeRanges", spec := "zrangeRanges", unfollowed := true, recurses := true, apart := false }
def ZrangeRangesSaid : Prop := zrangeRangesRow.holds Try.pinned (OpenSpec.ofChange zrangeRangesSpec)

/-- ITS FALSE NEIGHBOUR: 'it returns false'. Refute it at one input. -/
def zrangeRangesWrong : ChangeSpec := { name := "zrangeRanges", fn := fun _ => fun
  | [d1, d2, d3, d4] => { results := [.lit (.bool false)], args := [d1, d2, d3, d4] }
  | _ => none }
def ZrangeRangesWrongFalsely : Prop := zrangeRangesRow.holds Try.pinned (OpenSpec.ofChange zrangeRangesWrong)

/-- 'indenturelaw06.ZrangeBlock': WHATEVER THE INPUT: true; the input reads as it did. -/
def zrangeBlockSpec : ChangeSpec := { name := "zrangeBlock", fn := fun _ => fun
  | [d1, d2] => { results := [.lit (.bool true)], args := [d1, d2] }
  | _ => none }
def zrangeBlockRow : OpenClaim := { program := "ytbhpmigblkaihaa", sum := "012705cc56ce40bbbad2e46742b50cb616d1f13daae6ea9f15c2c9b73ddd91df", func := "indenture/indenturelaw06.ZrangeBlock", spec := "zrangeBlock", unfollowed := true, recurses := true, apart := false }
def ZrangeBlockSaid : Prop := zrangeBlockRow.holds Try.pinned (OpenSpec.ofChange zrangeBlockSpec)

/-- ITS FALSE NEIGHBOUR: 'it returns false'. Refute it at one input. -/
def zrangeBlockWrong : ChangeSpec := { name := "zrangeBlock", fn := fun _ => fun
  | [d1, d2] => { results := [.lit (.bool false)], args := [d1, d2] }
  | _ => none }
def ZrangeBlockWrongFalsely : Prop := zrangeBlockRow.holds Try.pinned (OpenSpec.ofChange zrangeBlockWrong)

/- THE SECOND FORM. 'bulk': how many values and letters a reading holds, each counted each time it is reached (what is shared counts as often as it is met; a slice's spare places count too). A statement '..UptoSaid' is the law's where the arguments, and the package variables that the reading takes, are together of bulk at most 1048576: NARROWER than '..Said'. Prove '..Said' where nothing that the law and all that it calls make is longer than what came in: it says more and counts as full. Else prove '..UptoSaid'. A law counts once. -/
mutual
def uptoBulk {H : Type} : DataW H → Nat
  | .lit (.string bytes) => bytes.length + 1
  | .lit _ => 1
  | .nil => 1
  | .ptr d => uptoBulk d + 1
  | .slice elems spare => uptoBulkAll elems + uptoBulkAll spare + 1
  | .agg parts => uptoBulkAll parts + 1
  | .iface _ d => uptoBulk d + 1
  | .map entries => uptoBulkEntries entries + 1
  | .held _ => 1
def uptoBulkAll {H : Type} : List (DataW H) → Nat
  | [] => 0
  | d :: r => uptoBulk d + uptoBulkAll r
def uptoBulkEntries {H : Type} : List (Lit × DataW H) → Nat
  | [] => 0
  | x :: r => uptoBulkEntry x + uptoBulkEntries r
def uptoBulkEntry {H : Type} : Lit × DataW H → Nat
  | (.string bytes, d) => bytes.length + uptoBulk d + 1
  | (_, d) => uptoBulk d + 1
 end
def uptoSmall : (H : Type) → List (DataW H) → Bool := fun _ ds => decide (uptoBulkAll ds ≤ 1048576)
def OpenSpec.upto (s : _root_.Go.ChangeSpec) : _root_.Go.OpenSpec := { _root_.Go.OpenSpec.ofChange s with cond := some uptoSmall }

/-- 'indenturelaw06.ZrangeSkips', WHERE WHAT IT READS IS OF BULK AT MOST 1048576: true; the input reads as it did. -/
def zrangeSkipsUptoRow : OpenClaim := { program := "ytbhpmigblkaihaa", sum := "012705cc56ce40bbbad2e46742b50cb616d1f13daae6ea9f15c2c9b73ddd91df", func := "indenture/indenturelaw06.ZrangeSkips", spec := "zrangeSkips", unfollowed := true, recurses := true, apart := false, narrowed := true }
def ZrangeSkipsUptoSaid : Prop := zrangeSkipsUptoRow.holds Try.pinned (OpenSpec.upto zrangeSkipsSpec)

/-- 'indenturelaw06.ZrangeBetween', WHERE WHAT IT READS IS OF BULK AT MOST 1048576: true; the input reads as it did. -/
def zrangeBetweenUptoRow : OpenClaim := { program := "ytbhpmigblkaihaa", sum := "012705cc56ce40bbbad2e46742b50cb616d1f13daae6ea9f15c2c9b73ddd91df", func := "indenture/indenturelaw06.ZrangeBetween", spec := "zrangeBetween", unfollowed := true, recurses := true, apart := false, narrowed := true }
def ZrangeBetweenUptoSaid : Prop := zrangeBetweenUptoRow.holds Try.pinned (OpenSpec.upto zrangeBetweenSpec)

/-- 'indenturelaw06.ZrangeSplits', WHERE WHAT IT READS IS OF BULK AT MOST 1048576: true; the input reads as it did. -/
def zrangeSplitsUptoRow : OpenClaim := { program := "ytbhpmigblkaihaa", sum := "012705cc56ce40bbbad2e46742b50cb616d1f13daae6ea9f15c2c9b73ddd91df", func := "indenture/indenturelaw06.ZrangeSplits", spec := "zrangeSplits", unfollowed := true, recurses := true, apart := false, narrowed := true }
def ZrangeSplitsUptoSaid : Prop := zrangeSplitsUptoRow.holds Try.pinned (OpenSpec.upto zrangeSplitsSpec)

/-- 'indenturelaw06.ZrangeRanges', WHERE WHAT IT READS IS OF BULK AT MOST 1048576: true; the input reads as it did. -/
def zrangeRangesUptoRow : OpenClaim := { program := "ytbhpmigblkaihaa", sum := "012705cc56ce40bbbad2e46742b50cb616d1f13daae6ea9f15c2c9b73ddd91df", func := "indenture/indenturelaw06.ZrangeRanges", spec := "zrangeRanges", unfollowed := true, recurses := true, apart := false, narrowed := true }
def ZrangeRangesUptoSaid : Prop := zrangeRangesUptoRow.holds Try.pinned (OpenSpec.upto zrangeRangesSpec)

/-- 'indenturelaw06.ZrangeBlock', WHERE WHAT IT READS IS OF BULK AT MOST 1048576: true; the input reads as it did. -/
def zrangeBlockUptoRow : OpenClaim := { program := "ytbhpmigblkaihaa", sum := "012705cc56ce40bbbad2e46742b50cb616d1f13daae6ea9f15c2c9b73ddd91df", func := "indenture/indenturelaw06.ZrangeBlock", spec := "zrangeBlock", unfollowed := true, recurses := true, apart := false, narrowed := true }
def ZrangeBlockUptoSaid : Prop := zrangeBlockUptoRow.holds Try.pinned (OpenSpec.upto zrangeBlockSpec)

end Rows
end Go.Proofs.Ytbhpmigblkaihaa
