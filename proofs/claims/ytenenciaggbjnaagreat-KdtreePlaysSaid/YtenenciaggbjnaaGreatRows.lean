/-
  No cell of these rows narrows 'for every input' (looked for: loops, veiled, ifaces, maps, wideKeys, modest, calm, conditions, laid).
  DERIVED. THE GIVEN ROWS OF THIS SEAT. 12 by the template 'for every input the law returns true; each argument reads behind the call as it read before'; 0 by the template 'total and deterministic' (their statements: YtenenciaggbjnaaGreatTotals.lean).
  GIVEN WITH THE SEED: the statements are not yours to turn. If you find one false, say at which input.
  Laid BY PROGRAM, IN A SANDBOX (cutbox-rows.mjs): the forced cells as the released guide's own fill.sh prints them over the translation dad1c405b0d7594e… (all of the seat's roots in one cut). By AI agents, Wed Nov 11 2026. No macro, syntax, notation, axiom, sorry.
-/
import Derived.Test.YtenenciaggbjnaaGreatChecked
import GoSem.Claim
import GoSem.ClaimJoined
import GoSem.ClaimMapViews
import Derived.JoinedTies
import Derived.KernelRfl
namespace Go.Proofs.YtenenciaggbjnaaGreat
/- THE CELL 'sum', in the pinned program and in every row, IS THE sha256 OF THE DUMP (.gsa) THAT YtenenciaggbjnaaGreatProg.lean LOADS. Nothing in Lean hashes anything: it is a label: what it is worth is what the hold of that sum in a sandbox is worth. -/
noncomputable def Tryz.pinned : Pinned := { name := "ytenenciaggbjnaagreat", sum := "dad1c405b0d7594ea754801b0db1be7082924bee7bcbab26dd258d8c41d43ef7", checked := Tryz.checked }
namespace Rows
def none {H : Type} : Left H := { results := [], args := [] }

/-- 'indenturelaw11.KdtreePlays': WHATEVER THE INPUT: true; the input reads as it did. -/
def kdtreePlaysSpec : ChangeSpec := { name := "kdtreePlays", fn := fun _ => fun
  | [d1, d2, d3] => { results := [.lit (.bool true)], args := [d1, d2, d3] }
  | _ => none }
def kdtreePlaysRow : OpenClaim := { program := "ytenenciaggbjnaagreat", sum := "dad1c405b0d7594ea754801b0db1be7082924bee7bcbab26dd258d8c41d43ef7", func := "indenture/indenturelaw11.KdtreePlays", spec := "kdtreePlays", unfollowed := true, recurses := true, plainKeys := false, apart := false }
def KdtreePlaysSaid : Prop := kdtreePlaysRow.holds Tryz.pinned (OpenSpec.ofChange kdtreePlaysSpec)

/-- ITS FALSE NEIGHBOUR: 'it returns false'. Refute it at one input. -/
def kdtreePlaysWrong : ChangeSpec := { name := "kdtreePlays", fn := fun _ => fun
  | [d1, d2, d3] => { results := [.lit (.bool false)], args := [d1, d2, d3] }
  | _ => none }
def KdtreePlaysWrongFalsely : Prop := kdtreePlaysRow.holds Tryz.pinned (OpenSpec.ofChange kdtreePlaysWrong)

/-- 'indenturelaw11.KdtreeBuilds': WHATEVER THE INPUT: true; the input reads as it did. -/
def kdtreeBuildsSpec : ChangeSpec := { name := "kdtreeBuilds", fn := fun _ => fun
  | [d1, d2] => { results := [.lit (.bool true)], args := [d1, d2] }
  | _ => none }
def kdtreeBuildsRow : OpenClaim := { program := "ytenenciaggbjnaagreat", sum := "dad1c405b0d7594ea754801b0db1be7082924bee7bcbab26dd258d8c41d43ef7", func := "indenture/indenturelaw11.KdtreeBuilds", spec := "kdtreeBuilds", unfollowed := true, recurses := true, plainKeys := false, apart := false }
def KdtreeBuildsSaid : Prop := kdtreeBuildsRow.holds Tryz.pinned (OpenSpec.ofChange kdtreeBuildsSpec)

/-- ITS FALSE NEIGHBOUR: 'it returns false'. Refute it at one input. -/
def kdtreeBuildsWrong : ChangeSpec := { name := "kdtreeBuilds", fn := fun _ => fun
  | [d1, d2] => { results := [.lit (.bool false)], args := [d1, d2] }
  | _ => none }
def KdtreeBuildsWrongFalsely : Prop := kdtreeBuildsRow.holds Tryz.pinned (OpenSpec.ofChange kdtreeBuildsWrong)

/-- 'indenturelaw11.KdtreeWrong': WHATEVER THE INPUT: true; the input reads as it did. -/
def kdtreeWrongSpec : ChangeSpec := { name := "kdtreeWrong", fn := fun _ => fun
  | [d1, d2, d3] => { results := [.lit (.bool true)], args := [d1, d2, d3] }
  | _ => none }
def kdtreeWrongRow : OpenClaim := { program := "ytenenciaggbjnaagreat", sum := "dad1c405b0d7594ea754801b0db1be7082924bee7bcbab26dd258d8c41d43ef7", func := "indenture/indenturelaw11.KdtreeWrong", spec := "kdtreeWrong", unfollowed := true, recurses := true, plainKeys := false, apart := false }
def KdtreeWrongSaid : Prop := kdtreeWrongRow.holds Tryz.pinned (OpenSpec.ofChange kdtreeWrongSpec)

/-- ITS FALSE NEIGHBOUR: 'it returns false'. Refute it at one input. -/
def kdtreeWrongWrong : ChangeSpec := { name := "kdtreeWrong", fn := fun _ => fun
  | [d1, d2, d3] => { results := [.lit (.bool false)], args := [d1, d2, d3] }
  | _ => none }
def KdtreeWrongWrongFalsely : Prop := kdtreeWrongRow.holds Tryz.pinned (OpenSpec.ofChange kdtreeWrongWrong)

/-- 'indenturelaw11.KdtreeKeeps': WHATEVER THE INPUT: true; the input reads as it did. -/
def kdtreeKeepsSpec : ChangeSpec := { name := "kdtreeKeeps", fn := fun _ => fun
  | [d1, d2, d3] => { results := [.lit (.bool true)], args := [d1, d2, d3] }
  | _ => none }
def kdtreeKeepsRow : OpenClaim := { program := "ytenenciaggbjnaagreat", sum := "dad1c405b0d7594ea754801b0db1be7082924bee7bcbab26dd258d8c41d43ef7", func := "indenture/indenturelaw11.KdtreeKeeps", spec := "kdtreeKeeps", unfollowed := true, recurses := true, plainKeys := false, apart := false }
def KdtreeKeepsSaid : Prop := kdtreeKeepsRow.holds Tryz.pinned (OpenSpec.ofChange kdtreeKeepsSpec)

/-- ITS FALSE NEIGHBOUR: 'it returns false'. Refute it at one input. -/
def kdtreeKeepsWrong : ChangeSpec := { name := "kdtreeKeeps", fn := fun _ => fun
  | [d1, d2, d3] => { results := [.lit (.bool false)], args := [d1, d2, d3] }
  | _ => none }
def KdtreeKeepsWrongFalsely : Prop := kdtreeKeepsRow.holds Tryz.pinned (OpenSpec.ofChange kdtreeKeepsWrong)

/-- 'indenturelaw12.ZbtreePlays': WHATEVER THE INPUT: true; the input reads as it did. -/
def zbtreePlaysSpec : ChangeSpec := { name := "zbtreePlays", fn := fun _ => fun
  | [d1, d2, d3] => { results := [.lit (.bool true)], args := [d1, d2, d3] }
  | _ => none }
def zbtreePlaysRow : OpenClaim := { program := "ytenenciaggbjnaagreat", sum := "dad1c405b0d7594ea754801b0db1be7082924bee7bcbab26dd258d8c41d43ef7", func := "indenture/indenturelaw12.ZbtreePlays", spec := "zbtreePlays", inPlace := ["internal/reflectlite.ValueOf", "internal/reflectlite.Swapper", "(internal/reflectlite.Value).Len", "slices.overlaps[indenture/api.Entry]", "slices.overlaps[indenture/api.Kid]"], unfollowed := true, recurses := true, plainKeys := false, apart := false }
def ZbtreePlaysSaid : Prop := zbtreePlaysRow.holds Tryz.pinned (OpenSpec.ofChange zbtreePlaysSpec)

/-- ITS FALSE NEIGHBOUR: 'it returns false'. Refute it at one input. -/
def zbtreePlaysWrong : ChangeSpec := { name := "zbtreePlays", fn := fun _ => fun
  | [d1, d2, d3] => { results := [.lit (.bool false)], args := [d1, d2, d3] }
  | _ => none }
def ZbtreePlaysWrongFalsely : Prop := zbtreePlaysRow.holds Tryz.pinned (OpenSpec.ofChange zbtreePlaysWrong)

/-- 'indenturelaw12.ZbtreeBuilds': WHATEVER THE INPUT: true; the input reads as it did. -/
def zbtreeBuildsSpec : ChangeSpec := { name := "zbtreeBuilds", fn := fun _ => fun
  | [d1, d2] => { results := [.lit (.bool true)], args := [d1, d2] }
  | _ => none }
def zbtreeBuildsRow : OpenClaim := { program := "ytenenciaggbjnaagreat", sum := "dad1c405b0d7594ea754801b0db1be7082924bee7bcbab26dd258d8c41d43ef7", func := "indenture/indenturelaw12.ZbtreeBuilds", spec := "zbtreeBuilds", inPlace := ["internal/reflectlite.ValueOf", "internal/reflectlite.Swapper", "(internal/reflectlite.Value).Len", "slices.overlaps[indenture/api.Entry]", "slices.overlaps[indenture/api.Kid]"], unfollowed := true, recurses := true, plainKeys := false, apart := false }
def ZbtreeBuildsSaid : Prop := zbtreeBuildsRow.holds Tryz.pinned (OpenSpec.ofChange zbtreeBuildsSpec)

/-- ITS FALSE NEIGHBOUR: 'it returns false'. Refute it at one input. -/
def zbtreeBuildsWrong : ChangeSpec := { name := "zbtreeBuilds", fn := fun _ => fun
  | [d1, d2] => { results := [.lit (.bool false)], args := [d1, d2] }
  | _ => none }
def ZbtreeBuildsWrongFalsely : Prop := zbtreeBuildsRow.holds Tryz.pinned (OpenSpec.ofChange zbtreeBuildsWrong)

/-- 'indenturelaw12.ZbtreeWrong': WHATEVER THE INPUT: true; the input reads as it did. -/
def zbtreeWrongSpec : ChangeSpec := { name := "zbtreeWrong", fn := fun _ => fun
  | [d1, d2, d3] => { results := [.lit (.bool true)], args := [d1, d2, d3] }
  | _ => none }
def zbtreeWrongRow : OpenClaim := { program := "ytenenciaggbjnaagreat", sum := "dad1c405b0d7594ea754801b0db1be7082924bee7bcbab26dd258d8c41d43ef7", func := "indenture/indenturelaw12.ZbtreeWrong", spec := "zbtreeWrong", inPlace := ["internal/reflectlite.ValueOf", "internal/reflectlite.Swapper", "(internal/reflectlite.Value).Len", "slices.overlaps[indenture/api.Entry]", "slices.overlaps[indenture/api.Kid]"], unfollowed := true, recurses := true, plainKeys := false, apart := false }
def ZbtreeWrongSaid : Prop := zbtreeWrongRow.holds Tryz.pinned (OpenSpec.ofChange zbtreeWrongSpec)

/-- ITS FALSE NEIGHBOUR: 'it returns false'. Refute it at one input. -/
def zbtreeWrongWrong : ChangeSpec := { name := "zbtreeWrong", fn := fun _ => fun
  | [d1, d2, d3] => { results := [.lit (.bool false)], args := [d1, d2, d3] }
  | _ => none }
def ZbtreeWrongWrongFalsely : Prop := zbtreeWrongRow.holds Tryz.pinned (OpenSpec.ofChange zbtreeWrongWrong)

/-- 'indenturelaw12.ZbtreeKeeps': WHATEVER THE INPUT: true; the input reads as it did. -/
def zbtreeKeepsSpec : ChangeSpec := { name := "zbtreeKeeps", fn := fun _ => fun
  | [d1, d2, d3] => { results := [.lit (.bool true)], args := [d1, d2, d3] }
  | _ => none }
def zbtreeKeepsRow : OpenClaim := { program := "ytenenciaggbjnaagreat", sum := "dad1c405b0d7594ea754801b0db1be7082924bee7bcbab26dd258d8c41d43ef7", func := "indenture/indenturelaw12.ZbtreeKeeps", spec := "zbtreeKeeps", inPlace := ["internal/reflectlite.ValueOf", "internal/reflectlite.Swapper", "(internal/reflectlite.Value).Len", "slices.overlaps[indenture/api.Entry]", "slices.overlaps[indenture/api.Kid]"], unfollowed := true, recurses := true, plainKeys := false, apart := false }
def ZbtreeKeepsSaid : Prop := zbtreeKeepsRow.holds Tryz.pinned (OpenSpec.ofChange zbtreeKeepsSpec)

/-- ITS FALSE NEIGHBOUR: 'it returns false'. Refute it at one input. -/
def zbtreeKeepsWrong : ChangeSpec := { name := "zbtreeKeeps", fn := fun _ => fun
  | [d1, d2, d3] => { results := [.lit (.bool false)], args := [d1, d2, d3] }
  | _ => none }
def ZbtreeKeepsWrongFalsely : Prop := zbtreeKeepsRow.holds Tryz.pinned (OpenSpec.ofChange zbtreeKeepsWrong)

/-- 'indenturelaw13.ZbscanFinds': WHATEVER THE INPUT: true; the input reads as it did. -/
def zbscanFindsSpec : ChangeSpec := { name := "zbscanFinds", fn := fun _ => fun
  | [d1, d2, d3, d4] => { results := [.lit (.bool true)], args := [d1, d2, d3, d4] }
  | _ => none }
def zbscanFindsRow : OpenClaim := { program := "ytenenciaggbjnaagreat", sum := "dad1c405b0d7594ea754801b0db1be7082924bee7bcbab26dd258d8c41d43ef7", func := "indenture/indenturelaw13.ZbscanFinds", spec := "zbscanFinds", inPlace := ["internal/reflectlite.ValueOf", "internal/reflectlite.Swapper", "(internal/reflectlite.Value).Len", "slices.overlaps[indenture/api.Entry]", "slices.overlaps[indenture/api.Kid]"], unfollowed := true, recurses := true, plainKeys := false, apart := false }
def ZbscanFindsSaid : Prop := zbscanFindsRow.holds Tryz.pinned (OpenSpec.ofChange zbscanFindsSpec)

/-- ITS FALSE NEIGHBOUR: 'it returns false'. Refute it at one input. -/
def zbscanFindsWrong : ChangeSpec := { name := "zbscanFinds", fn := fun _ => fun
  | [d1, d2, d3, d4] => { results := [.lit (.bool false)], args := [d1, d2, d3, d4] }
  | _ => none }
def ZbscanFindsWrongFalsely : Prop := zbscanFindsRow.holds Tryz.pinned (OpenSpec.ofChange zbscanFindsWrong)

/-- 'indenturelaw13.ZbscanScans': WHATEVER THE INPUT: true; the input reads as it did. -/
def zbscanScansSpec : ChangeSpec := { name := "zbscanScans", fn := fun _ => fun
  | [d1, d2, d3] => { results := [.lit (.bool true)], args := [d1, d2, d3] }
  | _ => none }
def zbscanScansRow : OpenClaim := { program := "ytenenciaggbjnaagreat", sum := "dad1c405b0d7594ea754801b0db1be7082924bee7bcbab26dd258d8c41d43ef7", func := "indenture/indenturelaw13.ZbscanScans", spec := "zbscanScans", inPlace := ["internal/reflectlite.ValueOf", "internal/reflectlite.Swapper", "(internal/reflectlite.Value).Len", "slices.overlaps[indenture/api.Entry]", "slices.overlaps[indenture/api.Kid]"], unfollowed := true, recurses := true, plainKeys := false, apart := false }
def ZbscanScansSaid : Prop := zbscanScansRow.holds Tryz.pinned (OpenSpec.ofChange zbscanScansSpec)

/-- ITS FALSE NEIGHBOUR: 'it returns false'. Refute it at one input. -/
def zbscanScansWrong : ChangeSpec := { name := "zbscanScans", fn := fun _ => fun
  | [d1, d2, d3] => { results := [.lit (.bool false)], args := [d1, d2, d3] }
  | _ => none }
def ZbscanScansWrongFalsely : Prop := zbscanScansRow.holds Tryz.pinned (OpenSpec.ofChange zbscanScansWrong)

/-- 'indenturelaw13.ZbscanPieces': WHATEVER THE INPUT: true; the input reads as it did. -/
def zbscanPiecesSpec : ChangeSpec := { name := "zbscanPieces", fn := fun _ => fun
  | [d1, d2, d3, d4] => { results := [.lit (.bool true)], args := [d1, d2, d3, d4] }
  | _ => none }
def zbscanPiecesRow : OpenClaim := { program := "ytenenciaggbjnaagreat", sum := "dad1c405b0d7594ea754801b0db1be7082924bee7bcbab26dd258d8c41d43ef7", func := "indenture/indenturelaw13.ZbscanPieces", spec := "zbscanPieces", inPlace := ["internal/reflectlite.ValueOf", "internal/reflectlite.Swapper", "(internal/reflectlite.Value).Len", "slices.overlaps[indenture/api.Entry]", "slices.overlaps[indenture/api.Kid]"], unfollowed := true, recurses := true, plainKeys := false, apart := false }
def ZbscanPiecesSaid : Prop := zbscanPiecesRow.holds Tryz.pinned (OpenSpec.ofChange zbscanPiecesSpec)

/-- ITS FALSE NEIGHBOUR: 'it returns false'. Refute it at one input. -/
def zbscanPiecesWrong : ChangeSpec := { name := "zbscanPieces", fn := fun _ => fun
  | [d1, d2, d3, d4] => { results := [.lit (.bool false)], args := [d1, d2, d3, d4] }
  | _ => none }
def ZbscanPiecesWrongFalsely : Prop := zbscanPiecesRow.holds Tryz.pinned (OpenSpec.ofChange zbscanPiecesWrong)

/-- 'indenturelaw13.ZbscanGone': WHATEVER THE INPUT: true; the input reads as it did. -/
def zbscanGoneSpec : ChangeSpec := { name := "zbscanGone", fn := fun _ => fun
  | [d1, d2] => { results := [.lit (.bool true)], args := [d1, d2] }
  | _ => none }
def zbscanGoneRow : OpenClaim := { program := "ytenenciaggbjnaagreat", sum := "dad1c405b0d7594ea754801b0db1be7082924bee7bcbab26dd258d8c41d43ef7", func := "indenture/indenturelaw13.ZbscanGone", spec := "zbscanGone", inPlace := ["internal/reflectlite.ValueOf", "internal/reflectlite.Swapper", "(internal/reflectlite.Value).Len"], unfollowed := true, recurses := true, plainKeys := false, apart := false }
def ZbscanGoneSaid : Prop := zbscanGoneRow.holds Tryz.pinned (OpenSpec.ofChange zbscanGoneSpec)

/-- ITS FALSE NEIGHBOUR: 'it returns false'. Refute it at one input. -/
def zbscanGoneWrong : ChangeSpec := { name := "zbscanGone", fn := fun _ => fun
  | [d1, d2] => { results := [.lit (.bool false)], args := [d1, d2] }
  | _ => none }
def ZbscanGoneWrongFalsely : Prop := zbscanGoneRow.holds Tryz.pinned (OpenSpec.ofChange zbscanGoneWrong)

/- THE SECOND FORM. 'bulk': how many values and letters a reading holds, each counted each time it is reached (what is shared counts as often as it is met; a slice's spare places count too). A statement '..UptoSaid' is the law's where the arguments, and the package variables that the reading takes, are together of bulk at most 1048576: NARROWER than '..Said'. Prove '..Said' where nothing that the law and all that it calls make is longer than what came in: it says more and counts as full. Else prove '..UptoSaid'. A law counts once. -/
mutual
def uptoBulk {H : Type} : DataW H → Nat
  | .lit (.string bytes) => bytes.length + 1
  | .lit _ => 1
  | .nil => 1
  | .ptr d => uptoBulk d + 1
  | .slice elems spare => uptoBulkAll elems + uptoBulkAll spare + 1
  | .agg parts => uptoBulkAll parts + 1
  | .iface _ d => uptoBulk d + 1
  | .map entries => uptoBulkEntries entries + 1
  | .held _ => 1
def uptoBulkAll {H : Type} : List (DataW H) → Nat
  | [] => 0
  | d :: r => uptoBulk d + uptoBulkAll r
def uptoBulkEntries {H : Type} : List (Lit × DataW H) → Nat
  | [] => 0
  | x :: r => uptoBulkEntry x + uptoBulkEntries r
def uptoBulkEntry {H : Type} : Lit × DataW H → Nat
  | (.string bytes, d) => bytes.length + uptoBulk d + 1
  | (_, d) => uptoBulk d + 1
 end
def uptoSmall : (H : Type) → List (DataW H) → Bool := fun _ ds => decide (uptoBulkAll ds ≤ 1048576)
def OpenSpec.upto (s : _root_.Go.ChangeSpec) : _root_.Go.OpenSpec := { _root_.Go.OpenSpec.ofChange s with cond := some uptoSmall }

/-- 'indenturelaw11.KdtreePlays', WHERE WHAT IT READS IS OF BULK AT MOST 1048576: true; the input reads as it did. -/
def kdtreePlaysUptoRow : OpenClaim := { program := "ytenenciaggbjnaagreat", sum := "dad1c405b0d7594ea754801b0db1be7082924bee7bcbab26dd258d8c41d43ef7", func := "indenture/indenturelaw11.KdtreePlays", spec := "kdtreePlays", unfollowed := true, recurses := true, plainKeys := false, apart := false, narrowed := true }
def KdtreePlaysUptoSaid : Prop := kdtreePlaysUptoRow.holds Tryz.pinned (OpenSpec.upto kdtreePlaysSpec)

/-- 'indenturelaw11.KdtreeBuilds', WHERE WHAT IT READS IS OF BULK AT MOST 1048576: true; the input reads as it did. -/
def kdtreeBuildsUptoRow : OpenClaim := { program := "ytenenciaggbjnaagreat", sum := "dad1c405b0d7594ea754801b0db1be7082924bee7bcbab26dd258d8c41d43ef7", func := "indenture/indenturelaw11.KdtreeBuilds", spec := "kdtreeBuilds", unfollowed := true, recurses := true, plainKeys := false, apart := false, narrowed := true }
def KdtreeBuildsUptoSaid : Prop := kdtreeBuildsUptoRow.holds Tryz.pinned (OpenSpec.upto kdtreeBuildsSpec)

/-- 'indenturelaw11.KdtreeWrong', WHERE WHAT IT READS IS OF BULK AT MOST 1048576: true; the input reads as it did. -/
def kdtreeWrongUptoRow : OpenClaim := { program := "ytenenciaggbjnaagreat", sum := "dad1c405b0d7594ea754801b0db1be7082924bee7bcbab26dd258d8c41d43ef7", func := "indenture/indenturelaw11.KdtreeWrong", spec := "kdtreeWrong", unfollowed := true, recurses := true, plainKeys := false, apart := false, narrowed := true }
def KdtreeWrongUptoSaid : Prop := kdtreeWrongUptoRow.holds Tryz.pinned (OpenSpec.upto kdtreeWrongSpec)

/-- 'indenturelaw11.KdtreeKeeps', WHERE WHAT IT READS IS OF BULK AT MOST 1048576: true; the input reads as it did. -/
def kdtreeKeepsUptoRow : OpenClaim := { program := "ytenenciaggbjnaagreat", sum := "dad1c405b0d7594ea754801b0db1be7082924bee7bcbab26dd258d8c41d43ef7", func := "indenture/indenturelaw11.KdtreeKeeps", spec := "kdtreeKeeps", unfollowed := true, recurses := true, plainKeys := false, apart := false, narrowed := true }
def KdtreeKeepsUptoSaid : Prop := kdtreeKeepsUptoRow.holds Tryz.pinned (OpenSpec.upto kdtreeKeepsSpec)

/-- 'indenturelaw12.ZbtreePlays', WHERE WHAT IT READS IS OF BULK AT MOST 1048576: true; the input reads as it did. -/
def zbtreePlaysUptoRow : OpenClaim := { program := "ytenenciaggbjnaagreat", sum := "dad1c405b0d7594ea754801b0db1be7082924bee7bcbab26dd258d8c41d43ef7", func := "indenture/indenturelaw12.ZbtreePlays", spec := "zbtreePlays", inPlace := ["internal/reflectlite.ValueOf", "internal/reflectlite.Swapper", "(internal/reflectlite.Value).Len", "slices.overlaps[indenture/api.Entry]", "slices.overlaps[indenture/api.Kid]"], unfollowed := true, recurses := true, plainKeys := false, apart := false, narrowed := true }
def ZbtreePlaysUptoSaid : Prop := zbtreePlaysUptoRow.holds Tryz.pinned (OpenSpec.upto zbtreePlaysSpec)

/-- 'indenturelaw12.ZbtreeBuilds', WHERE WHAT IT READS IS OF BULK AT MOST 1048576: true; the input reads as it did. -/
def zbtreeBuildsUptoRow : OpenClaim := { program := "ytenenciaggbjnaagreat", sum := "dad1c405b0d7594ea754801b0db1be7082924bee7bcbab26dd258d8c41d43ef7", func := "indenture/indenturelaw12.ZbtreeBuilds", spec := "zbtreeBuilds", inPlace := ["internal/reflectlite.ValueOf", "internal/reflectlite.Swapper", "(internal/reflectlite.Value).Len", "slices.overlaps[indenture/api.Entry]", "slices.overlaps[indenture/api.Kid]"], unfollowed := true, recurses := true, plainKeys := false, apart := false, narrowed := true }
def ZbtreeBuildsUptoSaid : Prop := zbtreeBuildsUptoRow.holds Tryz.pinned (OpenSpec.upto zbtreeBuildsSpec)

/-- 'indenturelaw12.ZbtreeWrong', WHERE WHAT IT READS IS OF BULK AT MOST 1048576: true; the input reads as it did. -/
def zbtreeWrongUptoRow : OpenClaim := { program := "ytenenciaggbjnaagreat", sum := "dad1c405b0d7594ea754801b0db1be7082924bee7bcbab26dd258d8c41d43ef7", func := "indenture/indenturelaw12.ZbtreeWrong", spec := "zbtreeWrong", inPlace := ["internal/reflectlite.ValueOf", "internal/reflectlite.Swapper", "(internal/reflectlite.Value).Len", "slices.overlaps[indenture/api.Entry]", "slices.overlaps[indenture/api.Kid]"], unfollowed := true, recurses := true, plainKeys := false, apart := false, narrowed := true }
def ZbtreeWrongUptoSaid : Prop := zbtreeWrongUptoRow.holds Tryz.pinned (OpenSpec.upto zbtreeWrongSpec)

/-- 'indenturelaw12.ZbtreeKeeps', WHERE WHAT IT READS IS OF BULK AT MOST 1048576: true; the input reads as it did. -/
def zbtreeKeepsUptoRow : OpenClaim := { program := "ytenenciaggbjnaagreat", sum := "dad1c405b0d7594ea754801b0db1be7082924bee7bcbab26dd258d8c41d43ef7", func := "indenture/indenturelaw12.ZbtreeKeeps", spec := "zbtreeKeeps", inPlace := ["internal/reflectlite.ValueOf", "internal/reflectlite.Swapper", "(internal/reflectlite.Value).Len", "slices.overlaps[indenture/api.Entry]", "slices.overlaps[indenture/api.Kid]"], unfollowed := true, recurses := true, plainKeys := false, apart := false, narrowed := true }
def ZbtreeKeepsUptoSaid : Prop := zbtreeKeepsUptoRow.holds Tryz.pinned (OpenSpec.upto zbtreeKeepsSpec)

/-- 'indenturelaw13.ZbscanFinds', WHERE WHAT IT READS IS OF BULK AT MOST 1048576: true; the input reads as it did. -/
def zbscanFindsUptoRow : OpenClaim := { program := "ytenenciaggbjnaagreat", sum := "dad1c405b0d7594ea754801b0db1be7082924bee7bcbab26dd258d8c41d43ef7", func := "indenture/indenturelaw13.ZbscanFinds", spec := "zbscanFinds", inPlace := ["internal/reflectlite.ValueOf", "internal/reflectlite.Swapper", "(internal/reflectlite.Value).Len", "slices.overlaps[indenture/api.Entry]", "slices.overlaps[indenture/api.Kid]"], unfollowed := true, recurses := true, plainKeys := false, apart := false, narrowed := true }
def ZbscanFindsUptoSaid : Prop := zbscanFindsUptoRow.holds Tryz.pinned (OpenSpec.upto zbscanFindsSpec)

/-- 'indenturelaw13.ZbscanScans', WHERE WHAT IT READS IS OF BULK AT MOST 1048576: true; the input reads as it did. -/
def zbscanScansUptoRow : OpenClaim := { program := "ytenenciaggbjnaagreat", sum := "dad1c405b0d7594ea754801b0db1be7082924bee7bcbab26dd258d8c41d43ef7", func := "indenture/indenturelaw13.ZbscanScans", spec := "zbscanScans", inPlace := ["internal/reflectlite.ValueOf", "internal/reflectlite.Swapper", "(internal/reflectlite.Value).Len", "slices.overlaps[indenture/api.Entry]", "slices.overlaps[indenture/api.Kid]"], unfollowed := true, recurses := true, plainKeys := false, apart := false, narrowed := true }
def ZbscanScansUptoSaid : Prop := zbscanScansUptoRow.holds Tryz.pinned (OpenSpec.upto zbscanScansSpec)

/-- 'indenturelaw13.ZbscanPieces', WHERE WHAT IT READS IS OF BULK AT MOST 1048576: true; the input reads as it did. -/
def zbscanPiecesUptoRow : OpenClaim := { program := "ytenenciaggbjnaagreat", sum := "dad1c405b0d7594ea754801b0db1be7082924bee7bcbab26dd258d8c41d43ef7", func := "indenture/indenturelaw13.ZbscanPieces", spec := "zbscanPieces", inPlace := ["internal/reflectlite.ValueOf", "internal/reflectlite.Swapper", "(internal/reflectlite.Value).Len", "slices.overlaps[indenture/api.Entry]", "slices.overlaps[indenture/api.Kid]"], unfollowed := true, recurses := true, plainKeys := false, apart := false, narrowed := true }
def ZbscanPiecesUptoSaid : Prop := zbscanPiecesUptoRow.holds Tryz.pinned (OpenSpec.upto zbscanPiecesSpec)

/-- 'indenturelaw13.ZbscanGone', WHERE WHAT IT READS IS OF BULK AT MOST 1048576: true; the input reads as it did. -/
def zbscanGoneUptoRow : OpenClaim := { program := "ytenenciaggbjnaagreat", sum := "dad1c405b0d7594ea754801b0db1be7082924bee7bcbab26dd258d8c41d43ef7", func := "indenture/indenturelaw13.ZbscanGone", spec := "zbscanGone", inPlace := ["internal/reflectlite.ValueOf", "internal/reflectlite.Swapper", "(internal/reflectlite.Value).Len"], unfollowed := true, recurses := true, plainKeys := false, apart := false, narrowed := true }
def ZbscanGoneUptoSaid : Prop := zbscanGoneUptoRow.holds Tryz.pinned (OpenSpec.upto zbscanGoneSpec)

end Rows
end Go.Proofs.YtenenciaggbjnaaGreat
