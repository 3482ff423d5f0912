/-
  NARROWER THAN 'FOR EVERY INPUT', by the rows' own cells (each row's printed sentence says how): ClampGroups: laid · ClampSpreads: laid · ClampOnes: laid · ClampWhole: laid · ClampStands: laid.
  DERIVED. THE GIVEN ROWS OF THIS SEAT. 5 by the template 'for every input the law returns true; each argument reads behind the call as it read before'; 0 by the template 'total and deterministic' (their statements: YthpcbijeahcpmabDoorTotals.lean).
  GIVEN WITH THE SEED: the statements are not yours to turn. If you find one false, say at which input.
  Laid BY PROGRAM, IN A SANDBOX (cutbox-rows.mjs): the forced cells as the released guide's own fill.sh prints them over the translation a7b2ab6b5834c910… (all of the seat's roots in one cut). By AI agents, Wed Nov 11 2026. No macro, syntax, notation, axiom, sorry.
-/
import Derived.Test.YthpcbijeahcpmabDoorChecked
import GoSem.Claim
import GoSem.ClaimJoined
import GoSem.ClaimMapViews
import Derived.JoinedTies
import Derived.KernelRfl
namespace Go.Proofs.YthpcbijeahcpmabDoor
/- THE CELL 'sum', in the pinned program and in every row, IS THE sha256 OF THE DUMP (.gsa) THAT YthpcbijeahcpmabDoorProg.lean LOADS. Nothing in Lean hashes anything: it is a label: what it is worth is what the hold of that sum in a sandbox is worth. -/
noncomputable def Tryd.pinned : Pinned := { name := "ythpcbijeahcpmabdoor", sum := "a7b2ab6b5834c9101659a8c2398145e37cfd51b7b1c780f19e5106983a32f757", checked := Tryd.checked }
namespace Rows
def none {H : Type} : Left H := { results := [], args := [] }

/- WHAT THE LISTED PACKAGE-LEVEL VARIABLES READ AS WHEN THE CALL BEGINS. Each datum BY PROGRAM (the guide's laid-datum.mjs) off the statement by which the dump's own 'gosem.cut.vars' lays the variable. In a bare row this is a premise. The card (YthpcbijeahcpmabDoorCards.lean) ties it to the program's text. -/
def laid_sheave_clamp_kept {H : Type} : DataW H := .agg [.lit (.int .u8 255), .lit (.int .u8 255), .lit (.int .u8 255), .lit (.int .u8 15), .lit (.int .u8 252), .lit (.int .u8 255), .lit (.int .u8 255), .lit (.int .u8 15), .lit (.int .u8 252), .lit (.int .u8 255), .lit (.int .u8 255), .lit (.int .u8 15), .lit (.int .u8 252), .lit (.int .u8 255), .lit (.int .u8 255), .lit (.int .u8 15)]
def laid_sheave_clamp_modulus {H : Type} : DataW H := .agg [.lit (.int .u64 18446744073709551611), .lit (.int .u64 18446744073709551615), .lit (.int .u64 3)]

/-- 'sheavelaw03.ClampGroups': WHATEVER THE INPUT: true; the input reads as it did. -/
def clampGroupsSpec : ChangeSpec := { name := "clampGroups", fn := fun _ => fun
  | [d1, d2, d3] => { results := [.lit (.bool true)], args := [d1, d2, d3] }
  | _ => none }
def clampGroupsRow : OpenClaim := { program := "ythpcbijeahcpmabdoor", sum := "a7b2ab6b5834c9101659a8c2398145e37cfd51b7b1c780f19e5106983a32f757", func := "sheave/sheavelaw03.ClampGroups", spec := "clampGroups", inPlace := ["math/bits.Add64", "math/bits.Sub64"], named := ["sheave/clamp.kept", "sheave/clamp.modulus"], apart := false, laid := [("sheave/clamp.kept", laid_sheave_clamp_kept), ("sheave/clamp.modulus", laid_sheave_clamp_modulus)] }
def ClampGroupsSaid : Prop := clampGroupsRow.holds Tryd.pinned (OpenSpec.ofChange clampGroupsSpec)

/-- ITS FALSE NEIGHBOUR: 'it returns false'. Refute it at one input. -/
def clampGroupsWrong : ChangeSpec := { name := "clampGroups", fn := fun _ => fun
  | [d1, d2, d3] => { results := [.lit (.bool false)], args := [d1, d2, d3] }
  | _ => none }
def ClampGroupsWrongFalsely : Prop := clampGroupsRow.holds Tryd.pinned (OpenSpec.ofChange clampGroupsWrong)

/-- 'sheavelaw03.ClampSpreads': WHATEVER THE INPUT: true; the input reads as it did. -/
def clampSpreadsSpec : ChangeSpec := { name := "clampSpreads", fn := fun _ => fun
  | [d1, d2, d3] => { results := [.lit (.bool true)], args := [d1, d2, d3] }
  | _ => none }
def clampSpreadsRow : OpenClaim := { program := "ythpcbijeahcpmabdoor", sum := "a7b2ab6b5834c9101659a8c2398145e37cfd51b7b1c780f19e5106983a32f757", func := "sheave/sheavelaw03.ClampSpreads", spec := "clampSpreads", inPlace := ["math/bits.Add64", "math/bits.Sub64"], named := ["sheave/clamp.kept", "sheave/clamp.modulus"], apart := false, laid := [("sheave/clamp.kept", laid_sheave_clamp_kept), ("sheave/clamp.modulus", laid_sheave_clamp_modulus)] }
def ClampSpreadsSaid : Prop := clampSpreadsRow.holds Tryd.pinned (OpenSpec.ofChange clampSpreadsSpec)

/-- ITS FALSE NEIGHBOUR: 'it returns false'. Refute it at one input. -/
def clampSpreadsWrong : ChangeSpec := { name := "clampSpreads", fn := fun _ => fun
  | [d1, d2, d3] => { results := [.lit (.bool false)], args := [d1, d2, d3] }
  | _ => none }
def ClampSpreadsWrongFalsely : Prop := clampSpreadsRow.holds Tryd.pinned (OpenSpec.ofChange clampSpreadsWrong)

/-- 'sheavelaw03.ClampOnes': WHATEVER THE INPUT: true; the input reads as it did. -/
def clampOnesSpec : ChangeSpec := { name := "clampOnes", fn := fun _ => fun
  | [d] => { results := [.lit (.bool true)], args := [d] }
  | _ => none }
def clampOnesRow : OpenClaim := { program := "ythpcbijeahcpmabdoor", sum := "a7b2ab6b5834c9101659a8c2398145e37cfd51b7b1c780f19e5106983a32f757", func := "sheave/sheavelaw03.ClampOnes", spec := "clampOnes", inPlace := ["math/bits.Add64", "math/bits.Sub64"], named := ["sheave/clamp.kept", "sheave/clamp.modulus"], apart := false, laid := [("sheave/clamp.kept", laid_sheave_clamp_kept), ("sheave/clamp.modulus", laid_sheave_clamp_modulus)] }
def ClampOnesSaid : Prop := clampOnesRow.holds Tryd.pinned (OpenSpec.ofChange clampOnesSpec)

/-- ITS FALSE NEIGHBOUR: 'it returns false'. Refute it at one input. -/
def clampOnesWrong : ChangeSpec := { name := "clampOnes", fn := fun _ => fun
  | [d] => { results := [.lit (.bool false)], args := [d] }
  | _ => none }
def ClampOnesWrongFalsely : Prop := clampOnesRow.holds Tryd.pinned (OpenSpec.ofChange clampOnesWrong)

/-- 'sheavelaw03.ClampWhole': WHATEVER THE INPUT: true; the input reads as it did. -/
def clampWholeSpec : ChangeSpec := { name := "clampWhole", fn := fun _ => fun
  | [d1, d2] => { results := [.lit (.bool true)], args := [d1, d2] }
  | _ => none }
def clampWholeRow : OpenClaim := { program := "ythpcbijeahcpmabdoor", sum := "a7b2ab6b5834c9101659a8c2398145e37cfd51b7b1c780f19e5106983a32f757", func := "sheave/sheavelaw03.ClampWhole", spec := "clampWhole", inPlace := ["math/bits.Add64", "math/bits.Sub64"], named := ["sheave/clamp.kept", "sheave/clamp.modulus"], apart := false, laid := [("sheave/clamp.kept", laid_sheave_clamp_kept), ("sheave/clamp.modulus", laid_sheave_clamp_modulus)] }
def ClampWholeSaid : Prop := clampWholeRow.holds Tryd.pinned (OpenSpec.ofChange clampWholeSpec)

/-- ITS FALSE NEIGHBOUR: 'it returns false'. Refute it at one input. -/
def clampWholeWrong : ChangeSpec := { name := "clampWhole", fn := fun _ => fun
  | [d1, d2] => { results := [.lit (.bool false)], args := [d1, d2] }
  | _ => none }
def ClampWholeWrongFalsely : Prop := clampWholeRow.holds Tryd.pinned (OpenSpec.ofChange clampWholeWrong)

/-- 'sheavelaw03.ClampStands': WHATEVER THE INPUT: true; the input reads as it did. -/
def clampStandsSpec : ChangeSpec := { name := "clampStands", fn := fun _ => fun
  | [d1, d2] => { results := [.lit (.bool true)], args := [d1, d2] }
  | _ => none }
def clampStandsRow : OpenClaim := { program := "ythpcbijeahcpmabdoor", sum := "a7b2ab6b5834c9101659a8c2398145e37cfd51b7b1c780f19e5106983a32f757", func := "sheave/sheavelaw03.ClampStands", spec := "clampStands", inPlace := ["math/bits.Add64", "math/bits.Sub64"], named := ["sheave/clamp.kept", "sheave/clamp.modulus"], apart := false, laid := [("sheave/clamp.kept", laid_sheave_clamp_kept), ("sheave/clamp.modulus", laid_sheave_clamp_modulus)] }
def ClampStandsSaid : Prop := clampStandsRow.holds Tryd.pinned (OpenSpec.ofChange clampStandsSpec)

/-- ITS FALSE NEIGHBOUR: 'it returns false'. Refute it at one input. -/
def clampStandsWrong : ChangeSpec := { name := "clampStands", fn := fun _ => fun
  | [d1, d2] => { results := [.lit (.bool false)], args := [d1, d2] }
  | _ => none }
def ClampStandsWrongFalsely : Prop := clampStandsRow.holds Tryd.pinned (OpenSpec.ofChange clampStandsWrong)

/- THE SECOND FORM. 'bulk': how many values and letters a reading holds, each counted each time it is reached (what is shared counts as often as it is met; a slice's spare places count too). A statement '..UptoSaid' is the law's where the arguments, and the package variables that the reading takes, are together of bulk at most 1048576: NARROWER than '..Said'. Prove '..Said' where nothing that the law and all that it calls make is longer than what came in: it says more and counts as full. Else prove '..UptoSaid'. A law counts once. -/
mutual
def uptoBulk {H : Type} : DataW H → Nat
  | .lit (.string bytes) => bytes.length + 1
  | .lit _ => 1
  | .nil => 1
  | .ptr d => uptoBulk d + 1
  | .slice elems spare => uptoBulkAll elems + uptoBulkAll spare + 1
  | .agg parts => uptoBulkAll parts + 1
  | .iface _ d => uptoBulk d + 1
  | .map entries => uptoBulkEntries entries + 1
  | .held _ => 1
def uptoBulkAll {H : Type} : List (DataW H) → Nat
  | [] => 0
  | d :: r => uptoBulk d + uptoBulkAll r
def uptoBulkEntries {H : Type} : List (Lit × DataW H) → Nat
  | [] => 0
  | x :: r => uptoBulkEntry x + uptoBulkEntries r
def uptoBulkEntry {H : Type} : Lit × DataW H → Nat
  | (.string bytes, d) => bytes.length + uptoBulk d + 1
  | (_, d) => uptoBulk d + 1
 end
def uptoSmall : (H : Type) → List (DataW H) → Bool := fun _ ds => decide (uptoBulkAll ds ≤ 1048576)
def OpenSpec.upto (s : _root_.Go.ChangeSpec) : _root_.Go.OpenSpec := { _root_.Go.OpenSpec.ofChange s with cond := some uptoSmall }

/-- 'sheavelaw03.ClampGroups', WHERE WHAT IT READS IS OF BULK AT MOST 1048576: true; the input reads as it did. -/
def clampGroupsUptoRow : OpenClaim := { program := "ythpcbijeahcpmabdoor", sum := "a7b2ab6b5834c9101659a8c2398145e37cfd51b7b1c780f19e5106983a32f757", func := "sheave/sheavelaw03.ClampGroups", spec := "clampGroups", inPlace := ["math/bits.Add64", "math/bits.Sub64"], named := ["sheave/clamp.kept", "sheave/clamp.modulus"], apart := false, laid := [("sheave/clamp.kept", laid_sheave_clamp_kept), ("sheave/clamp.modulus", laid_sheave_clamp_modulus)], narrowed := true }
def ClampGroupsUptoSaid : Prop := clampGroupsUptoRow.holds Tryd.pinned (OpenSpec.upto clampGroupsSpec)

/-- 'sheavelaw03.ClampSpreads', WHERE WHAT IT READS IS OF BULK AT MOST 1048576: true; the input reads as it did. -/
def clampSpreadsUptoRow : OpenClaim := { program := "ythpcbijeahcpmabdoor", sum := "a7b2ab6b5834c9101659a8c2398145e37cfd51b7b1c780f19e5106983a32f757", func := "sheave/sheavelaw03.ClampSpreads", spec := "clampSpreads", inPlace := ["math/bits.Add64", "math/bits.Sub64"], named := ["sheave/clamp.kept", "sheave/clamp.modulus"], apart := false, laid := [("sheave/clamp.kept", laid_sheave_clamp_kept), ("sheave/clamp.modulus", laid_sheave_clamp_modulus)], narrowed := true }
def ClampSpreadsUptoSaid : Prop := clampSpreadsUptoRow.holds Tryd.pinned (OpenSpec.upto clampSpreadsSpec)

/-- 'sheavelaw03.ClampOnes', WHERE WHAT IT READS IS OF BULK AT MOST 1048576: true; the input reads as it did. -/
def clampOnesUptoRow : OpenClaim := { program := "ythpcbijeahcpmabdoor", sum := "a7b2ab6b5834c9101659a8c2398145e37cfd51b7b1c780f19e5106983a32f757", func := "sheave/sheavelaw03.ClampOnes", spec := "clampOnes", inPlace := ["math/bits.Add64", "math/bits.Sub64"], named := ["sheave/clamp.kept", "sheave/clamp.modulus"], apart := false, laid := [("sheave/clamp.kept", laid_sheave_clamp_kept), ("sheave/clamp.modulus", laid_sheave_clamp_modulus)], narrowed := true }
def ClampOnesUptoSaid : Prop := clampOnesUptoRow.holds Tryd.pinned (OpenSpec.upto clampOnesSpec)

/-- 'sheavelaw03.ClampWhole', WHERE WHAT IT READS IS OF BULK AT MOST 1048576: true; the input reads as it did. -/
def clampWholeUptoRow : OpenClaim := { program := "ythpcbijeahcpmabdoor", sum := "a7b2ab6b5834c9101659a8c2398145e37cfd51b7b1c780f19e5106983a32f757", func := "sheave/sheavelaw03.ClampWhole", spec := "clampWhole", inPlace := ["math/bits.Add64", "math/bits.Sub64"], named := ["sheave/clamp.kept", "sheave/clamp.modulus"], apart := false, laid := [("sheave/clamp.kept", laid_sheave_clamp_kept), ("sheave/clamp.modulus", laid_sheave_clamp_modulus)], narrowed := true }
def ClampWholeUptoSaid : Prop := clampWholeUptoRow.holds Tryd.pinned (OpenSpec.upto clampWholeSpec)

/-- 'sheavelaw03.ClampStands', WHERE WHAT IT READS IS OF BULK AT MOST 1048576: true; the input reads as it did. -/
def clampStandsUptoRow : OpenClaim := { program := "ythpcbijeahcpmabdoor", sum := "a7b2ab6b5834c9101659a8c2398145e37cfd51b7b1c780f19e5106983a32f757", func := "sheave/sheavelaw03.ClampStands", spec := "clampStands", inPlace := ["math/bits.Add64", "math/bits.Sub64"], named := ["sheave/clamp.kept", "sheave/clamp.modulus"], apart := false, laid := [("sheave/clamp.kept", laid_sheave_clamp_kept), ("sheave/clamp.modulus", laid_sheave_clamp_modulus)], narrowed := true }
def ClampStandsUptoSaid : Prop := clampStandsUptoRow.holds Tryd.pinned (OpenSpec.upto clampStandsSpec)

end Rows
end Go.Proofs.YthpcbijeahcpmabDoor
