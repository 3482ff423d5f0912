/-
  NARROWER THAN 'FOR EVERY INPUT', by the rows' own cells (each row's printed sentence says how): CurveInverse: laid · CurveSides: laid · CurveGroups: laid · CurveSpreads: laid · CurveUndoes: laid · CurveSame: laid.
  DERIVED. THE GIVEN ROWS OF THIS SEAT. 6 by the template 'for every input the law returns true; each argument reads behind the call as it read before'; 0 by the template 'total and deterministic' (their statements: YtjddngedifgneabDoorTotals.lean).
  GIVEN WITH THE SEED: the statements are not yours to turn. If you find one false, say at which input.
  Laid BY PROGRAM, IN A SANDBOX (cutbox-rows.mjs): the forced cells as the released guide's own fill.sh prints them over the translation c4d540a94cbb1732… (all of the seat's roots in one cut). By AI agents, Wed Nov 11 2026. No macro, syntax, notation, axiom, sorry.
-/
import Derived.Test.YtjddngedifgneabDoorChecked
import GoSem.Claim
import GoSem.ClaimJoined
import GoSem.ClaimMapViews
import Derived.JoinedTies
import Derived.KernelRfl
namespace Go.Proofs.YtjddngedifgneabDoor
/- THE CELL 'sum', in the pinned program and in every row, IS THE sha256 OF THE DUMP (.gsa) THAT YtjddngedifgneabDoorProg.lean LOADS. Nothing in Lean hashes anything: it is a label: what it is worth is what the hold of that sum in a sandbox is worth. -/
noncomputable def Tryd.pinned : Pinned := { name := "ytjddngedifgneabdoor", sum := "c4d540a94cbb1732830102cd95fa831221b8cfb3805f7bda608d94ef830f1088", checked := Tryd.checked }
namespace Rows
def none {H : Type} : Left H := { results := [], args := [] }

/- WHAT THE LISTED PACKAGE-LEVEL VARIABLES READ AS WHEN THE CALL BEGINS. Each datum BY PROGRAM (the guide's laid-datum.mjs) off the statement by which the dump's own 'gosem.cut.vars' lays the variable. In a bare row this is a premise. The card (YtjddngedifgneabDoorCards.lean) ties it to the program's text. -/
def laid_sheave_curve_prime {H : Type} : DataW H := .agg [.lit (.int .u64 18446744073709551597), .lit (.int .u64 18446744073709551615), .lit (.int .u64 18446744073709551615), .lit (.int .u64 9223372036854775807)]
def laid_sheave_curve_power {H : Type} : DataW H := .agg [.lit (.int .u64 18446744073709551595), .lit (.int .u64 18446744073709551615), .lit (.int .u64 18446744073709551615), .lit (.int .u64 9223372036854775807)]

/-- 'sheavelaw01.CurveInverse': WHATEVER THE INPUT: true; the input reads as it did. -/
def curveInverseSpec : ChangeSpec := { name := "curveInverse", fn := fun _ => fun
  | [d] => { results := [.lit (.bool true)], args := [d] }
  | _ => none }
def curveInverseRow : OpenClaim := { program := "ytjddngedifgneabdoor", sum := "c4d540a94cbb1732830102cd95fa831221b8cfb3805f7bda608d94ef830f1088", func := "sheave/sheavelaw01.CurveInverse", spec := "curveInverse", inPlace := ["math/bits.Sub64", "math/bits.Add64"], named := ["sheave/curve.prime", "sheave/curve.power"], apart := false, laid := [("sheave/curve.prime", laid_sheave_curve_prime), ("sheave/curve.power", laid_sheave_curve_power)] }
def CurveInverseSaid : Prop := curveInverseRow.holds Tryd.pinned (OpenSpec.ofChange curveInverseSpec)

/-- ITS FALSE NEIGHBOUR: 'it returns false'. Refute it at one input. -/
def curveInverseWrong : ChangeSpec := { name := "curveInverse", fn := fun _ => fun
  | [d] => { results := [.lit (.bool false)], args := [d] }
  | _ => none }
def CurveInverseWrongFalsely : Prop := curveInverseRow.holds Tryd.pinned (OpenSpec.ofChange curveInverseWrong)

/-- 'sheavelaw01.CurveSides': WHATEVER THE INPUT: true; the input reads as it did. -/
def curveSidesSpec : ChangeSpec := { name := "curveSides", fn := fun _ => fun
  | [d1, d2] => { results := [.lit (.bool true)], args := [d1, d2] }
  | _ => none }
def curveSidesRow : OpenClaim := { program := "ytjddngedifgneabdoor", sum := "c4d540a94cbb1732830102cd95fa831221b8cfb3805f7bda608d94ef830f1088", func := "sheave/sheavelaw01.CurveSides", spec := "curveSides", inPlace := ["math/bits.Sub64", "math/bits.Add64"], named := ["sheave/curve.prime", "sheave/curve.power"], apart := false, laid := [("sheave/curve.prime", laid_sheave_curve_prime), ("sheave/curve.power", laid_sheave_curve_power)] }
def CurveSidesSaid : Prop := curveSidesRow.holds Tryd.pinned (OpenSpec.ofChange curveSidesSpec)

/-- ITS FALSE NEIGHBOUR: 'it returns false'. Refute it at one input. -/
def curveSidesWrong : ChangeSpec := { name := "curveSides", fn := fun _ => fun
  | [d1, d2] => { results := [.lit (.bool false)], args := [d1, d2] }
  | _ => none }
def CurveSidesWrongFalsely : Prop := curveSidesRow.holds Tryd.pinned (OpenSpec.ofChange curveSidesWrong)

/-- 'sheavelaw01.CurveGroups': WHATEVER THE INPUT: true; the input reads as it did. -/
def curveGroupsSpec : ChangeSpec := { name := "curveGroups", fn := fun _ => fun
  | [d1, d2, d3] => { results := [.lit (.bool true)], args := [d1, d2, d3] }
  | _ => none }
def curveGroupsRow : OpenClaim := { program := "ytjddngedifgneabdoor", sum := "c4d540a94cbb1732830102cd95fa831221b8cfb3805f7bda608d94ef830f1088", func := "sheave/sheavelaw01.CurveGroups", spec := "curveGroups", inPlace := ["math/bits.Sub64", "math/bits.Add64"], named := ["sheave/curve.prime", "sheave/curve.power"], apart := false, laid := [("sheave/curve.prime", laid_sheave_curve_prime), ("sheave/curve.power", laid_sheave_curve_power)] }
def CurveGroupsSaid : Prop := curveGroupsRow.holds Tryd.pinned (OpenSpec.ofChange curveGroupsSpec)

/-- ITS FALSE NEIGHBOUR: 'it returns false'. Refute it at one input. -/
def curveGroupsWrong : ChangeSpec := { name := "curveGroups", fn := fun _ => fun
  | [d1, d2, d3] => { results := [.lit (.bool false)], args := [d1, d2, d3] }
  | _ => none }
def CurveGroupsWrongFalsely : Prop := curveGroupsRow.holds Tryd.pinned (OpenSpec.ofChange curveGroupsWrong)

/-- 'sheavelaw01.CurveSpreads': WHATEVER THE INPUT: true; the input reads as it did. -/
def curveSpreadsSpec : ChangeSpec := { name := "curveSpreads", fn := fun _ => fun
  | [d1, d2, d3] => { results := [.lit (.bool true)], args := [d1, d2, d3] }
  | _ => none }
def curveSpreadsRow : OpenClaim := { program := "ytjddngedifgneabdoor", sum := "c4d540a94cbb1732830102cd95fa831221b8cfb3805f7bda608d94ef830f1088", func := "sheave/sheavelaw01.CurveSpreads", spec := "curveSpreads", inPlace := ["math/bits.Sub64", "math/bits.Add64"], named := ["sheave/curve.prime", "sheave/curve.power"], apart := false, laid := [("sheave/curve.prime", laid_sheave_curve_prime), ("sheave/curve.power", laid_sheave_curve_power)] }
def CurveSpreadsSaid : Prop := curveSpreadsRow.holds Tryd.pinned (OpenSpec.ofChange curveSpreadsSpec)

/-- ITS FALSE NEIGHBOUR: 'it returns false'. Refute it at one input. -/
def curveSpreadsWrong : ChangeSpec := { name := "curveSpreads", fn := fun _ => fun
  | [d1, d2, d3] => { results := [.lit (.bool false)], args := [d1, d2, d3] }
  | _ => none }
def CurveSpreadsWrongFalsely : Prop := curveSpreadsRow.holds Tryd.pinned (OpenSpec.ofChange curveSpreadsWrong)

/-- 'sheavelaw01.CurveUndoes': WHATEVER THE INPUT: true; the input reads as it did. -/
def curveUndoesSpec : ChangeSpec := { name := "curveUndoes", fn := fun _ => fun
  | [d1, d2] => { results := [.lit (.bool true)], args := [d1, d2] }
  | _ => none }
def curveUndoesRow : OpenClaim := { program := "ytjddngedifgneabdoor", sum := "c4d540a94cbb1732830102cd95fa831221b8cfb3805f7bda608d94ef830f1088", func := "sheave/sheavelaw01.CurveUndoes", spec := "curveUndoes", inPlace := ["math/bits.Sub64", "math/bits.Add64"], named := ["sheave/curve.prime", "sheave/curve.power"], apart := false, laid := [("sheave/curve.prime", laid_sheave_curve_prime), ("sheave/curve.power", laid_sheave_curve_power)] }
def CurveUndoesSaid : Prop := curveUndoesRow.holds Tryd.pinned (OpenSpec.ofChange curveUndoesSpec)

/-- ITS FALSE NEIGHBOUR: 'it returns false'. Refute it at one input. -/
def curveUndoesWrong : ChangeSpec := { name := "curveUndoes", fn := fun _ => fun
  | [d1, d2] => { results := [.lit (.bool false)], args := [d1, d2] }
  | _ => none }
def CurveUndoesWrongFalsely : Prop := curveUndoesRow.holds Tryd.pinned (OpenSpec.ofChange curveUndoesWrong)

/-- 'sheavelaw01.CurveSame': WHATEVER THE INPUT: true; the input reads as it did. -/
def curveSameSpec : ChangeSpec := { name := "curveSame", fn := fun _ => fun
  | [d1, d2] => { results := [.lit (.bool true)], args := [d1, d2] }
  | _ => none }
def curveSameRow : OpenClaim := { program := "ytjddngedifgneabdoor", sum := "c4d540a94cbb1732830102cd95fa831221b8cfb3805f7bda608d94ef830f1088", func := "sheave/sheavelaw01.CurveSame", spec := "curveSame", inPlace := ["math/bits.Sub64", "math/bits.Add64"], named := ["sheave/curve.prime", "sheave/curve.power"], apart := false, laid := [("sheave/curve.prime", laid_sheave_curve_prime), ("sheave/curve.power", laid_sheave_curve_power)] }
def CurveSameSaid : Prop := curveSameRow.holds Tryd.pinned (OpenSpec.ofChange curveSameSpec)

/-- ITS FALSE NEIGHBOUR: 'it returns false'. Refute it at one input. -/
def curveSameWrong : ChangeSpec := { name := "curveSame", fn := fun _ => fun
  | [d1, d2] => { results := [.lit (.bool false)], args := [d1, d2] }
  | _ => none }
def CurveSameWrongFalsely : Prop := curveSameRow.holds Tryd.pinned (OpenSpec.ofChange curveSameWrong)

/- THE SECOND FORM. 'bulk': how many values and letters a reading holds, each counted each time it is reached (what is shared counts as often as it is met; a slice's spare places count too). A statement '..UptoSaid' is the law's where the arguments, and the package variables that the reading takes, are together of bulk at most 1048576: NARROWER than '..Said'. Prove '..Said' where nothing that the law and all that it calls make is longer than what came in: it says more and counts as full. Else prove '..UptoSaid'. A law counts once. -/
mutual
def uptoBulk {H : Type} : DataW H → Nat
  | .lit (.string bytes) => bytes.length + 1
  | .lit _ => 1
  | .nil => 1
  | .ptr d => uptoBulk d + 1
  | .slice elems spare => uptoBulkAll elems + uptoBulkAll spare + 1
  | .agg parts => uptoBulkAll parts + 1
  | .iface _ d => uptoBulk d + 1
  | .map entries => uptoBulkEntries entries + 1
  | .held _ => 1
def uptoBulkAll {H : Type} : List (DataW H) → Nat
  | [] => 0
  | d :: r => uptoBulk d + uptoBulkAll r
def uptoBulkEntries {H : Type} : List (Lit × DataW H) → Nat
  | [] => 0
  | x :: r => uptoBulkEntry x + uptoBulkEntries r
def uptoBulkEntry {H : Type} : Lit × DataW H → Nat
  | (.string bytes, d) => bytes.length + uptoBulk d + 1
  | (_, d) => uptoBulk d + 1
 end
def uptoSmall : (H : Type) → List (DataW H) → Bool := fun _ ds => decide (uptoBulkAll ds ≤ 1048576)
def OpenSpec.upto (s : _root_.Go.ChangeSpec) : _root_.Go.OpenSpec := { _root_.Go.OpenSpec.ofChange s with cond := some uptoSmall }

/-- 'sheavelaw01.CurveInverse', WHERE WHAT IT READS IS OF BULK AT MOST 1048576: true; the input reads as it did. -/
def curveInverseUptoRow : OpenClaim := { program := "ytjddngedifgneabdoor", sum := "c4d540a94cbb1732830102cd95fa831221b8cfb3805f7bda608d94ef830f1088", func := "sheave/sheavelaw01.CurveInverse", spec := "curveInverse", inPlace := ["math/bits.Sub64", "math/bits.Add64"], named := ["sheave/curve.prime", "sheave/curve.power"], apart := false, laid := [("sheave/curve.prime", laid_sheave_curve_prime), ("sheave/curve.power", laid_sheave_curve_power)], narrowed := true }
def CurveInverseUptoSaid : Prop := curveInverseUptoRow.holds Tryd.pinned (OpenSpec.upto curveInverseSpec)

/-- 'sheavelaw01.CurveSides', WHERE WHAT IT READS IS OF BULK AT MOST 1048576: true; the input reads as it did. -/
def curveSidesUptoRow : OpenClaim := { program := "ytjddngedifgneabdoor", sum := "c4d540a94cbb1732830102cd95fa831221b8cfb3805f7bda608d94ef830f1088", func := "sheave/sheavelaw01.CurveSides", spec := "curveSides", inPlace := ["math/bits.Sub64", "math/bits.Add64"], named := ["sheave/curve.prime", "sheave/curve.power"], apart := false, laid := [("sheave/curve.prime", laid_sheave_curve_prime), ("sheave/curve.power", laid_sheave_curve_power)], narrowed := true }
def CurveSidesUptoSaid : Prop := curveSidesUptoRow.holds Tryd.pinned (OpenSpec.upto curveSidesSpec)

/-- 'sheavelaw01.CurveGroups', WHERE WHAT IT READS IS OF BULK AT MOST 1048576: true; the input reads as it did. -/
def curveGroupsUptoRow : OpenClaim := { program := "ytjddngedifgneabdoor", sum := "c4d540a94cbb1732830102cd95fa831221b8cfb3805f7bda608d94ef830f1088", func := "sheave/sheavelaw01.CurveGroups", spec := "curveGroups", inPlace := ["math/bits.Sub64", "math/bits.Add64"], named := ["sheave/curve.prime", "sheave/curve.power"], apart := false, laid := [("sheave/curve.prime", laid_sheave_curve_prime), ("sheave/curve.power", laid_sheave_curve_power)], narrowed := true }
def CurveGroupsUptoSaid : Prop := curveGroupsUptoRow.holds Tryd.pinned (OpenSpec.upto curveGroupsSpec)

/-- 'sheavelaw01.CurveSpreads', WHERE WHAT IT READS IS OF BULK AT MOST 1048576: true; the input reads as it did. -/
def curveSpreadsUptoRow : OpenClaim := { program := "ytjddngedifgneabdoor", sum := "c4d540a94cbb1732830102cd95fa831221b8cfb3805f7bda608d94ef830f1088", func := "sheave/sheavelaw01.CurveSpreads", spec := "curveSpreads", inPlace := ["math/bits.Sub64", "math/bits.Add64"], named := ["sheave/curve.prime", "sheave/curve.power"], apart := false, laid := [("sheave/curve.prime", laid_sheave_curve_prime), ("sheave/curve.power", laid_sheave_curve_power)], narrowed := true }
def CurveSpreadsUptoSaid : Prop := curveSpreadsUptoRow.holds Tryd.pinned (OpenSpec.upto curveSpreadsSpec)

/-- 'sheavelaw01.CurveUndoes', WHERE WHAT IT READS IS OF BULK AT MOST 1048576: true; the input reads as it did. -/
def curveUndoesUptoRow : OpenClaim := { program := "ytjddngedifgneabdoor", sum := "c4d540a94cbb1732830102cd95fa831221b8cfb3805f7bda608d94ef830f1088", func := "sheave/sheavelaw01.CurveUndoes", spec := "curveUndoes", inPlace := ["math/bits.Sub64", "math/bits.Add64"], named := ["sheave/curve.prime", "sheave/curve.power"], apart := false, laid := [("sheave/curve.prime", laid_sheave_curve_prime), ("sheave/curve.power", laid_sheave_curve_power)], narrowed := true }
def CurveUndoesUptoSaid : Prop := curveUndoesUptoRow.holds Tryd.pinned (OpenSpec.upto curveUndoesSpec)

/-- 'sheavelaw01.CurveSame', WHERE WHAT IT READS IS OF BULK AT MOST 1048576: true; the input reads as it did. -/
def curveSameUptoRow : OpenClaim := { program := "ytjddngedifgneabdoor", sum := "c4d540a94cbb1732830102cd95fa831221b8cfb3805f7bda608d94ef830f1088", func := "sheave/sheavelaw01.CurveSame", spec := "curveSame", inPlace := ["math/bits.Sub64", "math/bits.Add64"], named := ["sheave/curve.prime", "sheave/curve.power"], apart := false, laid := [("sheave/curve.prime", laid_sheave_curve_prime), ("sheave/curve.power", laid_sheave_curve_power)], narrowed := true }
def CurveSameUptoSaid : Prop := curveSameUptoRow.holds Tryd.pinned (OpenSpec.upto curveSameSpec)

end Rows
end Go.Proofs.YtjddngedifgneabDoor
