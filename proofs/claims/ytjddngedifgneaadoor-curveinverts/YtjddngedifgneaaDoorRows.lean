/-
  NARROWER THAN 'FOR EVERY INPUT', by the rows' own cells (each row's printed sentence says how): CurveCanon: laid · CurveAdds: laid · CurveSubs: laid · CurveMuls: laid · CurveSquares: laid · CurveInverts: laid.
  DERIVED. THE GIVEN ROWS OF THIS SEAT. 6 by the template 'for every input the law returns true; each argument reads behind the call as it read before'; 0 by the template 'total and deterministic' (their statements: YtjddngedifgneaaDoorTotals.lean).
  GIVEN WITH THE SEED: the statements are not yours to turn. If you find one false, say at which input.
  Laid BY PROGRAM, IN A SANDBOX (cutbox-rows.mjs): the forced cells as the released guide's own fill.sh prints them over the translation 7e5cb1208132d313… (all of the seat's roots in one cut). By AI agents, Wed Nov 11 2026. No macro, syntax, notation, axiom, sorry.
-/
import Derived.Test.YtjddngedifgneaaDoorChecked
import GoSem.Claim
import GoSem.ClaimJoined
import GoSem.ClaimMapViews
import Derived.JoinedTies
import Derived.KernelRfl
namespace Go.Proofs.YtjddngedifgneaaDoor
/- THE CELL 'sum', in the pinned program and in every row, IS THE sha256 OF THE DUMP (.gsa) THAT YtjddngedifgneaaDoorProg.lean LOADS. Nothing in Lean hashes anything: it is a label: what it is worth is what the hold of that sum in a sandbox is worth. -/
noncomputable def Tryd.pinned : Pinned := { name := "ytjddngedifgneaadoor", sum := "7e5cb1208132d313a661d54ab51540fa3d726027717dc8fe908a0b02c3e14d5f", checked := Tryd.checked }
namespace Rows
def none {H : Type} : Left H := { results := [], args := [] }

/- WHAT THE LISTED PACKAGE-LEVEL VARIABLES READ AS WHEN THE CALL BEGINS. Each datum BY PROGRAM (the guide's laid-datum.mjs) off the statement by which the dump's own 'gosem.cut.vars' lays the variable. In a bare row this is a premise. The card (YtjddngedifgneaaDoorCards.lean) ties it to the program's text. -/
def laid_sheave_curve_prime {H : Type} : DataW H := .agg [.lit (.int .u64 18446744073709551597), .lit (.int .u64 18446744073709551615), .lit (.int .u64 18446744073709551615), .lit (.int .u64 9223372036854775807)]
def laid_sheave_curve_power {H : Type} : DataW H := .agg [.lit (.int .u64 18446744073709551595), .lit (.int .u64 18446744073709551615), .lit (.int .u64 18446744073709551615), .lit (.int .u64 9223372036854775807)]

/-- 'sheavelaw01.CurveCanon': WHATEVER THE INPUT: true; the input reads as it did. -/
def curveCanonSpec : ChangeSpec := { name := "curveCanon", fn := fun _ => fun
  | [d] => { results := [.lit (.bool true)], args := [d] }
  | _ => none }
def curveCanonRow : OpenClaim := { program := "ytjddngedifgneaadoor", sum := "7e5cb1208132d313a661d54ab51540fa3d726027717dc8fe908a0b02c3e14d5f", func := "sheave/sheavelaw01.CurveCanon", spec := "curveCanon", inPlace := ["math/bits.Sub64", "math/bits.Add64"], named := ["sheave/curve.prime", "sheave/curve.power"], apart := false, laid := [("sheave/curve.prime", laid_sheave_curve_prime), ("sheave/curve.power", laid_sheave_curve_power)] }
def CurveCanonSaid : Prop := curveCanonRow.holds Tryd.pinned (OpenSpec.ofChange curveCanonSpec)

/-- ITS FALSE NEIGHBOUR: 'it returns false'. Refute it at one input. -/
def curveCanonWrong : ChangeSpec := { name := "curveCanon", fn := fun _ => fun
  | [d] => { results := [.lit (.bool false)], args := [d] }
  | _ => none }
def CurveCanonWrongFalsely : Prop := curveCanonRow.holds Tryd.pinned (OpenSpec.ofChange curveCanonWrong)

/-- 'sheavelaw01.CurveAdds': WHATEVER THE INPUT: true; the input reads as it did. -/
def curveAddsSpec : ChangeSpec := { name := "curveAdds", fn := fun _ => fun
  | [d1, d2] => { results := [.lit (.bool true)], args := [d1, d2] }
  | _ => none }
def curveAddsRow : OpenClaim := { program := "ytjddngedifgneaadoor", sum := "7e5cb1208132d313a661d54ab51540fa3d726027717dc8fe908a0b02c3e14d5f", func := "sheave/sheavelaw01.CurveAdds", spec := "curveAdds", inPlace := ["math/bits.Sub64", "math/bits.Add64"], named := ["sheave/curve.prime", "sheave/curve.power"], apart := false, laid := [("sheave/curve.prime", laid_sheave_curve_prime), ("sheave/curve.power", laid_sheave_curve_power)] }
def CurveAddsSaid : Prop := curveAddsRow.holds Tryd.pinned (OpenSpec.ofChange curveAddsSpec)

/-- ITS FALSE NEIGHBOUR: 'it returns false'. Refute it at one input. -/
def curveAddsWrong : ChangeSpec := { name := "curveAdds", fn := fun _ => fun
  | [d1, d2] => { results := [.lit (.bool false)], args := [d1, d2] }
  | _ => none }
def CurveAddsWrongFalsely : Prop := curveAddsRow.holds Tryd.pinned (OpenSpec.ofChange curveAddsWrong)

/-- 'sheavelaw01.CurveSubs': WHATEVER THE INPUT: true; the input reads as it did. -/
def curveSubsSpec : ChangeSpec := { name := "curveSubs", fn := fun _ => fun
  | [d1, d2] => { results := [.lit (.bool true)], args := [d1, d2] }
  | _ => none }
def curveSubsRow : OpenClaim := { program := "ytjddngedifgneaadoor", sum := "7e5cb1208132d313a661d54ab51540fa3d726027717dc8fe908a0b02c3e14d5f", func := "sheave/sheavelaw01.CurveSubs", spec := "curveSubs", inPlace := ["math/bits.Sub64", "math/bits.Add64"], named := ["sheave/curve.prime", "sheave/curve.power"], apart := false, laid := [("sheave/curve.prime", laid_sheave_curve_prime), ("sheave/curve.power", laid_sheave_curve_power)] }
def CurveSubsSaid : Prop := curveSubsRow.holds Tryd.pinned (OpenSpec.ofChange curveSubsSpec)

/-- ITS FALSE NEIGHBOUR: 'it returns false'. Refute it at one input. -/
def curveSubsWrong : ChangeSpec := { name := "curveSubs", fn := fun _ => fun
  | [d1, d2] => { results := [.lit (.bool false)], args := [d1, d2] }
  | _ => none }
def CurveSubsWrongFalsely : Prop := curveSubsRow.holds Tryd.pinned (OpenSpec.ofChange curveSubsWrong)

/-- 'sheavelaw01.CurveMuls': WHATEVER THE INPUT: true; the input reads as it did. -/
def curveMulsSpec : ChangeSpec := { name := "curveMuls", fn := fun _ => fun
  | [d1, d2] => { results := [.lit (.bool true)], args := [d1, d2] }
  | _ => none }
def curveMulsRow : OpenClaim := { program := "ytjddngedifgneaadoor", sum := "7e5cb1208132d313a661d54ab51540fa3d726027717dc8fe908a0b02c3e14d5f", func := "sheave/sheavelaw01.CurveMuls", spec := "curveMuls", inPlace := ["math/bits.Sub64", "math/bits.Add64"], named := ["sheave/curve.prime", "sheave/curve.power"], apart := false, laid := [("sheave/curve.prime", laid_sheave_curve_prime), ("sheave/curve.power", laid_sheave_curve_power)] }
def CurveMulsSaid : Prop := curveMulsRow.holds Tryd.pinned (OpenSpec.ofChange curveMulsSpec)

/-- ITS FALSE NEIGHBOUR: 'it returns false'. Refute it at one input. -/
def curveMulsWrong : ChangeSpec := { name := "curveMuls", fn := fun _ => fun
  | [d1, d2] => { results := [.lit (.bool false)], args := [d1, d2] }
  | _ => none }
def CurveMulsWrongFalsely : Prop := curveMulsRow.holds Tryd.pinned (OpenSpec.ofChange curveMulsWrong)

/-- 'sheavelaw01.CurveSquares': WHATEVER THE INPUT: true; the input reads as it did. -/
def curveSquaresSpec : ChangeSpec := { name := "curveSquares", fn := fun _ => fun
  | [d] => { results := [.lit (.bool true)], args := [d] }
  | _ => none }
def curveSquaresRow : OpenClaim := { program := "ytjddngedifgneaadoor", sum := "7e5cb1208132d313a661d54ab51540fa3d726027717dc8fe908a0b02c3e14d5f", func := "sheave/sheavelaw01.CurveSquares", spec := "curveSquares", inPlace := ["math/bits.Sub64", "math/bits.Add64"], named := ["sheave/curve.prime", "sheave/curve.power"], apart := false, laid := [("sheave/curve.prime", laid_sheave_curve_prime), ("sheave/curve.power", laid_sheave_curve_power)] }
def CurveSquaresSaid : Prop := curveSquaresRow.holds Tryd.pinned (OpenSpec.ofChange curveSquaresSpec)

/-- ITS FALSE NEIGHBOUR: 'it returns false'. Refute it at one input. -/
def curveSquaresWrong : ChangeSpec := { name := "curveSquares", fn := fun _ => fun
  | [d] => { results := [.lit (.bool false)], args := [d] }
  | _ => none }
def CurveSquaresWrongFalsely : Prop := curveSquaresRow.holds Tryd.pinned (OpenSpec.ofChange curveSquaresWrong)

/-- 'sheavelaw01.CurveInverts': WHATEVER THE INPUT: true; the input reads as it did. -/
def curveInvertsSpec : ChangeSpec := { name := "curveInverts", fn := fun _ => fun
  | [d] => { results := [.lit (.bool true)], args := [d] }
  | _ => none }
def curveInvertsRow : OpenClaim := { program := "ytjddngedifgneaadoor", sum := "7e5cb1208132d313a661d54ab51540fa3d726027717dc8fe908a0b02c3e14d5f", func := "sheave/sheavelaw01.CurveInverts", spec := "curveInverts", inPlace := ["math/bits.Sub64", "math/bits.Add64"], named := ["sheave/curve.prime", "sheave/curve.power"], apart := false, laid := [("sheave/curve.prime", laid_sheave_curve_prime), ("sheave/curve.power", laid_sheave_curve_power)] }
def CurveInvertsSaid : Prop := curveInvertsRow.holds Tryd.pinned (OpenSpec.ofChange curveInvertsSpec)

/-- ITS FALSE NEIGHBOUR: 'it returns false'. Refute it at one input. -/
def curveInvertsWrong : ChangeSpec := { name := "curveInverts", fn := fun _ => fun
  | [d] => { results := [.lit (.bool false)], args := [d] }
  | _ => none }
def CurveInvertsWrongFalsely : Prop := curveInvertsRow.holds Tryd.pinned (OpenSpec.ofChange curveInvertsWrong)

/- THE SECOND FORM. 'bulk': how many values and letters a reading holds, each counted each time it is reached (what is shared counts as often as it is met; a slice's spare places count too). A statement '..UptoSaid' is the law's where the arguments, and the package variables that the reading takes, are together of bulk at most 1048576: NARROWER than '..Said'. Prove '..Said' where nothing that the law and all that it calls make is longer than what came in: it says more and counts as full. Else prove '..UptoSaid'. A law counts once. -/
mutual
def uptoBulk {H : Type} : DataW H → Nat
  | .lit (.string bytes) => bytes.length + 1
  | .lit _ => 1
  | .nil => 1
  | .ptr d => uptoBulk d + 1
  | .slice elems spare => uptoBulkAll elems + uptoBulkAll spare + 1
  | .agg parts => uptoBulkAll parts + 1
  | .iface _ d => uptoBulk d + 1
  | .map entries => uptoBulkEntries entries + 1
  | .held _ => 1
def uptoBulkAll {H : Type} : List (DataW H) → Nat
  | [] => 0
  | d :: r => uptoBulk d + uptoBulkAll r
def uptoBulkEntries {H : Type} : List (Lit × DataW H) → Nat
  | [] => 0
  | x :: r => uptoBulkEntry x + uptoBulkEntries r
def uptoBulkEntry {H : Type} : Lit × DataW H → Nat
  | (.string bytes, d) => bytes.length + uptoBulk d + 1
  | (_, d) => uptoBulk d + 1
 end
def uptoSmall : (H : Type) → List (DataW H) → Bool := fun _ ds => decide (uptoBulkAll ds ≤ 1048576)
def OpenSpec.upto (s : _root_.Go.ChangeSpec) : _root_.Go.OpenSpec := { _root_.Go.OpenSpec.ofChange s with cond := some uptoSmall }

/-- 'sheavelaw01.CurveCanon', WHERE WHAT IT READS IS OF BULK AT MOST 1048576: true; the input reads as it did. -/
def curveCanonUptoRow : OpenClaim := { program := "ytjddngedifgneaadoor", sum := "7e5cb1208132d313a661d54ab51540fa3d726027717dc8fe908a0b02c3e14d5f", func := "sheave/sheavelaw01.CurveCanon", spec := "curveCanon", inPlace := ["math/bits.Sub64", "math/bits.Add64"], named := ["sheave/curve.prime", "sheave/curve.power"], apart := false, laid := [("sheave/curve.prime", laid_sheave_curve_prime), ("sheave/curve.power", laid_sheave_curve_power)], narrowed := true }
def CurveCanonUptoSaid : Prop := curveCanonUptoRow.holds Tryd.pinned (OpenSpec.upto curveCanonSpec)

/-- 'sheavelaw01.CurveAdds', WHERE WHAT IT READS IS OF BULK AT MOST 1048576: true; the input reads as it did. -/
def curveAddsUptoRow : OpenClaim := { program := "ytjddngedifgneaadoor", sum := "7e5cb1208132d313a661d54ab51540fa3d726027717dc8fe908a0b02c3e14d5f", func := "sheave/sheavelaw01.CurveAdds", spec := "curveAdds", inPlace := ["math/bits.Sub64", "math/bits.Add64"], named := ["sheave/curve.prime", "sheave/curve.power"], apart := false, laid := [("sheave/curve.prime", laid_sheave_curve_prime), ("sheave/curve.power", laid_sheave_curve_power)], narrowed := true }
def CurveAddsUptoSaid : Prop := curveAddsUptoRow.holds Tryd.pinned (OpenSpec.upto curveAddsSpec)

/-- 'sheavelaw01.CurveSubs', WHERE WHAT IT READS IS OF BULK AT MOST 1048576: true; the input reads as it did. -/
def curveSubsUptoRow : OpenClaim := { program := "ytjddngedifgneaadoor", sum := "7e5cb1208132d313a661d54ab51540fa3d726027717dc8fe908a0b02c3e14d5f", func := "sheave/sheavelaw01.CurveSubs", spec := "curveSubs", inPlace := ["math/bits.Sub64", "math/bits.Add64"], named := ["sheave/curve.prime", "sheave/curve.power"], apart := false, laid := [("sheave/curve.prime", laid_sheave_curve_prime), ("sheave/curve.power", laid_sheave_curve_power)], narrowed := true }
def CurveSubsUptoSaid : Prop := curveSubsUptoRow.holds Tryd.pinned (OpenSpec.upto curveSubsSpec)

/-- 'sheavelaw01.CurveMuls', WHERE WHAT IT READS IS OF BULK AT MOST 1048576: true; the input reads as it did. -/
def curveMulsUptoRow : OpenClaim := { program := "ytjddngedifgneaadoor", sum := "7e5cb1208132d313a661d54ab51540fa3d726027717dc8fe908a0b02c3e14d5f", func := "sheave/sheavelaw01.CurveMuls", spec := "curveMuls", inPlace := ["math/bits.Sub64", "math/bits.Add64"], named := ["sheave/curve.prime", "sheave/curve.power"], apart := false, laid := [("sheave/curve.prime", laid_sheave_curve_prime), ("sheave/curve.power", laid_sheave_curve_power)], narrowed := true }
def CurveMulsUptoSaid : Prop := curveMulsUptoRow.holds Tryd.pinned (OpenSpec.upto curveMulsSpec)

/-- 'sheavelaw01.CurveSquares', WHERE WHAT IT READS IS OF BULK AT MOST 1048576: true; the input reads as it did. -/
def curveSquaresUptoRow : OpenClaim := { program := "ytjddngedifgneaadoor", sum := "7e5cb1208132d313a661d54ab51540fa3d726027717dc8fe908a0b02c3e14d5f", func := "sheave/sheavelaw01.CurveSquares", spec := "curveSquares", inPlace := ["math/bits.Sub64", "math/bits.Add64"], named := ["sheave/curve.prime", "sheave/curve.power"], apart := false, laid := [("sheave/curve.prime", laid_sheave_curve_prime), ("sheave/curve.power", laid_sheave_curve_power)], narrowed := true }
def CurveSquaresUptoSaid : Prop := curveSquaresUptoRow.holds Tryd.pinned (OpenSpec.upto curveSquaresSpec)

/-- 'sheavelaw01.CurveInverts', WHERE WHAT IT READS IS OF BULK AT MOST 1048576: true; the input reads as it did. -/
def curveInvertsUptoRow : OpenClaim := { program := "ytjddngedifgneaadoor", sum := "7e5cb1208132d313a661d54ab51540fa3d726027717dc8fe908a0b02c3e14d5f", func := "sheave/sheavelaw01.CurveInverts", spec := "curveInverts", inPlace := ["math/bits.Sub64", "math/bits.Add64"], named := ["sheave/curve.prime", "sheave/curve.power"], apart := false, laid := [("sheave/curve.prime", laid_sheave_curve_prime), ("sheave/curve.power", laid_sheave_curve_power)], narrowed := true }
def CurveInvertsUptoSaid : Prop := curveInvertsUptoRow.holds Tryd.pinned (OpenSpec.upto curveInvertsSpec)

end Rows
end Go.Proofs.YtjddngedifgneaaDoor
