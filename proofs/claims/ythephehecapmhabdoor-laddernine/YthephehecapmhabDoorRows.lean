/-
  NARROWER THAN 'FOR EVERY INPUT', by the rows' own cells (each row's printed sentence says how): LadderBits: laid · LadderNine: laid.
  DERIVED. THE GIVEN ROWS OF THIS SEAT. 2 by the template 'for every input the law returns true; each argument reads behind the call as it read before'; 0 by the template 'total and deterministic' (their statements: YthephehecapmhabDoorTotals.lean).
  GIVEN WITH THE SEED: the statements are not yours to turn. If you find one false, say at which input.
  Laid BY PROGRAM, IN A SANDBOX (cutbox-rows.mjs): the forced cells as the released guide's own fill.sh prints them over the translation 95f8976fbdbafe51… (all of the seat's roots in one cut). By AI agents, Wed Nov 11 2026. No macro, syntax, notation, axiom, sorry.
-/
import Derived.Test.YthephehecapmhabDoorChecked
import GoSem.Claim
import GoSem.ClaimJoined
import GoSem.ClaimMapViews
import Derived.JoinedTies
import Derived.KernelRfl
namespace Go.Proofs.YthephehecapmhabDoor
/- THE CELL 'sum', in the pinned program and in every row, IS THE sha256 OF THE DUMP (.gsa) THAT YthephehecapmhabDoorProg.lean LOADS. Nothing in Lean hashes anything: it is a label: what it is worth is what the hold of that sum in a sandbox is worth. -/
noncomputable def Tryd.pinned : Pinned := { name := "ythephehecapmhabdoor", sum := "95f8976fbdbafe51f806aaf1ace24050ae9a04c2d16c60daa7406c2eef144106", checked := Tryd.checked }
namespace Rows
def none {H : Type} : Left H := { results := [], args := [] }

/- WHAT THE LISTED PACKAGE-LEVEL VARIABLES READ AS WHEN THE CALL BEGINS. Each datum BY PROGRAM (the guide's laid-datum.mjs) off the statement by which the dump's own 'gosem.cut.vars' lays the variable. In a bare row this is a premise. The card (YthephehecapmhabDoorCards.lean) ties it to the program's text. -/
def laid_sheave_curve_prime {H : Type} : DataW H := .agg [.lit (.int .u64 18446744073709551597), .lit (.int .u64 18446744073709551615), .lit (.int .u64 18446744073709551615), .lit (.int .u64 9223372036854775807)]
def laid_sheave_curve_power {H : Type} : DataW H := .agg [.lit (.int .u64 18446744073709551595), .lit (.int .u64 18446744073709551615), .lit (.int .u64 18446744073709551615), .lit (.int .u64 9223372036854775807)]
def laid_sheave_ladder_trims {H : Type} : DataW H := .agg [.agg [.lit (.int .i64 0), .lit (.int .u8 248), .lit (.int .u8 0)], .agg [.lit (.int .i64 31), .lit (.int .u8 127), .lit (.int .u8 64)]]

/-- 'sheavelaw02.LadderBits': WHATEVER THE INPUT: true; the input reads as it did. -/
def ladderBitsSpec : ChangeSpec := { name := "ladderBits", fn := fun _ => fun
  | [d1, d2] => { results := [.lit (.bool true)], args := [d1, d2] }
  | _ => none }
def ladderBitsRow : OpenClaim := { program := "ythephehecapmhabdoor", sum := "95f8976fbdbafe51f806aaf1ace24050ae9a04c2d16c60daa7406c2eef144106", func := "sheave/sheavelaw02.LadderBits", spec := "ladderBits", inPlace := ["math/bits.Add64", "math/bits.Sub64"], named := ["sheave/ladder.trims", "sheave/curve.prime", "sheave/curve.power"], apart := false, laid := [("sheave/curve.prime", laid_sheave_curve_prime), ("sheave/curve.power", laid_sheave_curve_power), ("sheave/ladder.trims", laid_sheave_ladder_trims)] }
def LadderBitsSaid : Prop := ladderBitsRow.holds Tryd.pinned (OpenSpec.ofChange ladderBitsSpec)

/-- ITS FALSE NEIGHBOUR: 'it returns false'. Refute it at one input. -/
def ladderBitsWrong : ChangeSpec := { name := "ladderBits", fn := fun _ => fun
  | [d1, d2] => { results := [.lit (.bool false)], args := [d1, d2] }
  | _ => none }
def LadderBitsWrongFalsely : Prop := ladderBitsRow.holds Tryd.pinned (OpenSpec.ofChange ladderBitsWrong)

/-- 'sheavelaw02.LadderNine': WHATEVER THE INPUT: true; the input reads as it did. -/
def ladderNineSpec : ChangeSpec := { name := "ladderNine", fn := fun _ => fun
  | [d1, d2] => { results := [.lit (.bool true)], args := [d1, d2] }
  | _ => none }
def ladderNineRow : OpenClaim := { program := "ythephehecapmhabdoor", sum := "95f8976fbdbafe51f806aaf1ace24050ae9a04c2d16c60daa7406c2eef144106", func := "sheave/sheavelaw02.LadderNine", spec := "ladderNine", inPlace := ["math/bits.Add64", "math/bits.Sub64"], named := ["sheave/ladder.trims", "sheave/curve.prime", "sheave/curve.power"], apart := false, laid := [("sheave/curve.prime", laid_sheave_curve_prime), ("sheave/curve.power", laid_sheave_curve_power), ("sheave/ladder.trims", laid_sheave_ladder_trims)] }
def LadderNineSaid : Prop := ladderNineRow.holds Tryd.pinned (OpenSpec.ofChange ladderNineSpec)

/-- ITS FALSE NEIGHBOUR: 'it returns false'. Refute it at one input. -/
def ladderNineWrong : ChangeSpec := { name := "ladderNine", fn := fun _ => fun
  | [d1, d2] => { results := [.lit (.bool false)], args := [d1, d2] }
  | _ => none }
def LadderNineWrongFalsely : Prop := ladderNineRow.holds Tryd.pinned (OpenSpec.ofChange ladderNineWrong)

/- THE SECOND FORM. 'bulk': how many values and letters a reading holds, each counted each time it is reached (what is shared counts as often as it is met; a slice's spare places count too). A statement '..UptoSaid' is the law's where the arguments, and the package variables that the reading takes, are together of bulk at most 1048576: NARROWER than '..Said'. Prove '..Said' where nothing that the law and all that it calls make is longer than what came in: it says more and counts as full. Else prove '..UptoSaid'. A law counts once. -/
mutual
def uptoBulk {H : Type} : DataW H → Nat
  | .lit (.string bytes) => bytes.length + 1
  | .lit _ => 1
  | .nil => 1
  | .ptr d => uptoBulk d + 1
  | .slice elems spare => uptoBulkAll elems + uptoBulkAll spare + 1
  | .agg parts => uptoBulkAll parts + 1
  | .iface _ d => uptoBulk d + 1
  | .map entries => uptoBulkEntries entries + 1
  | .held _ => 1
def uptoBulkAll {H : Type} : List (DataW H) → Nat
  | [] => 0
  | d :: r => uptoBulk d + uptoBulkAll r
def uptoBulkEntries {H : Type} : List (Lit × DataW H) → Nat
  | [] => 0
  | x :: r => uptoBulkEntry x + uptoBulkEntries r
def uptoBulkEntry {H : Type} : Lit × DataW H → Nat
  | (.string bytes, d) => bytes.length + uptoBulk d + 1
  | (_, d) => uptoBulk d + 1
 end
def uptoSmall : (H : Type) → List (DataW H) → Bool := fun _ ds => decide (uptoBulkAll ds ≤ 1048576)
def OpenSpec.upto (s : _root_.Go.ChangeSpec) : _root_.Go.OpenSpec := { _root_.Go.OpenSpec.ofChange s with cond := some uptoSmall }

/-- 'sheavelaw02.LadderBits', WHERE WHAT IT READS IS OF BULK AT MOST 1048576: true; the input reads as it did. -/
def ladderBitsUptoRow : OpenClaim := { program := "ythephehecapmhabdoor", sum := "95f8976fbdbafe51f806aaf1ace24050ae9a04c2d16c60daa7406c2eef144106", func := "sheave/sheavelaw02.LadderBits", spec := "ladderBits", inPlace := ["math/bits.Add64", "math/bits.Sub64"], named := ["sheave/ladder.trims", "sheave/curve.prime", "sheave/curve.power"], apart := false, laid := [("sheave/curve.prime", laid_sheave_curve_prime), ("sheave/curve.power", laid_sheave_curve_power), ("sheave/ladder.trims", laid_sheave_ladder_trims)], narrowed := true }
def LadderBitsUptoSaid : Prop := ladderBitsUptoRow.holds Tryd.pinned (OpenSpec.upto ladderBitsSpec)

/-- 'sheavelaw02.LadderNine', WHERE WHAT IT READS IS OF BULK AT MOST 1048576: true; the input reads as it did. -/
def ladderNineUptoRow : OpenClaim := { program := "ythephehecapmhabdoor", sum := "95f8976fbdbafe51f806aaf1ace24050ae9a04c2d16c60daa7406c2eef144106", func := "sheave/sheavelaw02.LadderNine", spec := "ladderNine", inPlace := ["math/bits.Add64", "math/bits.Sub64"], named := ["sheave/ladder.trims", "sheave/curve.prime", "sheave/curve.power"], apart := false, laid := [("sheave/curve.prime", laid_sheave_curve_prime), ("sheave/curve.power", laid_sheave_curve_power), ("sheave/ladder.trims", laid_sheave_ladder_trims)], narrowed := true }
def LadderNineUptoSaid : Prop := ladderNineUptoRow.holds Tryd.pinned (OpenSpec.upto ladderNineSpec)

end Rows
end Go.Proofs.YthephehecapmhabDoor
