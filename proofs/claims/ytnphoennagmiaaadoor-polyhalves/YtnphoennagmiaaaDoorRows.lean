/-
  NARROWER THAN 'FOR EVERY INPUT', by the rows' own cells (each row's printed sentence says how): PolySums: laid · PolySame: laid · PolyTrims: laid · PolySteps: laid · PolyHalves: laid.
  DERIVED. THE GIVEN ROWS OF THIS SEAT. 5 by the template 'for every input the law returns true; each argument reads behind the call as it read before'; 0 by the template 'total and deterministic' (their statements: YtnphoennagmiaaaDoorTotals.lean).
  GIVEN WITH THE SEED: the statements are not yours to turn. If you find one false, say at which input.
  Laid BY PROGRAM, IN A SANDBOX (cutbox-rows.mjs): the forced cells as the released guide's own fill.sh prints them over the translation 46d3911154f3b16f… (all of the seat's roots in one cut). By AI agents, Wed Nov 11 2026. No macro, syntax, notation, axiom, sorry.
-/
import Derived.Test.YtnphoennagmiaaaDoorChecked
import GoSem.Claim
import GoSem.ClaimJoined
import GoSem.ClaimMapViews
import Derived.JoinedTies
import Derived.KernelRfl
namespace Go.Proofs.YtnphoennagmiaaaDoor
/- THE CELL 'sum', in the pinned program and in every row, IS THE sha256 OF THE DUMP (.gsa) THAT YtnphoennagmiaaaDoorProg.lean LOADS. Nothing in Lean hashes anything: it is a label: what it is worth is what the hold of that sum in a sandbox is worth. -/
noncomputable def Tryd.pinned : Pinned := { name := "ytnphoennagmiaaadoor", sum := "46d3911154f3b16f4bc0c1348eb123dc1a5cdc0aecd7462dd5adcb376aa650ca", checked := Tryd.checked }
namespace Rows
def none {H : Type} : Left H := { results := [], args := [] }

/- WHAT THE LISTED PACKAGE-LEVEL VARIABLES READ AS WHEN THE CALL BEGINS. Each datum BY PROGRAM (the guide's laid-datum.mjs) off the statement by which the dump's own 'gosem.cut.vars' lays the variable. In a bare row this is a premise. The card (YtnphoennagmiaaaDoorCards.lean) ties it to the program's text. -/
def laid_sheave_clamp_kept {H : Type} : DataW H := .agg [.lit (.int .u8 255), .lit (.int .u8 255), .lit (.int .u8 255), .lit (.int .u8 15), .lit (.int .u8 252), .lit (.int .u8 255), .lit (.int .u8 255), .lit (.int .u8 15), .lit (.int .u8 252), .lit (.int .u8 255), .lit (.int .u8 255), .lit (.int .u8 15), .lit (.int .u8 252), .lit (.int .u8 255), .lit (.int .u8 255), .lit (.int .u8 15)]
def laid_sheave_clamp_modulus {H : Type} : DataW H := .agg [.lit (.int .u64 18446744073709551611), .lit (.int .u64 18446744073709551615), .lit (.int .u64 3)]

/-- 'sheavelaw05.PolySums': WHATEVER THE INPUT: true; the input reads as it did. -/
def polySumsSpec : ChangeSpec := { name := "polySums", fn := fun _ => fun
  | [d1, d2] => { results := [.lit (.bool true)], args := [d1, d2] }
  | _ => none }
def polySumsRow : OpenClaim := { program := "ytnphoennagmiaaadoor", sum := "46d3911154f3b16f4bc0c1348eb123dc1a5cdc0aecd7462dd5adcb376aa650ca", func := "sheave/sheavelaw05.PolySums", spec := "polySums", inPlace := ["math/bits.Add64", "math/bits.Sub64"], named := ["sheave/clamp.kept", "sheave/clamp.modulus"], apart := false, laid := [("sheave/clamp.kept", laid_sheave_clamp_kept), ("sheave/clamp.modulus", laid_sheave_clamp_modulus)] }
def PolySumsSaid : Prop := polySumsRow.holds Tryd.pinned (OpenSpec.ofChange polySumsSpec)

/-- ITS FALSE NEIGHBOUR: 'it returns false'. Refute it at one input. -/
def polySumsWrong : ChangeSpec := { name := "polySums", fn := fun _ => fun
  | [d1, d2] => { results := [.lit (.bool false)], args := [d1, d2] }
  | _ => none }
def PolySumsWrongFalsely : Prop := polySumsRow.holds Tryd.pinned (OpenSpec.ofChange polySumsWrong)

/-- 'sheavelaw05.PolySame': WHATEVER THE INPUT: true; the input reads as it did. -/
def polySameSpec : ChangeSpec := { name := "polySame", fn := fun _ => fun
  | [d1, d2] => { results := [.lit (.bool true)], args := [d1, d2] }
  | _ => none }
def polySameRow : OpenClaim := { program := "ytnphoennagmiaaadoor", sum := "46d3911154f3b16f4bc0c1348eb123dc1a5cdc0aecd7462dd5adcb376aa650ca", func := "sheave/sheavelaw05.PolySame", spec := "polySame", inPlace := ["math/bits.Add64", "math/bits.Sub64"], named := ["sheave/clamp.kept", "sheave/clamp.modulus"], apart := false, laid := [("sheave/clamp.kept", laid_sheave_clamp_kept), ("sheave/clamp.modulus", laid_sheave_clamp_modulus)] }
def PolySameSaid : Prop := polySameRow.holds Tryd.pinned (OpenSpec.ofChange polySameSpec)

/-- ITS FALSE NEIGHBOUR: 'it returns false'. Refute it at one input. -/
def polySameWrong : ChangeSpec := { name := "polySame", fn := fun _ => fun
  | [d1, d2] => { results := [.lit (.bool false)], args := [d1, d2] }
  | _ => none }
def PolySameWrongFalsely : Prop := polySameRow.holds Tryd.pinned (OpenSpec.ofChange polySameWrong)

/-- 'sheavelaw05.PolyTrims': WHATEVER THE INPUT: true; the input reads as it did. -/
def polyTrimsSpec : ChangeSpec := { name := "polyTrims", fn := fun _ => fun
  | [d1, d2] => { results := [.lit (.bool true)], args := [d1, d2] }
  | _ => none }
def polyTrimsRow : OpenClaim := { program := "ytnphoennagmiaaadoor", sum := "46d3911154f3b16f4bc0c1348eb123dc1a5cdc0aecd7462dd5adcb376aa650ca", func := "sheave/sheavelaw05.PolyTrims", spec := "polyTrims", inPlace := ["math/bits.Add64", "math/bits.Sub64"], named := ["sheave/clamp.kept", "sheave/clamp.modulus"], apart := false, laid := [("sheave/clamp.kept", laid_sheave_clamp_kept), ("sheave/clamp.modulus", laid_sheave_clamp_modulus)] }
def PolyTrimsSaid : Prop := polyTrimsRow.holds Tryd.pinned (OpenSpec.ofChange polyTrimsSpec)

/-- ITS FALSE NEIGHBOUR: 'it returns false'. Refute it at one input. -/
def polyTrimsWrong : ChangeSpec := { name := "polyTrims", fn := fun _ => fun
  | [d1, d2] => { results := [.lit (.bool false)], args := [d1, d2] }
  | _ => none }
def PolyTrimsWrongFalsely : Prop := polyTrimsRow.holds Tryd.pinned (OpenSpec.ofChange polyTrimsWrong)

/-- 'sheavelaw05.PolySteps': WHATEVER THE INPUT: true; the input reads as it did. -/
def polyStepsSpec : ChangeSpec := { name := "polySteps", fn := fun _ => fun
  | [d1, d2, d3] => { results := [.lit (.bool true)], args := [d1, d2, d3] }
  | _ => none }
def polyStepsRow : OpenClaim := { program := "ytnphoennagmiaaadoor", sum := "46d3911154f3b16f4bc0c1348eb123dc1a5cdc0aecd7462dd5adcb376aa650ca", func := "sheave/sheavelaw05.PolySteps", spec := "polySteps", inPlace := ["math/bits.Add64", "math/bits.Sub64"], named := ["sheave/clamp.kept", "sheave/clamp.modulus"], apart := false, laid := [("sheave/clamp.kept", laid_sheave_clamp_kept), ("sheave/clamp.modulus", laid_sheave_clamp_modulus)] }
def PolyStepsSaid : Prop := polyStepsRow.holds Tryd.pinned (OpenSpec.ofChange polyStepsSpec)

/-- ITS FALSE NEIGHBOUR: 'it returns false'. Refute it at one input. -/
def polyStepsWrong : ChangeSpec := { name := "polySteps", fn := fun _ => fun
  | [d1, d2, d3] => { results := [.lit (.bool false)], args := [d1, d2, d3] }
  | _ => none }
def PolyStepsWrongFalsely : Prop := polyStepsRow.holds Tryd.pinned (OpenSpec.ofChange polyStepsWrong)

/-- 'sheavelaw05.PolyHalves': WHATEVER THE INPUT: true; the input reads as it did. -/
def polyHalvesSpec : ChangeSpec := { name := "polyHalves", fn := fun _ => fun
  | [d1, d2] => { results := [.lit (.bool true)], args := [d1, d2] }
  | _ => none }
def polyHalvesRow : OpenClaim := { program := "ytnphoennagmiaaadoor", sum := "46d3911154f3b16f4bc0c1348eb123dc1a5cdc0aecd7462dd5adcb376aa650ca", func := "sheave/sheavelaw05.PolyHalves", spec := "polyHalves", inPlace := ["math/bits.Add64", "math/bits.Sub64"], named := ["sheave/clamp.kept", "sheave/clamp.modulus"], apart := false, laid := [("sheave/clamp.kept", laid_sheave_clamp_kept), ("sheave/clamp.modulus", laid_sheave_clamp_modulus)] }
def PolyHalvesSaid : Prop := polyHalvesRow.holds Tryd.pinned (OpenSpec.ofChange polyHalvesSpec)

/-- ITS FALSE NEIGHBOUR: 'it returns false'. Refute it at one input. -/
def polyHalvesWrong : ChangeSpec := { name := "polyHalves", fn := fun _ => fun
  | [d1, d2] => { results := [.lit (.bool false)], args := [d1, d2] }
  | _ => none }
def PolyHalvesWrongFalsely : Prop := polyHalvesRow.holds Tryd.pinned (OpenSpec.ofChange polyHalvesWrong)

/- THE SECOND FORM. 'bulk': how many values and letters a reading holds, each counted each time it is reached (what is shared counts as often as it is met; a slice's spare places count too). A statement '..UptoSaid' is the law's where the arguments, and the package variables that the reading takes, are together of bulk at most 1048576: NARROWER than '..Said'. Prove '..Said' where nothing that the law and all that it calls make is longer than what came in: it says more and counts as full. Else prove '..UptoSaid'. A law counts once. -/
mutual
def uptoBulk {H : Type} : DataW H → Nat
  | .lit (.string bytes) => bytes.length + 1
  | .lit _ => 1
  | .nil => 1
  | .ptr d => uptoBulk d + 1
  | .slice elems spare => uptoBulkAll elems + uptoBulkAll spare + 1
  | .agg parts => uptoBulkAll parts + 1
  | .iface _ d => uptoBulk d + 1
  | .map entries => uptoBulkEntries entries + 1
  | .held _ => 1
def uptoBulkAll {H : Type} : List (DataW H) → Nat
  | [] => 0
  | d :: r => uptoBulk d + uptoBulkAll r
def uptoBulkEntries {H : Type} : List (Lit × DataW H) → Nat
  | [] => 0
  | x :: r => uptoBulkEntry x + uptoBulkEntries r
def uptoBulkEntry {H : Type} : Lit × DataW H → Nat
  | (.string bytes, d) => bytes.length + uptoBulk d + 1
  | (_, d) => uptoBulk d + 1
 end
def uptoSmall : (H : Type) → List (DataW H) → Bool := fun _ ds => decide (uptoBulkAll ds ≤ 1048576)
def OpenSpec.upto (s : _root_.Go.ChangeSpec) : _root_.Go.OpenSpec := { _root_.Go.OpenSpec.ofChange s with cond := some uptoSmall }

/-- 'sheavelaw05.PolySums', WHERE WHAT IT READS IS OF BULK AT MOST 1048576: true; the input reads as it did. -/
def polySumsUptoRow : OpenClaim := { program := "ytnphoennagmiaaadoor", sum := "46d3911154f3b16f4bc0c1348eb123dc1a5cdc0aecd7462dd5adcb376aa650ca", func := "sheave/sheavelaw05.PolySums", spec := "polySums", inPlace := ["math/bits.Add64", "math/bits.Sub64"], named := ["sheave/clamp.kept", "sheave/clamp.modulus"], apart := false, laid := [("sheave/clamp.kept", laid_sheave_clamp_kept), ("sheave/clamp.modulus", laid_sheave_clamp_modulus)], narrowed := true }
def PolySumsUptoSaid : Prop := polySumsUptoRow.holds Tryd.pinned (OpenSpec.upto polySumsSpec)

/-- 'sheavelaw05.PolySame', WHERE WHAT IT READS IS OF BULK AT MOST 1048576: true; the input reads as it did. -/
def polySameUptoRow : OpenClaim := { program := "ytnphoennagmiaaadoor", sum := "46d3911154f3b16f4bc0c1348eb123dc1a5cdc0aecd7462dd5adcb376aa650ca", func := "sheave/sheavelaw05.PolySame", spec := "polySame", inPlace := ["math/bits.Add64", "math/bits.Sub64"], named := ["sheave/clamp.kept", "sheave/clamp.modulus"], apart := false, laid := [("sheave/clamp.kept", laid_sheave_clamp_kept), ("sheave/clamp.modulus", laid_sheave_clamp_modulus)], narrowed := true }
def PolySameUptoSaid : Prop := polySameUptoRow.holds Tryd.pinned (OpenSpec.upto polySameSpec)

/-- 'sheavelaw05.PolyTrims', WHERE WHAT IT READS IS OF BULK AT MOST 1048576: true; the input reads as it did. -/
def polyTrimsUptoRow : OpenClaim := { program := "ytnphoennagmiaaadoor", sum := "46d3911154f3b16f4bc0c1348eb123dc1a5cdc0aecd7462dd5adcb376aa650ca", func := "sheave/sheavelaw05.PolyTrims", spec := "polyTrims", inPlace := ["math/bits.Add64", "math/bits.Sub64"], named := ["sheave/clamp.kept", "sheave/clamp.modulus"], apart := false, laid := [("sheave/clamp.kept", laid_sheave_clamp_kept), ("sheave/clamp.modulus", laid_sheave_clamp_modulus)], narrowed := true }
def PolyTrimsUptoSaid : Prop := polyTrimsUptoRow.holds Tryd.pinned (OpenSpec.upto polyTrimsSpec)

/-- 'sheavelaw05.PolySteps', WHERE WHAT IT READS IS OF BULK AT MOST 1048576: true; the input reads as it did. -/
def polyStepsUptoRow : OpenClaim := { program := "ytnphoennagmiaaadoor", sum := "46d3911154f3b16f4bc0c1348eb123dc1a5cdc0aecd7462dd5adcb376aa650ca", func := "sheave/sheavelaw05.PolySteps", spec := "polySteps", inPlace := ["math/bits.Add64", "math/bits.Sub64"], named := ["sheave/clamp.kept", "sheave/clamp.modulus"], apart := false, laid := [("sheave/clamp.kept", laid_sheave_clamp_kept), ("sheave/clamp.modulus", laid_sheave_clamp_modulus)], narrowed := true }
def PolyStepsUptoSaid : Prop := polyStepsUptoRow.holds Tryd.pinned (OpenSpec.upto polyStepsSpec)

/-- 'sheavelaw05.PolyHalves', WHERE WHAT IT READS IS OF BULK AT MOST 1048576: true; the input reads as it did. -/
def polyHalvesUptoRow : OpenClaim := { program := "ytnphoennagmiaaadoor", sum := "46d3911154f3b16f4bc0c1348eb123dc1a5cdc0aecd7462dd5adcb376aa650ca", func := "sheave/sheavelaw05.PolyHalves", spec := "polyHalves", inPlace := ["math/bits.Add64", "math/bits.Sub64"], named := ["sheave/clamp.kept", "sheave/clamp.modulus"], apart := false, laid := [("sheave/clamp.kept", laid_sheave_clamp_kept), ("sheave/clamp.modulus", laid_sheave_clamp_modulus)], narrowed := true }
def PolyHalvesUptoSaid : Prop := polyHalvesUptoRow.holds Tryd.pinned (OpenSpec.upto polyHalvesSpec)

end Rows
end Go.Proofs.YtnphoennagmiaaaDoor
