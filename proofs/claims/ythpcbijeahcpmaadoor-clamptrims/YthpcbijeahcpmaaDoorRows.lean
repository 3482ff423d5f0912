/-
  NARROWER THAN 'FOR EVERY INPUT', by the rows' own cells (each row's printed sentence says how): ClampTrims: laid · ClampCanon: laid · ClampAdds: laid · ClampMuls: laid · ClampLow: laid · ClampSides: laid.
  DERIVED. THE GIVEN ROWS OF THIS SEAT. 6 by the template 'for every input the law returns true; each argument reads behind the call as it read before'; 0 by the template 'total and deterministic' (their statements: YthpcbijeahcpmaaDoorTotals.lean).
  GIVEN WITH THE SEED: the statements are not yours to turn. If you find one false, say at which input.
  Laid BY PROGRAM, IN A SANDBOX (cutbox-rows.mjs): the forced cells as the released guide's own fill.sh prints them over the translation 0b71b96b63729ddf… (all of the seat's roots in one cut). By AI agents, Wed Nov 11 2026. No macro, syntax, notation, axiom, sorry.
-/
import Derived.Test.YthpcbijeahcpmaaDoorChecked
import GoSem.Claim
import GoSem.ClaimJoined
import GoSem.ClaimMapViews
import Derived.JoinedTies
import Derived.KernelRfl
namespace Go.Proofs.YthpcbijeahcpmaaDoor
/- THE CELL 'sum', in the pinned program and in every row, IS THE sha256 OF THE DUMP (.gsa) THAT YthpcbijeahcpmaaDoorProg.lean LOADS. Nothing in Lean hashes anything: it is a label: what it is worth is what the hold of that sum in a sandbox is worth. -/
noncomputable def Tryd.pinned : Pinned := { name := "ythpcbijeahcpmaadoor", sum := "0b71b96b63729ddfaca28d7d59002aecc5811e24b7bc42d776bd7243e9e4abce", checked := Tryd.checked }
namespace Rows
def none {H : Type} : Left H := { results := [], args := [] }

/- WHAT THE LISTED PACKAGE-LEVEL VARIABLES READ AS WHEN THE CALL BEGINS. Each datum BY PROGRAM (the guide's laid-datum.mjs) off the statement by which the dump's own 'gosem.cut.vars' lays the variable. In a bare row this is a premise. The card (YthpcbijeahcpmaaDoorCards.lean) ties it to the program's text. -/
def laid_sheave_clamp_kept {H : Type} : DataW H := .agg [.lit (.int .u8 255), .lit (.int .u8 255), .lit (.int .u8 255), .lit (.int .u8 15), .lit (.int .u8 252), .lit (.int .u8 255), .lit (.int .u8 255), .lit (.int .u8 15), .lit (.int .u8 252), .lit (.int .u8 255), .lit (.int .u8 255), .lit (.int .u8 15), .lit (.int .u8 252), .lit (.int .u8 255), .lit (.int .u8 255), .lit (.int .u8 15)]
def laid_sheave_clamp_modulus {H : Type} : DataW H := .agg [.lit (.int .u64 18446744073709551611), .lit (.int .u64 18446744073709551615), .lit (.int .u64 3)]

/-- 'sheavelaw03.ClampTrims': WHATEVER THE INPUT: true; the input reads as it did. -/
def clampTrimsSpec : ChangeSpec := { name := "clampTrims", fn := fun _ => fun
  | [d1, d2] => { results := [.lit (.bool true)], args := [d1, d2] }
  | _ => none }
def clampTrimsRow : OpenClaim := { program := "ythpcbijeahcpmaadoor", sum := "0b71b96b63729ddfaca28d7d59002aecc5811e24b7bc42d776bd7243e9e4abce", func := "sheave/sheavelaw03.ClampTrims", spec := "clampTrims", inPlace := ["math/bits.Add64", "math/bits.Sub64"], named := ["sheave/clamp.kept", "sheave/clamp.modulus"], apart := false, laid := [("sheave/clamp.kept", laid_sheave_clamp_kept), ("sheave/clamp.modulus", laid_sheave_clamp_modulus)] }
def ClampTrimsSaid : Prop := clampTrimsRow.holds Tryd.pinned (OpenSpec.ofChange clampTrimsSpec)

/-- ITS FALSE NEIGHBOUR: 'it returns false'. Refute it at one input. -/
def clampTrimsWrong : ChangeSpec := { name := "clampTrims", fn := fun _ => fun
  | [d1, d2] => { results := [.lit (.bool false)], args := [d1, d2] }
  | _ => none }
def ClampTrimsWrongFalsely : Prop := clampTrimsRow.holds Tryd.pinned (OpenSpec.ofChange clampTrimsWrong)

/-- 'sheavelaw03.ClampCanon': WHATEVER THE INPUT: true; the input reads as it did. -/
def clampCanonSpec : ChangeSpec := { name := "clampCanon", fn := fun _ => fun
  | [d] => { results := [.lit (.bool true)], args := [d] }
  | _ => none }
def clampCanonRow : OpenClaim := { program := "ythpcbijeahcpmaadoor", sum := "0b71b96b63729ddfaca28d7d59002aecc5811e24b7bc42d776bd7243e9e4abce", func := "sheave/sheavelaw03.ClampCanon", spec := "clampCanon", inPlace := ["math/bits.Add64", "math/bits.Sub64"], named := ["sheave/clamp.kept", "sheave/clamp.modulus"], apart := false, laid := [("sheave/clamp.kept", laid_sheave_clamp_kept), ("sheave/clamp.modulus", laid_sheave_clamp_modulus)] }
def ClampCanonSaid : Prop := clampCanonRow.holds Tryd.pinned (OpenSpec.ofChange clampCanonSpec)

/-- ITS FALSE NEIGHBOUR: 'it returns false'. Refute it at one input. -/
def clampCanonWrong : ChangeSpec := { name := "clampCanon", fn := fun _ => fun
  | [d] => { results := [.lit (.bool false)], args := [d] }
  | _ => none }
def ClampCanonWrongFalsely : Prop := clampCanonRow.holds Tryd.pinned (OpenSpec.ofChange clampCanonWrong)

/-- 'sheavelaw03.ClampAdds': WHATEVER THE INPUT: true; the input reads as it did. -/
def clampAddsSpec : ChangeSpec := { name := "clampAdds", fn := fun _ => fun
  | [d1, d2] => { results := [.lit (.bool true)], args := [d1, d2] }
  | _ => none }
def clampAddsRow : OpenClaim := { program := "ythpcbijeahcpmaadoor", sum := "0b71b96b63729ddfaca28d7d59002aecc5811e24b7bc42d776bd7243e9e4abce", func := "sheave/sheavelaw03.ClampAdds", spec := "clampAdds", inPlace := ["math/bits.Add64", "math/bits.Sub64"], named := ["sheave/clamp.kept", "sheave/clamp.modulus"], apart := false, laid := [("sheave/clamp.kept", laid_sheave_clamp_kept), ("sheave/clamp.modulus", laid_sheave_clamp_modulus)] }
def ClampAddsSaid : Prop := clampAddsRow.holds Tryd.pinned (OpenSpec.ofChange clampAddsSpec)

/-- ITS FALSE NEIGHBOUR: 'it returns false'. Refute it at one input. -/
def clampAddsWrong : ChangeSpec := { name := "clampAdds", fn := fun _ => fun
  | [d1, d2] => { results := [.lit (.bool false)], args := [d1, d2] }
  | _ => none }
def ClampAddsWrongFalsely : Prop := clampAddsRow.holds Tryd.pinned (OpenSpec.ofChange clampAddsWrong)

/-- 'sheavelaw03.ClampMuls': WHATEVER THE INPUT: true; the input reads as it did. -/
def clampMulsSpec : ChangeSpec := { name := "clampMuls", fn := fun _ => fun
  | [d1, d2] => { results := [.lit (.bool true)], args := [d1, d2] }
  | _ => none }
def clampMulsRow : OpenClaim := { program := "ythpcbijeahcpmaadoor", sum := "0b71b96b63729ddfaca28d7d59002aecc5811e24b7bc42d776bd7243e9e4abce", func := "sheave/sheavelaw03.ClampMuls", spec := "clampMuls", inPlace := ["math/bits.Add64", "math/bits.Sub64"], named := ["sheave/clamp.kept", "sheave/clamp.modulus"], apart := false, laid := [("sheave/clamp.kept", laid_sheave_clamp_kept), ("sheave/clamp.modulus", laid_sheave_clamp_modulus)] }
def ClampMulsSaid : Prop := clampMulsRow.holds Tryd.pinned (OpenSpec.ofChange clampMulsSpec)

/-- ITS FALSE NEIGHBOUR: 'it returns false'. Refute it at one input. -/
def clampMulsWrong : ChangeSpec := { name := "clampMuls", fn := fun _ => fun
  | [d1, d2] => { results := [.lit (.bool false)], args := [d1, d2] }
  | _ => none }
def ClampMulsWrongFalsely : Prop := clampMulsRow.holds Tryd.pinned (OpenSpec.ofChange clampMulsWrong)

/-- 'sheavelaw03.ClampLow': WHATEVER THE INPUT: true; the input reads as it did. -/
def clampLowSpec : ChangeSpec := { name := "clampLow", fn := fun _ => fun
  | [d1, d2] => { results := [.lit (.bool true)], args := [d1, d2] }
  | _ => none }
def clampLowRow : OpenClaim := { program := "ythpcbijeahcpmaadoor", sum := "0b71b96b63729ddfaca28d7d59002aecc5811e24b7bc42d776bd7243e9e4abce", func := "sheave/sheavelaw03.ClampLow", spec := "clampLow", inPlace := ["math/bits.Add64", "math/bits.Sub64"], named := ["sheave/clamp.kept", "sheave/clamp.modulus"], apart := false, laid := [("sheave/clamp.kept", laid_sheave_clamp_kept), ("sheave/clamp.modulus", laid_sheave_clamp_modulus)] }
def ClampLowSaid : Prop := clampLowRow.holds Tryd.pinned (OpenSpec.ofChange clampLowSpec)

/-- ITS FALSE NEIGHBOUR: 'it returns false'. Refute it at one input. -/
def clampLowWrong : ChangeSpec := { name := "clampLow", fn := fun _ => fun
  | [d1, d2] => { results := [.lit (.bool false)], args := [d1, d2] }
  | _ => none }
def ClampLowWrongFalsely : Prop := clampLowRow.holds Tryd.pinned (OpenSpec.ofChange clampLowWrong)

/-- 'sheavelaw03.ClampSides': WHATEVER THE INPUT: true; the input reads as it did. -/
def clampSidesSpec : ChangeSpec := { name := "clampSides", fn := fun _ => fun
  | [d1, d2] => { results := [.lit (.bool true)], args := [d1, d2] }
  | _ => none }
def clampSidesRow : OpenClaim := { program := "ythpcbijeahcpmaadoor", sum := "0b71b96b63729ddfaca28d7d59002aecc5811e24b7bc42d776bd7243e9e4abce", func := "sheave/sheavelaw03.ClampSides", spec := "clampSides", inPlace := ["math/bits.Add64", "math/bits.Sub64"], named := ["sheave/clamp.kept", "sheave/clamp.modulus"], apart := false, laid := [("sheave/clamp.kept", laid_sheave_clamp_kept), ("sheave/clamp.modulus", laid_sheave_clamp_modulus)] }
def ClampSidesSaid : Prop := clampSidesRow.holds Tryd.pinned (OpenSpec.ofChange clampSidesSpec)

/-- ITS FALSE NEIGHBOUR: 'it returns false'. Refute it at one input. -/
def clampSidesWrong : ChangeSpec := { name := "clampSides", fn := fun _ => fun
  | [d1, d2] => { results := [.lit (.bool false)], args := [d1, d2] }
  | _ => none }
def ClampSidesWrongFalsely : Prop := clampSidesRow.holds Tryd.pinned (OpenSpec.ofChange clampSidesWrong)

/- THE SECOND FORM. 'bulk': how many values and letters a reading holds, each counted each time it is reached (what is shared counts as often as it is met; a slice's spare places count too). A statement '..UptoSaid' is the law's where the arguments, and the package variables that the reading takes, are together of bulk at most 1048576: NARROWER than '..Said'. Prove '..Said' where nothing that the law and all that it calls make is longer than what came in: it says more and counts as full. Else prove '..UptoSaid'. A law counts once. -/
mutual
def uptoBulk {H : Type} : DataW H → Nat
  | .lit (.string bytes) => bytes.length + 1
  | .lit _ => 1
  | .nil => 1
  | .ptr d => uptoBulk d + 1
  | .slice elems spare => uptoBulkAll elems + uptoBulkAll spare + 1
  | .agg parts => uptoBulkAll parts + 1
  | .iface _ d => uptoBulk d + 1
  | .map entries => uptoBulkEntries entries + 1
  | .held _ => 1
def uptoBulkAll {H : Type} : List (DataW H) → Nat
  | [] => 0
  | d :: r => uptoBulk d + uptoBulkAll r
def uptoBulkEntries {H : Type} : List (Lit × DataW H) → Nat
  | [] => 0
  | x :: r => uptoBulkEntry x + uptoBulkEntries r
def uptoBulkEntry {H : Type} : Lit × DataW H → Nat
  | (.string bytes, d) => bytes.length + uptoBulk d + 1
  | (_, d) => uptoBulk d + 1
 end
def uptoSmall : (H : Type) → List (DataW H) → Bool := fun _ ds => decide (uptoBulkAll ds ≤ 1048576)
def OpenSpec.upto (s : _root_.Go.ChangeSpec) : _root_.Go.OpenSpec := { _root_.Go.OpenSpec.ofChange s with cond := some uptoSmall }

/-- 'sheavelaw03.ClampTrims', WHERE WHAT IT READS IS OF BULK AT MOST 1048576: true; the input reads as it did. -/
def clampTrimsUptoRow : OpenClaim := { program := "ythpcbijeahcpmaadoor", sum := "0b71b96b63729ddfaca28d7d59002aecc5811e24b7bc42d776bd7243e9e4abce", func := "sheave/sheavelaw03.ClampTrims", spec := "clampTrims", inPlace := ["math/bits.Add64", "math/bits.Sub64"], named := ["sheave/clamp.kept", "sheave/clamp.modulus"], apart := false, laid := [("sheave/clamp.kept", laid_sheave_clamp_kept), ("sheave/clamp.modulus", laid_sheave_clamp_modulus)], narrowed := true }
def ClampTrimsUptoSaid : Prop := clampTrimsUptoRow.holds Tryd.pinned (OpenSpec.upto clampTrimsSpec)

/-- 'sheavelaw03.ClampCanon', WHERE WHAT IT READS IS OF BULK AT MOST 1048576: true; the input reads as it did. -/
def clampCanonUptoRow : OpenClaim := { program := "ythpcbijeahcpmaadoor", sum := "0b71b96b63729ddfaca28d7d59002aecc5811e24b7bc42d776bd7243e9e4abce", func := "sheave/sheavelaw03.ClampCanon", spec := "clampCanon", inPlace := ["math/bits.Add64", "math/bits.Sub64"], named := ["sheave/clamp.kept", "sheave/clamp.modulus"], apart := false, laid := [("sheave/clamp.kept", laid_sheave_clamp_kept), ("sheave/clamp.modulus", laid_sheave_clamp_modulus)], narrowed := true }
def ClampCanonUptoSaid : Prop := clampCanonUptoRow.holds Tryd.pinned (OpenSpec.upto clampCanonSpec)

/-- 'sheavelaw03.ClampAdds', WHERE WHAT IT READS IS OF BULK AT MOST 1048576: true; the input reads as it did. -/
def clampAddsUptoRow : OpenClaim := { program := "ythpcbijeahcpmaadoor", sum := "0b71b96b63729ddfaca28d7d59002aecc5811e24b7bc42d776bd7243e9e4abce", func := "sheave/sheavelaw03.ClampAdds", spec := "clampAdds", inPlace := ["math/bits.Add64", "math/bits.Sub64"], named := ["sheave/clamp.kept", "sheave/clamp.modulus"], apart := false, laid := [("sheave/clamp.kept", laid_sheave_clamp_kept), ("sheave/clamp.modulus", laid_sheave_clamp_modulus)], narrowed := true }
def ClampAddsUptoSaid : Prop := clampAddsUptoRow.holds Tryd.pinned (OpenSpec.upto clampAddsSpec)

/-- 'sheavelaw03.ClampMuls', WHERE WHAT IT READS IS OF BULK AT MOST 1048576: true; the input reads as it did. -/
def clampMulsUptoRow : OpenClaim := { program := "ythpcbijeahcpmaadoor", sum := "0b71b96b63729ddfaca28d7d59002aecc5811e24b7bc42d776bd7243e9e4abce", func := "sheave/sheavelaw03.ClampMuls", spec := "clampMuls", inPlace := ["math/bits.Add64", "math/bits.Sub64"], named := ["sheave/clamp.kept", "sheave/clamp.modulus"], apart := false, laid := [("sheave/clamp.kept", laid_sheave_clamp_kept), ("sheave/clamp.modulus", laid_sheave_clamp_modulus)], narrowed := true }
def ClampMulsUptoSaid : Prop := clampMulsUptoRow.holds Tryd.pinned (OpenSpec.upto clampMulsSpec)

/-- 'sheavelaw03.ClampLow', WHERE WHAT IT READS IS OF BULK AT MOST 1048576: true; the input reads as it did. -/
def clampLowUptoRow : OpenClaim := { program := "ythpcbijeahcpmaadoor", sum := "0b71b96b63729ddfaca28d7d59002aecc5811e24b7bc42d776bd7243e9e4abce", func := "sheave/sheavelaw03.ClampLow", spec := "clampLow", inPlace := ["math/bits.Add64", "math/bits.Sub64"], named := ["sheave/clamp.kept", "sheave/clamp.modulus"], apart := false, laid := [("sheave/clamp.kept", laid_sheave_clamp_kept), ("sheave/clamp.modulus", laid_sheave_clamp_modulus)], narrowed := true }
def ClampLowUptoSaid : Prop := clampLowUptoRow.holds Tryd.pinned (OpenSpec.upto clampLowSpec)

/-- 'sheavelaw03.ClampSides', WHERE WHAT IT READS IS OF BULK AT MOST 1048576: true; the input reads as it did. -/
def clampSidesUptoRow : OpenClaim := { program := "ythpcbijeahcpmaadoor", sum := "0b71b96b63729ddfaca28d7d59002aecc5811e24b7bc42d776bd7243e9e4abce", func := "sheave/sheavelaw03.ClampSides", spec := "clampSides", inPlace := ["math/bits.Add64", "math/bits.Sub64"], named := ["sheave/clamp.kept", "sheave/clamp.modulus"], apart := false, laid := [("sheave/clamp.kept", laid_sheave_clamp_kept), ("sheave/clamp.modulus", laid_sheave_clamp_modulus)], narrowed := true }
def ClampSidesUptoSaid : Prop := clampSidesUptoRow.holds Tryd.pinned (OpenSpec.upto clampSidesSpec)

end Rows
end Go.Proofs.YthpcbijeahcpmaaDoor
