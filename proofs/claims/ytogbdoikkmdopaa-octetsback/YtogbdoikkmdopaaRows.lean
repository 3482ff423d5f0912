/-
  No cell of these rows narrows 'for every input' (looked for: loops, veiled, ifaces, maps, wideKeys, modest, calm, conditions, laid).
  DERIVED. THE GIVEN ROWS OF THIS SEAT. 6 by the template 'for every input the law returns true; each argument reads behind the call as it read before'; 0 by the template 'total and deterministic' (their statements: YtogbdoikkmdopaaTotals.lean).
  GIVEN WITH THE SEED: the statements are not yours to turn. If you find one false, say at which input.
  Laid BY PROGRAM, IN A SANDBOX (cutbox-rows.mjs): the forced cells as the released guide's own fill.sh prints them over the translation 0cba6eb0d55d5e7c… (all of the seat's roots in one cut). By AI agents, Wed Nov 11 2026. No macro, syntax, notation, axiom, sorry.
-/
import Derived.Test.YtogbdoikkmdopaaChecked
import GoSem.Claim
import GoSem.ClaimJoined
import GoSem.ClaimMapViews
import Derived.JoinedTies
import Derived.KernelRfl
namespace Go.Proofs.Ytogbdoikkmdopaa
/- THE CELL 'sum', in the pinned program and in every row, IS THE sha256 OF THE DUMP (.gsa) THAT YtogbdoikkmdopaaProg.lean LOADS. Nothing in Lean hashes anything: it is a label: what it is worth is what the hold of that sum in a sandbox is worth. -/
noncomputable def Try.pinned : Pinned := { name := "ytogbdoikkmdopaa", sum := "0cba6eb0d55d5e7c3c427e0626398a929273b511bf5b199da3974c612f8327a9", checked := Try.checked }
namespace Rows
def none {H : Type} : Left H := { results := [], args := [] }

/-- 'sheavelaw09.OctetsVars': WHATEVER THE INPUT: true; the input reads as it did. -/
def octetsVarsSpec : ChangeSpec := { name := "octetsVars", fn := fun _ => fun
  | [d1, d2] => { results := [.lit (.bool true)], args := [d1, d2] }
  | _ => none }
def octetsVarsRow : OpenClaim := { program := "ytogbdoikkmdopaa", sum := "0cba6eb0d55d5e7c3c427e0626398a929273b511bf5b199da3974c612f8327a9", func := "sheave/sheavelaw09.OctetsVars", spec := "octetsVars", unfollowed := true, recurses := true, apart := false }
def OctetsVarsSaid : Prop := octetsVarsRow.holds Try.pinned (OpenSpec.ofChange octetsVarsSpec)

/-- ITS FALSE NEIGHBOUR: 'it returns false'. Refute it at one input. -/
def octetsVarsWrong : ChangeSpec := { name := "octetsVars", fn := fun _ => fun
  | [d1, d2] => { results := [.lit (.bool false)], args := [d1, d2] }
  | _ => none }
def OctetsVarsWrongFalsely : Prop := octetsVarsRow.holds Try.pinned (OpenSpec.ofChange octetsVarsWrong)

/-- 'sheavelaw09.OctetsTakes': WHATEVER THE INPUT: true; the input reads as it did. -/
def octetsTakesSpec : ChangeSpec := { name := "octetsTakes", fn := fun _ => fun
  | [d1, d2] => { results := [.lit (.bool true)], args := [d1, d2] }
  | _ => none }
def octetsTakesRow : OpenClaim := { program := "ytogbdoikkmdopaa", sum := "0cba6eb0d55d5e7c3c427e0626398a929273b511bf5b199da3974c612f8327a9", func := "sheave/sheavelaw09.OctetsTakes", spec := "octetsTakes", unfollowed := true, recurses := true, apart := false }
def OctetsTakesSaid : Prop := octetsTakesRow.holds Try.pinned (OpenSpec.ofChange octetsTakesSpec)

/-- ITS FALSE NEIGHBOUR: 'it returns false'. Refute it at one input. -/
def octetsTakesWrong : ChangeSpec := { name := "octetsTakes", fn := fun _ => fun
  | [d1, d2] => { results := [.lit (.bool false)], args := [d1, d2] }
  | _ => none }
def OctetsTakesWrongFalsely : Prop := octetsTakesRow.holds Try.pinned (OpenSpec.ofChange octetsTakesWrong)

/-- 'sheavelaw09.OctetsFixed': WHATEVER THE INPUT: true; the input reads as it did. -/
def octetsFixedSpec : ChangeSpec := { name := "octetsFixed", fn := fun _ => fun
  | [d1, d2, d3] => { results := [.lit (.bool true)], args := [d1, d2, d3] }
  | _ => none }
def octetsFixedRow : OpenClaim := { program := "ytogbdoikkmdopaa", sum := "0cba6eb0d55d5e7c3c427e0626398a929273b511bf5b199da3974c612f8327a9", func := "sheave/sheavelaw09.OctetsFixed", spec := "octetsFixed", unfollowed := true, recurses := true, apart := false }
def OctetsFixedSaid : Prop := octetsFixedRow.holds Try.pinned (OpenSpec.ofChange octetsFixedSpec)

/-- ITS FALSE NEIGHBOUR: 'it returns false'. Refute it at one input. -/
def octetsFixedWrong : ChangeSpec := { name := "octetsFixed", fn := fun _ => fun
  | [d1, d2, d3] => { results := [.lit (.bool false)], args := [d1, d2, d3] }
  | _ => none }
def OctetsFixedWrongFalsely : Prop := octetsFixedRow.holds Try.pinned (OpenSpec.ofChange octetsFixedWrong)

/-- 'sheavelaw09.OctetsTexts': WHATEVER THE INPUT: true; the input reads as it did. -/
def octetsTextsSpec : ChangeSpec := { name := "octetsTexts", fn := fun _ => fun
  | [d1, d2, d3] => { results := [.lit (.bool true)], args := [d1, d2, d3] }
  | _ => none }
def octetsTextsRow : OpenClaim := { program := "ytogbdoikkmdopaa", sum := "0cba6eb0d55d5e7c3c427e0626398a929273b511bf5b199da3974c612f8327a9", func := "sheave/sheavelaw09.OctetsTexts", spec := "octetsTexts", unfollowed := true, recurses := true, apart := false }
def OctetsTextsSaid : Prop := octetsTextsRow.holds Try.pinned (OpenSpec.ofChange octetsTextsSpec)

/-- ITS FALSE NEIGHBOUR: 'it returns false'. Refute it at one input. -/
def octetsTextsWrong : ChangeSpec := { name := "octetsTexts", fn := fun _ => fun
  | [d1, d2, d3] => { results := [.lit (.bool false)], args := [d1, d2, d3] }
  | _ => none }
def OctetsTextsWrongFalsely : Prop := octetsTextsRow.holds Try.pinned (OpenSpec.ofChange octetsTextsWrong)

/-- 'sheavelaw09.OctetsBack': WHATEVER THE INPUT: true; the input reads as it did. -/
def octetsBackSpec : ChangeSpec := { name := "octetsBack", fn := fun _ => fun
  | [d1, d2] => { results := [.lit (.bool true)], args := [d1, d2] }
  | _ => none }
def octetsBackRow : OpenClaim := { program := "ytogbdoikkmdopaa", sum := "0cba6eb0d55d5e7c3c427e0626398a929273b511bf5b199da3974c612f8327a9", func := "sheave/sheavelaw09.OctetsBack", spec := "octetsBack", unfollowed := true, recurses := true, apart := false }
def OctetsBackSaid : Prop := octetsBackRow.holds Try.pinned (OpenSpec.ofChange octetsBackSpec)

/-- ITS FALSE NEIGHBOUR: 'it returns false'. Refute it at one input. -/
def octetsBackWrong : ChangeSpec := { name := "octetsBack", fn := fun _ => fun
  | [d1, d2] => { results := [.lit (.bool false)], args := [d1, d2] }
  | _ => none }
def OctetsBackWrongFalsely : Prop := octetsBackRow.holds Try.pinned (OpenSpec.ofChange octetsBackWrong)

/-- 'sheavelaw09.OctetsWhole': WHATEVER THE INPUT: true; the input reads as it did. -/
def octetsWholeSpec : ChangeSpec := { name := "octetsWhole", fn := fun _ => fun
  | [d1, d2] => { results := [.lit (.bool true)], args := [d1, d2] }
  | _ => none }
def octetsWholeRow : OpenClaim := { program := "ytogbdoikkmdopaa", sum := "0cba6eb0d55d5e7c3c427e0626398a929273b511bf5b199da3974c612f8327a9", func := "sheave/sheavelaw09.OctetsWhole", spec := "octetsWhole", unfollowed := true, recurses := true, apart := false }
def OctetsWholeSaid : Prop := octetsWholeRow.holds Try.pinned (OpenSpec.ofChange octetsWholeSpec)

/-- ITS FALSE NEIGHBOUR: 'it returns false'. Refute it at one input. -/
def octetsWholeWrong : ChangeSpec := { name := "octetsWhole", fn := fun _ => fun
  | [d1, d2] => { results := [.lit (.bool false)], args := [d1, d2] }
  | _ => none }
def OctetsWholeWrongFalsely : Prop := octetsWholeRow.holds Try.pinned (OpenSpec.ofChange octetsWholeWrong)

/- THE SECOND FORM. 'bulk': how many values and letters a reading holds, each counted each time it is reached (what is shared counts as often as it is met; a slice's spare places count too). A statement '..UptoSaid' is the law's where the arguments, and the package variables that the reading takes, are together of bulk at most 1048576: NARROWER than '..Said'. Prove '..Said' where nothing that the law and all that it calls make is longer than what came in: it says more and counts as full. Else prove '..UptoSaid'. A law counts once. -/
mutual
def uptoBulk {H : Type} : DataW H → Nat
  | .lit (.string bytes) => bytes.length + 1
  | .lit _ => 1
  | .nil => 1
  | .ptr d => uptoBulk d + 1
  | .slice elems spare => uptoBulkAll elems + uptoBulkAll spare + 1
  | .agg parts => uptoBulkAll parts + 1
  | .iface _ d => uptoBulk d + 1
  | .map entries => uptoBulkEntries entries + 1
  | .held _ => 1
def uptoBulkAll {H : Type} : List (DataW H) → Nat
  | [] => 0
  | d :: r => uptoBulk d + uptoBulkAll r
def uptoBulkEntries {H : Type} : List (Lit × DataW H) → Nat
  | [] => 0
  | x :: r => uptoBulkEntry x + uptoBulkEntries r
def uptoBulkEntry {H : Type} : Lit × DataW H → Nat
  | (.string bytes, d) => bytes.length + uptoBulk d + 1
  | (_, d) => uptoBulk d + 1
 end
def uptoSmall : (H : Type) → List (DataW H) → Bool := fun _ ds => decide (uptoBulkAll ds ≤ 1048576)
def OpenSpec.upto (s : _root_.Go.ChangeSpec) : _root_.Go.OpenSpec := { _root_.Go.OpenSpec.ofChange s with cond := some uptoSmall }

/-- 'sheavelaw09.OctetsVars', WHERE WHAT IT READS IS OF BULK AT MOST 1048576: true; the input reads as it did. -/
def octetsVarsUptoRow : OpenClaim := { program := "ytogbdoikkmdopaa", sum := "0cba6eb0d55d5e7c3c427e0626398a929273b511bf5b199da3974c612f8327a9", func := "sheave/sheavelaw09.OctetsVars", spec := "octetsVars", unfollowed := true, recurses := true, apart := false, narrowed := true }
def OctetsVarsUptoSaid : Prop := octetsVarsUptoRow.holds Try.pinned (OpenSpec.upto octetsVarsSpec)

/-- 'sheavelaw09.OctetsTakes', WHERE WHAT IT READS IS OF BULK AT MOST 1048576: true; the input reads as it did. -/
def octetsTakesUptoRow : OpenClaim := { program := "ytogbdoikkmdopaa", sum := "0cba6eb0d55d5e7c3c427e0626398a929273b511bf5b199da3974c612f8327a9", func := "sheave/sheavelaw09.OctetsTakes", spec := "octetsTakes", unfollowed := true, recurses := true, apart := false, narrowed := true }
def OctetsTakesUptoSaid : Prop := octetsTakesUptoRow.holds Try.pinned (OpenSpec.upto octetsTakesSpec)

/-- 'sheavelaw09.OctetsFixed', WHERE WHAT IT READS IS OF BULK AT MOST 1048576: true; the input reads as it did. -/
def octetsFixedUptoRow : OpenClaim := { program := "ytogbdoikkmdopaa", sum := "0cba6eb0d55d5e7c3c427e0626398a929273b511bf5b199da3974c612f8327a9", func := "sheave/sheavelaw09.OctetsFixed", spec := "octetsFixed", unfollowed := true, recurses := true, apart := false, narrowed := true }
def OctetsFixedUptoSaid : Prop := octetsFixedUptoRow.holds Try.pinned (OpenSpec.upto octetsFixedSpec)

/-- 'sheavelaw09.OctetsTexts', WHERE WHAT IT READS IS OF BULK AT MOST 1048576: true; the input reads as it did. -/
def octetsTextsUptoRow : OpenClaim := { program := "ytogbdoikkmdopaa", sum := "0cba6eb0d55d5e7c3c427e0626398a929273b511bf5b199da3974c612f8327a9", func := "sheave/sheavelaw09.OctetsTexts", spec := "octetsTexts", unfollowed := true, recurses := true, apart := false, narrowed := true }
def OctetsTextsUptoSaid : Prop := octetsTextsUptoRow.holds Try.pinned (OpenSpec.upto octetsTextsSpec)

/-- 'sheavelaw09.OctetsBack', WHERE WHAT IT READS IS OF BULK AT MOST 1048576: true; the input reads as it did. -/
def octetsBackUptoRow : OpenClaim := { program := "ytogbdoikkmdopaa", sum := "0cba6eb0d55d5e7c3c427e0626398a929273b511bf5b199da3974c612f8327a9", func := "sheave/sheavelaw09.OctetsBack", spec := "octetsBack", unfollowed := true, recurses := true, apart := false, narrowed := true }
def OctetsBackUptoSaid : Prop := octetsBackUptoRow.holds Try.pinned (OpenSpec.upto octetsBackSpec)

/-- 'sheavelaw09.OctetsWhole', WHERE WHAT IT READS IS OF BULK AT MOST 1048576: true; the input reads as it did. -/
def octetsWholeUptoRow : OpenClaim := { program := "ytogbdoikkmdopaa", sum := "0cba6eb0d55d5e7c3c427e0626398a929273b511bf5b199da3974c612f8327a9", func := "sheave/sheavelaw09.OctetsWhole", spec := "octetsWhole", unfollowed := true, recurses := true, apart := false, narrowed := true }
def OctetsWholeUptoSaid : Prop := octetsWholeUptoRow.holds Try.pinned (OpenSpec.upto octetsWholeSpec)

end Rows
end Go.Proofs.Ytogbdoikkmdopaa
