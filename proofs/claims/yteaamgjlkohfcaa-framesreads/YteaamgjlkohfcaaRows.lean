/-
  No cell of these rows narrows 'for every input' (looked for: loops, veiled, ifaces, maps, wideKeys, modest, calm, conditions, laid).
  DERIVED. THE GIVEN ROWS OF THIS SEAT. 6 by the template 'for every input the law returns true; each argument reads behind the call as it read before'; 0 by the template 'total and deterministic' (their statements: YteaamgjlkohfcaaTotals.lean).
  GIVEN WITH THE SEED: the statements are not yours to turn. If you find one false, say at which input.
  Laid BY PROGRAM, IN A SANDBOX (cutbox-rows.mjs): the forced cells as the released guide's own fill.sh prints them over the translation 476f0422093b4449… (all of the seat's roots in one cut). By AI agents, Wed Nov 11 2026. No macro, syntax, notation, axiom, sorry.
-/
import Derived.Test.YteaamgjlkohfcaaChecked
import GoSem.Claim
import GoSem.ClaimJoined
import GoSem.ClaimMapViews
import Derived.JoinedTies
import Derived.KernelRfl
namespace Go.Proofs.Yteaamgjlkohfcaa
/- THE CELL 'sum', in the pinned program and in every row, IS THE sha256 OF THE DUMP (.gsa) THAT YteaamgjlkohfcaaProg.lean LOADS. Nothing in Lean hashes anything: it is a label: what it is worth is what the hold of that sum in a sandbox is worth. -/
noncomputable def Try.pinned : Pinned := { name := "yteaamgjlkohfcaa", sum := "476f0422093b4449bf98273664da0eca9dfd14ee936d3e0c9f795edf5e52d84f", checked := Try.checked }
namespace Rows
def none {H : Type} : Left H := { results := [], args := [] }

/-- 'sheavelaw10.FramesChecks': WHATEVER THE INPUT: true; the input reads as it did. -/
def framesChecksSpec : ChangeSpec := { name := "framesChecks", fn := fun _ => fun
  | [d] => { results := [.lit (.bool true)], args := [d] }
  | _ => none }
def framesChecksRow : OpenClaim := { program := "yteaamgjlkohfcaa", sum := "476f0422093b4449bf98273664da0eca9dfd14ee936d3e0c9f795edf5e52d84f", func := "sheave/sheavelaw10.FramesChecks", spec := "framesChecks", unfollowed := true, recurses := true, apart := false }
def FramesChecksSaid : Prop := framesChecksRow.holds Try.pinned (OpenSpec.ofChange framesChecksSpec)

/-- ITS FALSE NEIGHBOUR: 'it returns false'. Refute it at one input. -/
def framesChecksWrong : ChangeSpec := { name := "framesChecks", fn := fun _ => fun
  | [d] => { results := [.lit (.bool false)], args := [d] }
  | _ => none }
def FramesChecksWrongFalsely : Prop := framesChecksRow.holds Try.pinned (OpenSpec.ofChange framesChecksWrong)

/-- 'sheavelaw10.FramesWrites': WHATEVER THE INPUT: true; the input reads as it did. -/
def framesWritesSpec : ChangeSpec := { name := "framesWrites", fn := fun _ => fun
  | [d] => { results := [.lit (.bool true)], args := [d] }
  | _ => none }
def framesWritesRow : OpenClaim := { program := "yteaamgjlkohfcaa", sum := "476f0422093b4449bf98273664da0eca9dfd14ee936d3e0c9f795edf5e52d84f", func := "sheave/sheavelaw10.FramesWrites", spec := "framesWrites", unfollowed := true, recurses := true, apart := false }
def FramesWritesSaid : Prop := framesWritesRow.holds Try.pinned (OpenSpec.ofChange framesWritesSpec)

/-- ITS FALSE NEIGHBOUR: 'it returns false'. Refute it at one input. -/
def framesWritesWrong : ChangeSpec := { name := "framesWrites", fn := fun _ => fun
  | [d] => { results := [.lit (.bool false)], args := [d] }
  | _ => none }
def FramesWritesWrongFalsely : Prop := framesWritesRow.holds Try.pinned (OpenSpec.ofChange framesWritesWrong)

/-- 'sheavelaw10.FramesReads': WHATEVER THE INPUT: true; the input reads as it did. -/
def framesReadsSpec : ChangeSpec := { name := "framesReads", fn := fun _ => fun
  | [d] => { results := [.lit (.bool true)], args := [d] }
  | _ => none }
def framesReadsRow : OpenClaim := { program := "yteaamgjlkohfcaa", sum := "476f0422093b4449bf98273664da0eca9dfd14ee936d3e0c9f795edf5e52d84f", func := "sheave/sheavelaw10.FramesReads", spec := "framesReads", unfollowed := true, recurses := true, apart := false }
def FramesReadsSaid : Prop := framesReadsRow.holds Try.pinned (OpenSpec.ofChange framesReadsSpec)

/-- ITS FALSE NEIGHBOUR: 'it returns false'. Refute it at one input. -/
def framesReadsWrong : ChangeSpec := { name := "framesReads", fn := fun _ => fun
  | [d] => { results := [.lit (.bool false)], args := [d] }
  | _ => none }
def FramesReadsWrongFalsely : Prop := framesReadsRow.holds Try.pinned (OpenSpec.ofChange framesReadsWrong)

/-- 'sheavelaw10.FramesBack': WHATEVER THE INPUT: true; the input reads as it did. -/
def framesBackSpec : ChangeSpec := { name := "framesBack", fn := fun _ => fun
  | [d1, d2] => { results := [.lit (.bool true)], args := [d1, d2] }
  | _ => none }
def framesBackRow : OpenClaim := { program := "yteaamgjlkohfcaa", sum := "476f0422093b4449bf98273664da0eca9dfd14ee936d3e0c9f795edf5e52d84f", func := "sheave/sheavelaw10.FramesBack", spec := "framesBack", unfollowed := true, recurses := true, apart := false }
def FramesBackSaid : Prop := framesBackRow.holds Try.pinned (OpenSpec.ofChange framesBackSpec)

/-- ITS FALSE NEIGHBOUR: 'it returns false'. Refute it at one input. -/
def framesBackWrong : ChangeSpec := { name := "framesBack", fn := fun _ => fun
  | [d1, d2] => { results := [.lit (.bool false)], args := [d1, d2] }
  | _ => none }
def FramesBackWrongFalsely : Prop := framesBackRow.holds Try.pinned (OpenSpec.ofChange framesBackWrong)

/-- 'sheavelaw10.FramesJoin': WHATEVER THE INPUT: true; the input reads as it did. -/
def framesJoinSpec : ChangeSpec := { name := "framesJoin", fn := fun _ => fun
  | [d1, d2] => { results := [.lit (.bool true)], args := [d1, d2] }
  | _ => none }
def framesJoinRow : OpenClaim := { program := "yteaamgjlkohfcaa", sum := "476f0422093b4449bf98273664da0eca9dfd14ee936d3e0c9f795edf5e52d84f", func := "sheave/sheavelaw10.FramesJoin", spec := "framesJoin", unfollowed := true, recurses := true, apart := false }
def FramesJoinSaid : Prop := framesJoinRow.holds Try.pinned (OpenSpec.ofChange framesJoinSpec)

/-- ITS FALSE NEIGHBOUR: 'it returns false'. Refute it at one input. -/
def framesJoinWrong : ChangeSpec := { name := "framesJoin", fn := fun _ => fun
  | [d1, d2] => { results := [.lit (.bool false)], args := [d1, d2] }
  | _ => none }
def FramesJoinWrongFalsely : Prop := framesJoinRow.holds Try.pinned (OpenSpec.ofChange framesJoinWrong)

/-- 'sheavelaw10.FramesCuts': WHATEVER THE INPUT: true; the input reads as it did. -/
def framesCutsSpec : ChangeSpec := { name := "framesCuts", fn := fun _ => fun
  | [d1, d2] => { results := [.lit (.bool true)], args := [d1, d2] }
  | _ => none }
def framesCutsRow : OpenClaim := { program := "yteaamgjlkohfcaa", sum := "476f0422093b4449bf98273664da0eca9dfd14ee936d3e0c9f795edf5e52d84f", func := "sheave/sheavelaw10.FramesCuts", spec := "framesCuts", unfollowed := true, recurses := true, apart := false }
def FramesCutsSaid : Prop := framesCutsRow.holds Try.pinned (OpenSpec.ofChange framesCutsSpec)

/-- ITS FALSE NEIGHBOUR: 'it returns false'. Refute it at one input. -/
def framesCutsWrong : ChangeSpec := { name := "framesCuts", fn := fun _ => fun
  | [d1, d2] => { results := [.lit (.bool false)], args := [d1, d2] }
  | _ => none }
def FramesCutsWrongFalsely : Prop := framesCutsRow.holds Try.pinned (OpenSpec.ofChange framesCutsWrong)

/- THE SECOND FORM. 'bulk': how many values and letters a reading holds, each counted each time it is reached (what is shared counts as often as it is met; a slice's spare places count too). A statement '..UptoSaid' is the law's where the arguments, and the package variables that the reading takes, are together of bulk at most 1048576: NARROWER than '..Said'. Prove '..Said' where nothing that the law and all that it calls make is longer than what came in: it says more and counts as full. Else prove '..UptoSaid'. A law counts once. -/
mutual
def uptoBulk {H : Type} : DataW H → Nat
  | .lit (.string bytes) => bytes.length + 1
  | .lit _ => 1
  | .nil => 1
  | .ptr d => uptoBulk d + 1
  | .slice elems spare => uptoBulkAll elems + uptoBulkAll spare + 1
  | .agg parts => uptoBulkAll parts + 1
  | .iface _ d => uptoBulk d + 1
  | .map entries => uptoBulkEntries entries + 1
  | .held _ => 1
def uptoBulkAll {H : Type} : List (DataW H) → Nat
  | [] => 0
  | d :: r => uptoBulk d + uptoBulkAll r
def uptoBulkEntries {H : Type} : List (Lit × DataW H) → Nat
  | [] => 0
  | x :: r => uptoBulkEntry x + uptoBulkEntries r
def uptoBulkEntry {H : Type} : Lit × DataW H → Nat
  | (.string bytes, d) => bytes.length + uptoBulk d + 1
  | (_, d) => uptoBulk d + 1
 end
def uptoSmall : (H : Type) → List (DataW H) → Bool := fun _ ds => decide (uptoBulkAll ds ≤ 1048576)
def OpenSpec.upto (s : _root_.Go.ChangeSpec) : _root_.Go.OpenSpec := { _root_.Go.OpenSpec.ofChange s with cond := some uptoSmall }

/-- 'sheavelaw10.FramesChecks', WHERE WHAT IT READS IS OF BULK AT MOST 1048576: true; the input reads as it did. -/
def framesChecksUptoRow : OpenClaim := { program := "yteaamgjlkohfcaa", sum := "476f0422093b4449bf98273664da0eca9dfd14ee936d3e0c9f795edf5e52d84f", func := "sheave/sheavelaw10.FramesChecks", spec := "framesChecks", unfollowed := true, recurses := true, apart := false, narrowed := true }
def FramesChecksUptoSaid : Prop := framesChecksUptoRow.holds Try.pinned (OpenSpec.upto framesChecksSpec)

/-- 'sheavelaw10.FramesWrites', WHERE WHAT IT READS IS OF BULK AT MOST 1048576: true; the input reads as it did. -/
def framesWritesUptoRow : OpenClaim := { program := "yteaamgjlkohfcaa", sum := "476f0422093b4449bf98273664da0eca9dfd14ee936d3e0c9f795edf5e52d84f", func := "sheave/sheavelaw10.FramesWrites", spec := "framesWrites", unfollowed := true, recurses := true, apart := false, narrowed := true }
def FramesWritesUptoSaid : Prop := framesWritesUptoRow.holds Try.pinned (OpenSpec.upto framesWritesSpec)

/-- 'sheavelaw10.FramesReads', WHERE WHAT IT READS IS OF BULK AT MOST 1048576: true; the input reads as it did. -/
def framesReadsUptoRow : OpenClaim := { program := "yteaamgjlkohfcaa", sum := "476f0422093b4449bf98273664da0eca9dfd14ee936d3e0c9f795edf5e52d84f", func := "sheave/sheavelaw10.FramesReads", spec := "framesReads", unfollowed := true, recurses := true, apart := false, narrowed := true }
def FramesReadsUptoSaid : Prop := framesReadsUptoRow.holds Try.pinned (OpenSpec.upto framesReadsSpec)

/-- 'sheavelaw10.FramesBack', WHERE WHAT IT READS IS OF BULK AT MOST 1048576: true; the input reads as it did. -/
def framesBackUptoRow : OpenClaim := { program := "yteaamgjlkohfcaa", sum := "476f0422093b4449bf98273664da0eca9dfd14ee936d3e0c9f795edf5e52d84f", func := "sheave/sheavelaw10.FramesBack", spec := "framesBack", unfollowed := true, recurses := true, apart := false, narrowed := true }
def FramesBackUptoSaid : Prop := framesBackUptoRow.holds Try.pinned (OpenSpec.upto framesBackSpec)

/-- 'sheavelaw10.FramesJoin', WHERE WHAT IT READS IS OF BULK AT MOST 1048576: true; the input reads as it did. -/
def framesJoinUptoRow : OpenClaim := { program := "yteaamgjlkohfcaa", sum := "476f0422093b4449bf98273664da0eca9dfd14ee936d3e0c9f795edf5e52d84f", func := "sheave/sheavelaw10.FramesJoin", spec := "framesJoin", unfollowed := true, recurses := true, apart := false, narrowed := true }
def FramesJoinUptoSaid : Prop := framesJoinUptoRow.holds Try.pinned (OpenSpec.upto framesJoinSpec)

/-- 'sheavelaw10.FramesCuts', WHERE WHAT IT READS IS OF BULK AT MOST 1048576: true; the input reads as it did. -/
def framesCutsUptoRow : OpenClaim := { program := "yteaamgjlkohfcaa", sum := "476f0422093b4449bf98273664da0eca9dfd14ee936d3e0c9f795edf5e52d84f", func := "sheave/sheavelaw10.FramesCuts", spec := "framesCuts", unfollowed := true, recurses := true, apart := false, narrowed := true }
def FramesCutsUptoSaid : Prop := framesCutsUptoRow.holds Try.pinned (OpenSpec.upto framesCutsSpec)

end Rows
end Go.Proofs.Yteaamgjlkohfcaa
