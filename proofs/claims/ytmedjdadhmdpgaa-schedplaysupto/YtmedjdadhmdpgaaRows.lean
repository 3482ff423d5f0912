/-
  No cell of these rows narrows 'for every input' (looked for: loops, veiled, ifaces, maps, wideKeys, modest, calm, conditions, laid).
  DERIVED. THE GIVEN ROWS OF THIS SEAT. 5 by the template 'for every input the law returns true; each argument reads behind the call as it read before'; 0 by the template 'total and deterministic' (their statements: YtmedjdadhmdpgaaTotals.lean).
  GIVEN WITH THE SEED: the statements are not yours to turn. If you find one false, say at which input.
  Laid BY PROGRAM, IN A SANDBOX (cutbox-rows.mjs): the forced cells as the released guide's own fill.sh prints them over the translation 7de50d67cccfb03a… (all of the seat's roots in one cut). By AI agents, Wed Nov 11 2026. No macro, syntax, notation, axiom, sorry.
-/
import Derived.Test.YtmedjdadhmdpgaaChecked
import GoSem.Claim
import GoSem.ClaimJoined
import GoSem.ClaimMapViews
import Derived.JoinedTies
import Derived.KernelRfl
namespace Go.Proofs.Ytmedjdadhmdpgaa
/- THE CELL 'sum', in the pinned program and in every row, IS THE sha256 OF THE DUMP (.gsa) THAT YtmedjdadhmdpgaaProg.lean LOADS. Nothing in Lean hashes anything: it is a label: what it is worth is what the hold of that sum in a sandbox is worth. -/
noncomputable def Try.pinned : Pinned := { name := "ytmedjdadhmdpgaa", sum := "7de50d67cccfb03a87d80cdfc84dcb25f9220c7a7f98e137ac25257931824619", checked := Try.checked }
namespace Rows
def none {H : Type} : Left H := { results := [], args := [] }

/-- 'sheavelaw21.SchedPlays': WHATEVER THE INPUT: true; the input reads as it did. -/
def schedPlaysSpec : ChangeSpec := { name := "schedPlays", fn := fun _ => fun
  | [d1, d2] => { results := [.lit (.bool true)], args := [d1, d2] }
  | _ => none }
def schedPlaysRow : OpenClaim := { program := "ytmedjdadhmdpgaa", sum := "7de50d67cccfb03a87d80cdfc84dcb25f9220c7a7f98e137ac25257931824619", func := "sheave/sheavelaw21.SchedPlays", spec := "schedPlays", unfollowed := true, recurses := true, apart := false }
def SchedPlaysSaid : Prop := schedPlaysRow.holds Try.pinned (OpenSpec.ofChange schedPlaysSpec)

/-- ITS FALSE NEIGHBOUR: 'it returns false'. Refute it at one input. -/
def schedPlaysWrong : ChangeSpec := { name := "schedPlays", fn := fun _ => fun
  | [d1, d2] => { results := [.lit (.bool false)], args := [d1, d2] }
  | _ => none }
def SchedPlaysWrongFalsely : Prop := schedPlaysRow.holds Try.pinned (OpenSpec.ofChange schedPlaysWrong)

/-- 'sheavelaw21.SchedOnce': WHATEVER THE INPUT: true; the input reads as it did. -/
def schedOnceSpec : ChangeSpec := { name := "schedOnce", fn := fun _ => fun
  | [d] => { results := [.lit (.bool true)], args := [d] }
  | _ => none }
def schedOnceRow : OpenClaim := { program := "ytmedjdadhmdpgaa", sum := "7de50d67cccfb03a87d80cdfc84dcb25f9220c7a7f98e137ac25257931824619", func := "sheave/sheavelaw21.SchedOnce", spec := "schedOnce", unfollowed := true, recurses := true, apart := false }
def SchedOnceSaid : Prop := schedOnceRow.holds Try.pinned (OpenSpec.ofChange schedOnceSpec)

/-- ITS FALSE NEIGHBOUR: 'it returns false'. Refute it at one input. -/
def schedOnceWrong : ChangeSpec := { name := "schedOnce", fn := fun _ => fun
  | [d] => { results := [.lit (.bool false)], args := [d] }
  | _ => none }
def SchedOnceWrongFalsely : Prop := schedOnceRow.holds Try.pinned (OpenSpec.ofChange schedOnceWrong)

/-- 'sheavelaw21.SchedTurns': WHATEVER THE INPUT: true; the input reads as it did. -/
def schedTurnsSpec : ChangeSpec := { name := "schedTurns", fn := fun _ => fun
  | [d1, d2] => { results := [.lit (.bool true)], args := [d1, d2] }
  | _ => none }
def schedTurnsRow : OpenClaim := { program := "ytmedjdadhmdpgaa", sum := "7de50d67cccfb03a87d80cdfc84dcb25f9220c7a7f98e137ac25257931824619", func := "sheave/sheavelaw21.SchedTurns", spec := "schedTurns", unfollowed := true, recurses := true, apart := false }
def SchedTurnsSaid : Prop := schedTurnsRow.holds Try.pinned (OpenSpec.ofChange schedTurnsSpec)

/-- ITS FALSE NEIGHBOUR: 'it returns false'. Refute it at one input. -/
def schedTurnsWrong : ChangeSpec := { name := "schedTurns", fn := fun _ => fun
  | [d1, d2] => { results := [.lit (.bool false)], args := [d1, d2] }
  | _ => none }
def SchedTurnsWrongFalsely : Prop := schedTurnsRow.holds Try.pinned (OpenSpec.ofChange schedTurnsWrong)

/-- 'sheavelaw21.SchedGrows': WHATEVER THE INPUT: true; the input reads as it did. -/
def schedGrowsSpec : ChangeSpec := { name := "schedGrows", fn := fun _ => fun
  | [d] => { results := [.lit (.bool true)], args := [d] }
  | _ => none }
def schedGrowsRow : OpenClaim := { program := "ytmedjdadhmdpgaa", sum := "7de50d67cccfb03a87d80cdfc84dcb25f9220c7a7f98e137ac25257931824619", func := "sheave/sheavelaw21.SchedGrows", spec := "schedGrows", unfollowed := true, recurses := true, apart := false }
def SchedGrowsSaid : Prop := schedGrowsRow.holds Try.pinned (OpenSpec.ofChange schedGrowsSpec)

/-- ITS FALSE NEIGHBOUR: 'it returns false'. Refute it at one input. -/
def schedGrowsWrong : ChangeSpec := { name := "schedGrows", fn := fun _ => fun
  | [d] => { results := [.lit (.bool false)], args := [d] }
  | _ => none }
def SchedGrowsWrongFalsely : Prop := schedGrowsRow.holds Try.pinned (OpenSpec.ofChange schedGrowsWrong)

/-- 'sheavelaw21.SchedFastest': WHATEVER THE INPUT: true; the input reads as it did. -/
def schedFastestSpec : ChangeSpec := { name := "schedFastest", fn := fun _ => fun
  | [d] => { results := [.lit (.bool true)], args := [d] }
  | _ => none }
def schedFastestRow : OpenClaim := { program := "ytmedjdadhmdpgaa", sum := "7de50d67cccfb03a87d80cdfc84dcb25f9220c7a7f98e137ac25257931824619", func := "sheave/sheavelaw21.SchedFastest", spec := "schedFastest", unfollowed := true, recurses := true, apart := false }
def SchedFastestSaid : Prop := schedFastestRow.holds Try.pinned (OpenSpec.ofChange schedFastestSpec)

/-- ITS FALSE NEIGHBOUR: 'it returns false'. Refute it at one input. -/
def schedFastestWrong : ChangeSpec := { name := "schedFastest", fn := fun _ => fun
  | [d] => { results := [.lit (.bool false)], args := [d] }
  | _ => none }
def SchedFastestWrongFalsely : Prop := schedFastestRow.holds Try.pinned (OpenSpec.ofChange schedFastestWrong)

/- THE SECOND FORM. 'bulk': how many values and letters a reading holds, each counted each time it is reached (what is shared counts as often as it is met; a slice's spare places count too). A statement '..UptoSaid' is the law's where the arguments, and the package variables that the reading takes, are together of bulk at most 1048576: NARROWER than '..Said'. Prove '..Said' where nothing that the law and all that it calls make is longer than what came in: it says more and counts as full. Else prove '..UptoSaid'. A law counts once. -/
mutual
def uptoBulk {H : Type} : DataW H → Nat
  | .lit (.string bytes) => bytes.length + 1
  | .lit _ => 1
  | .nil => 1
  | .ptr d => uptoBulk d + 1
  | .slice elems spare => uptoBulkAll elems + uptoBulkAll spare + 1
  | .agg parts => uptoBulkAll parts + 1
  | .iface _ d => uptoBulk d + 1
  | .map entries => uptoBulkEntries entries + 1
  | .held _ => 1
def uptoBulkAll {H : Type} : List (DataW H) → Nat
  | [] => 0
  | d :: r => uptoBulk d + uptoBulkAll r
def uptoBulkEntries {H : Type} : List (Lit × DataW H) → Nat
  | [] => 0
  | x :: r => uptoBulkEntry x + uptoBulkEntries r
def uptoBulkEntry {H : Type} : Lit × DataW H → Nat
  | (.string bytes, d) => bytes.length + uptoBulk d + 1
  | (_, d) => uptoBulk d + 1
 end
def uptoSmall : (H : Type) → List (DataW H) → Bool := fun _ ds => decide (uptoBulkAll ds ≤ 1048576)
def OpenSpec.upto (s : _root_.Go.ChangeSpec) : _root_.Go.OpenSpec := { _root_.Go.OpenSpec.ofChange s with cond := some uptoSmall }

/-- 'sheavelaw21.SchedPlays', WHERE WHAT IT READS IS OF BULK AT MOST 1048576: true; the input reads as it did. -/
def schedPlaysUptoRow : OpenClaim := { program := "ytmedjdadhmdpgaa", sum := "7de50d67cccfb03a87d80cdfc84dcb25f9220c7a7f98e137ac25257931824619", func := "sheave/sheavelaw21.SchedPlays", spec := "schedPlays", unfollowed := true, recurses := true, apart := false, narrowed := true }
def SchedPlaysUptoSaid : Prop := schedPlaysUptoRow.holds Try.pinned (OpenSpec.upto schedPlaysSpec)

/-- 'sheavelaw21.SchedOnce', WHERE WHAT IT READS IS OF BULK AT MOST 1048576: true; the input reads as it did. -/
def schedOnceUptoRow : OpenClaim := { program := "ytmedjdadhmdpgaa", sum := "7de50d67cccfb03a87d80cdfc84dcb25f9220c7a7f98e137ac25257931824619", func := "sheave/sheavelaw21.SchedOnce", spec := "schedOnce", unfollowed := true, recurses := true, apart := false, narrowed := true }
def SchedOnceUptoSaid : Prop := schedOnceUptoRow.holds Try.pinned (OpenSpec.upto schedOnceSpec)

/-- 'sheavelaw21.SchedTurns', WHERE WHAT IT READS IS OF BULK AT MOST 1048576: true; the input reads as it did. -/
def schedTurnsUptoRow : OpenClaim := { program := "ytmedjdadhmdpgaa", sum := "7de50d67cccfb03a87d80cdfc84dcb25f9220c7a7f98e137ac25257931824619", func := "sheave/sheavelaw21.SchedTurns", spec := "schedTurns", unfollowed := true, recurses := true, apart := false, narrowed := true }
def SchedTurnsUptoSaid : Prop := schedTurnsUptoRow.holds Try.pinned (OpenSpec.upto schedTurnsSpec)

/-- 'sheavelaw21.SchedGrows', WHERE WHAT IT READS IS OF BULK AT MOST 1048576: true; the input reads as it did. -/
def schedGrowsUptoRow : OpenClaim := { program := "ytmedjdadhmdpgaa", sum := "7de50d67cccfb03a87d80cdfc84dcb25f9220c7a7f98e137ac25257931824619", func := "sheave/sheavelaw21.SchedGrows", spec := "schedGrows", unfollowed := true, recurses := true, apart := false, narrowed := true }
def SchedGrowsUptoSaid : Prop := schedGrowsUptoRow.holds Try.pinned (OpenSpec.upto schedGrowsSpec)

/-- 'sheavelaw21.SchedFastest', WHERE WHAT IT READS IS OF BULK AT MOST 1048576: true; the input reads as it did. -/
def schedFastestUptoRow : OpenClaim := { program := "ytmedjdadhmdpgaa", sum := "7de50d67cccfb03a87d80cdfc84dcb25f9220c7a7f98e137ac25257931824619", func := "sheave/sheavelaw21.SchedFastest", spec := "schedFastest", unfollowed := true, recurses := true, apart := false, narrowed := true }
def SchedFastestUptoSaid : Prop := schedFastestUptoRow.holds Try.pinned (OpenSpec.upto schedFastestSpec)

end Rows
end Go.Proofs.Ytmedjdadhmdpgaa
