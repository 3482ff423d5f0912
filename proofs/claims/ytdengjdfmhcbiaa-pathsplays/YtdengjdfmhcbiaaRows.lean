/-
  No cell of these rows narrows 'for every input' (looked for: loops, veiled, ifaces, maps, wideKeys, modest, calm, conditions, laid).
  DERIVED. THE GIVEN ROWS OF THIS SEAT. 4 by the template 'for every input the law returns true; each argument reads behind the call as it read before'; 0 by the template 'total and deterministic' (their statements: YtdengjdfmhcbiaaTotals.lean).
  GIVEN WITH THE SEED: the statements are not yours to turn. If you find one false, say at which input.
  Laid BY PROGRAM, IN A SANDBOX (cutbox-rows.mjs): the forced cells as the released guide's own fill.sh prints them over the translation d70a5b0a05635ac1… (all of the seat's roots in one cut). By AI agents, Wed Nov 11 2026. No macro, syntax, notation, axiom, sorry.
-/
import Derived.Test.YtdengjdfmhcbiaaChecked
import GoSem.Claim
import GoSem.ClaimJoined
import GoSem.ClaimMapViews
import Derived.JoinedTies
import Derived.KernelRfl
namespace Go.Proofs.Ytdengjdfmhcbiaa
/- THE CELL 'sum', in the pinned program and in every row, IS THE sha256 OF THE DUMP (.gsa) THAT YtdengjdfmhcbiaaProg.lean LOADS. Nothing in Lean hashes anything: it is a label: what it is worth is what the hold of that sum in a sandbox is worth. -/
noncomputable def Try.pinned : Pinned := { name := "ytdengjdfmhcbiaa", sum := "d70a5b0a05635ac14b21a9576d057a6fec53aa4a0d55403f83a85b66bb8e79b8", checked := Try.checked }
namespace Rows
def none {H : Type} : Left H := { results := [], args := [] }

/-- 'sheavelaw20.PathsPlays': WHATEVER THE INPUT: true; the input reads as it did. -/
def pathsPlaysSpec : ChangeSpec := { name := "pathsPlays", fn := fun _ => fun
  | [d] => { results := [.lit (.bool true)], args := [d] }
  | _ => none }
def pathsPlaysRow : OpenClaim := { program := "ytdengjdfmhcbiaa", sum := "d70a5b0a05635ac14b21a9576d057a6fec53aa4a0d55403f83a85b66bb8e79b8", func := "sheave/sheavelaw20.PathsPlays", spec := "pathsPlays", apart := false }
def PathsPlaysSaid : Prop := pathsPlaysRow.holds Try.pinned (OpenSpec.ofChange pathsPlaysSpec)

/-- ITS FALSE NEIGHBOUR: 'it returns false'. Refute it at one input. -/
def pathsPlaysWrong : ChangeSpec := { name := "pathsPlays", fn := fun _ => fun
  | [d] => { results := [.lit (.bool false)], args := [d] }
  | _ => none }
def PathsPlaysWrongFalsely : Prop := pathsPlaysRow.holds Try.pinned (OpenSpec.ofChange pathsPlaysWrong)

/-- 'sheavelaw20.PathsOnce': WHATEVER THE INPUT: true; the input reads as it did. -/
def pathsOnceSpec : ChangeSpec := { name := "pathsOnce", fn := fun _ => fun
  | [d] => { results := [.lit (.bool true)], args := [d] }
  | _ => none }
def pathsOnceRow : OpenClaim := { program := "ytdengjdfmhcbiaa", sum := "d70a5b0a05635ac14b21a9576d057a6fec53aa4a0d55403f83a85b66bb8e79b8", func := "sheave/sheavelaw20.PathsOnce", spec := "pathsOnce", apart := false }
def PathsOnceSaid : Prop := pathsOnceRow.holds Try.pinned (OpenSpec.ofChange pathsOnceSpec)

/-- ITS FALSE NEIGHBOUR: 'it returns false'. Refute it at one input. -/
def pathsOnceWrong : ChangeSpec := { name := "pathsOnce", fn := fun _ => fun
  | [d] => { results := [.lit (.bool false)], args := [d] }
  | _ => none }
def PathsOnceWrongFalsely : Prop := pathsOnceRow.holds Try.pinned (OpenSpec.ofChange pathsOnceWrong)

/-- 'sheavelaw20.PathsTries': WHATEVER THE INPUT: true; the input reads as it did. -/
def pathsTriesSpec : ChangeSpec := { name := "pathsTries", fn := fun _ => fun
  | [d1, d2, d3] => { results := [.lit (.bool true)], args := [d1, d2, d3] }
  | _ => none }
def pathsTriesRow : OpenClaim := { program := "ytdengjdfmhcbiaa", sum := "d70a5b0a05635ac14b21a9576d057a6fec53aa4a0d55403f83a85b66bb8e79b8", func := "sheave/sheavelaw20.PathsTries", spec := "pathsTries", apart := false }
def PathsTriesSaid : Prop := pathsTriesRow.holds Try.pinned (OpenSpec.ofChange pathsTriesSpec)

/-- ITS FALSE NEIGHBOUR: 'it returns false'. Refute it at one input. -/
def pathsTriesWrong : ChangeSpec := { name := "pathsTries", fn := fun _ => fun
  | [d1, d2, d3] => { results := [.lit (.bool false)], args := [d1, d2, d3] }
  | _ => none }
def PathsTriesWrongFalsely : Prop := pathsTriesRow.holds Try.pinned (OpenSpec.ofChange pathsTriesWrong)

/-- 'sheavelaw20.PathsEstimates': WHATEVER THE INPUT: true; the input reads as it did. -/
def pathsEstimatesSpec : ChangeSpec := { name := "pathsEstimates", fn := fun _ => fun
  | [d] => { results := [.lit (.bool true)], args := [d] }
  | _ => none }
def pathsEstimatesRow : OpenClaim := { program := "ytdengjdfmhcbiaa", sum := "d70a5b0a05635ac14b21a9576d057a6fec53aa4a0d55403f83a85b66bb8e79b8", func := "sheave/sheavelaw20.PathsEstimates", spec := "pathsEstimates", apart := false }
def PathsEstimatesSaid : Prop := pathsEstimatesRow.holds Try.pinned (OpenSpec.ofChange pathsEstimatesSpec)

/-- ITS FALSE NEIGHBOUR: 'it returns false'. Refute it at one input. -/
def pathsEstimatesWrong : ChangeSpec := { name := "pathsEstimates", fn := fun _ => fun
  | [d] => { results := [.lit (.bool false)], args := [d] }
  | _ => none }
def PathsEstimatesWrongFalsely : Prop := pathsEstimatesRow.holds Try.pinned (OpenSpec.ofChange pathsEstimatesWrong)

/- THE SECOND FORM. 'bulk': how many values and letters a reading holds, each counted each time it is reached (what is shared counts as often as it is met; a slice's spare places count too). A statement '..UptoSaid' is the law's where the arguments, and the package variables that the reading takes, are together of bulk at most 1048576: NARROWER than '..Said'. Prove '..Said' where nothing that the law and all that it calls make is longer than what came in: it says more and counts as full. Else prove '..UptoSaid'. A law counts once. -/
mutual
def uptoBulk {H : Type} : DataW H → Nat
  | .lit (.string bytes) => bytes.length + 1
  | .lit _ => 1
  | .nil => 1
  | .ptr d => uptoBulk d + 1
  | .slice elems spare => uptoBulkAll elems + uptoBulkAll spare + 1
  | .agg parts => uptoBulkAll parts + 1
  | .iface _ d => uptoBulk d + 1
  | .map entries => uptoBulkEntries entries + 1
  | .held _ => 1
def uptoBulkAll {H : Type} : List (DataW H) → Nat
  | [] => 0
  | d :: r => uptoBulk d + uptoBulkAll r
def uptoBulkEntries {H : Type} : List (Lit × DataW H) → Nat
  | [] => 0
  | x :: r => uptoBulkEntry x + uptoBulkEntries r
def uptoBulkEntry {H : Type} : Lit × DataW H → Nat
  | (.string bytes, d) => bytes.length + uptoBulk d + 1
  | (_, d) => uptoBulk d + 1
 end
def uptoSmall : (H : Type) → List (DataW H) → Bool := fun _ ds => decide (uptoBulkAll ds ≤ 1048576)
def OpenSpec.upto (s : _root_.Go.ChangeSpec) : _root_.Go.OpenSpec := { _root_.Go.OpenSpec.ofChange s with cond := some uptoSmall }

/-- 'sheavelaw20.PathsPlays', WHERE WHAT IT READS IS OF BULK AT MOST 1048576: true; the input reads as it did. -/
def pathsPlaysUptoRow : OpenClaim := { program := "ytdengjdfmhcbiaa", sum := "d70a5b0a05635ac14b21a9576d057a6fec53aa4a0d55403f83a85b66bb8e79b8", func := "sheave/sheavelaw20.PathsPlays", spec := "pathsPlays", apart := false, narrowed := true }
def PathsPlaysUptoSaid : Prop := pathsPlaysUptoRow.holds Try.pinned (OpenSpec.upto pathsPlaysSpec)

/-- 'sheavelaw20.PathsOnce', WHERE WHAT IT READS IS OF BULK AT MOST 1048576: true; the input reads as it did. -/
def pathsOnceUptoRow : OpenClaim := { program := "ytdengjdfmhcbiaa", sum := "d70a5b0a05635ac14b21a9576d057a6fec53aa4a0d55403f83a85b66bb8e79b8", func := "sheave/sheavelaw20.PathsOnce", spec := "pathsOnce", apart := false, narrowed := true }
def PathsOnceUptoSaid : Prop := pathsOnceUptoRow.holds Try.pinned (OpenSpec.upto pathsOnceSpec)

/-- 'sheavelaw20.PathsTries', WHERE WHAT IT READS IS OF BULK AT MOST 1048576: true; the input reads as it did. -/
def pathsTriesUptoRow : OpenClaim := { program := "ytdengjdfmhcbiaa", sum := "d70a5b0a05635ac14b21a9576d057a6fec53aa4a0d55403f83a85b66bb8e79b8", func := "sheave/sheavelaw20.PathsTries", spec := "pathsTries", apart := false, narrowed := true }
def PathsTriesUptoSaid : Prop := pathsTriesUptoRow.holds Try.pinned (OpenSpec.upto pathsTriesSpec)

/-- 'sheavelaw20.PathsEstimates', WHERE WHAT IT READS IS OF BULK AT MOST 1048576: true; the input reads as it did. -/
def pathsEstimatesUptoRow : OpenClaim := { program := "ytdengjdfmhcbiaa", sum := "d70a5b0a05635ac14b21a9576d057a6fec53aa4a0d55403f83a85b66bb8e79b8", func := "sheave/sheavelaw20.PathsEstimates", spec := "pathsEstimates", apart := false, narrowed := true }
def PathsEstimatesUptoSaid : Prop := pathsEstimatesUptoRow.holds Try.pinned (OpenSpec.upto pathsEstimatesSpec)

end Rows
end Go.Proofs.Ytdengjdfmhcbiaa
