/-
  No cell of these rows narrows 'for every input' (looked for: loops, veiled, ifaces, maps, wideKeys, modest, calm, conditions, laid).
  DERIVED. THE GIVEN ROWS OF THIS SEAT. 4 by the template 'for every input the law returns true; each argument reads behind the call as it read before'; 0 by the template 'total and deterministic' (their statements: YtcjahbdlaojnoaaTotals.lean).
  GIVEN WITH THE SEED: the statements are not yours to turn. If you find one false, say at which input.
  Laid BY PROGRAM, IN A SANDBOX (cutbox-rows.mjs): the forced cells as the released guide's own fill.sh prints them over the translation fb2442342a22d53c… (all of the seat's roots in one cut). By AI agents, Wed Nov 11 2026. No macro, syntax, notation, axiom, sorry.
-/
import Derived.Test.YtcjahbdlaojnoaaChecked
import GoSem.Claim
import GoSem.ClaimJoined
import GoSem.ClaimMapViews
import Derived.JoinedTies
import Derived.KernelRfl
namespace Go.Proofs.Ytcjahbdlaojnoaa
/- THE CELL 'sum', in the pinned program and in every row, IS THE sha256 OF THE DUMP (.gsa) THAT YtcjahbdlaojnoaaProg.lean LOADS. Nothing in Lean hashes anything: it is a label: what it is worth is what the hold of that sum in a sandbox is worth. -/
noncomputable def Try.pinned : Pinned := { name := "ytcjahbdlaojnoaa", sum := "fb2442342a22d53cb198c35edb191e07d9b8447ebe9f2187b127b3d9917e89b5", checked := Try.checked }
namespace Rows
def none {H : Type} : Left H := { results := [], args := [] }

/-- 'sheavelaw19.InboxPlays': WHATEVER THE INPUT: true; the input reads as it did. -/
def inboxPlaysSpec : ChangeSpec := { name := "inboxPlays", fn := fun _ => fun
  | [d1, d2] => { results := [.lit (.bool true)], args := [d1, d2] }
  | _ => none }
def inboxPlaysRow : OpenClaim := { program := "ytcjahbdlaojnoaa", sum := "fb2442342a22d53cb198c35edb191e07d9b8447ebe9f2187b127b3d9917e89b5", func := "sheave/sheavelaw19.InboxPlays", spec := "inboxPlays", inPlace := ["slices.overlaps[sheave/api.Range]"], unfollowed := true, recurses := true, apart := false }
def InboxPlaysSaid : Prop := inboxPlaysRow.holds Try.pinned (OpenSpec.ofChange inboxPlaysSpec)

/-- ITS FALSE NEIGHBOUR: 'it returns false'. Refute it at one input. -/
def inboxPlaysWrong : ChangeSpec := { name := "inboxPlays", fn := fun _ => fun
  | [d1, d2] => { results := [.lit (.bool false)], args := [d1, d2] }
  | _ => none }
def InboxPlaysWrongFalsely : Prop := inboxPlaysRow.holds Try.pinned (OpenSpec.ofChange inboxPlaysWrong)

/-- 'sheavelaw19.InboxOrder': WHATEVER THE INPUT: true; the input reads as it did. -/
def inboxOrderSpec : ChangeSpec := { name := "inboxOrder", fn := fun _ => fun
  | [d1, d2, d3] => { results := [.lit (.bool true)], args := [d1, d2, d3] }
  | _ => none }
def inboxOrderRow : OpenClaim := { program := "ytcjahbdlaojnoaa", sum := "fb2442342a22d53cb198c35edb191e07d9b8447ebe9f2187b127b3d9917e89b5", func := "sheave/sheavelaw19.InboxOrder", spec := "inboxOrder", inPlace := ["slices.overlaps[sheave/api.Range]"], unfollowed := true, recurses := true, apart := false }
def InboxOrderSaid : Prop := inboxOrderRow.holds Try.pinned (OpenSpec.ofChange inboxOrderSpec)

/-- ITS FALSE NEIGHBOUR: 'it returns false'. Refute it at one input. -/
def inboxOrderWrong : ChangeSpec := { name := "inboxOrder", fn := fun _ => fun
  | [d1, d2, d3] => { results := [.lit (.bool false)], args := [d1, d2, d3] }
  | _ => none }
def InboxOrderWrongFalsely : Prop := inboxOrderRow.holds Try.pinned (OpenSpec.ofChange inboxOrderWrong)

/-- 'sheavelaw19.InboxBounds': WHATEVER THE INPUT: true; the input reads as it did. -/
def inboxBoundsSpec : ChangeSpec := { name := "inboxBounds", fn := fun _ => fun
  | [d1, d2] => { results := [.lit (.bool true)], args := [d1, d2] }
  | _ => none }
def inboxBoundsRow : OpenClaim := { program := "ytcjahbdlaojnoaa", sum := "fb2442342a22d53cb198c35edb191e07d9b8447ebe9f2187b127b3d9917e89b5", func := "sheave/sheavelaw19.InboxBounds", spec := "inboxBounds", inPlace := ["slices.overlaps[sheave/api.Range]"], unfollowed := true, recurses := true, apart := false }
def InboxBoundsSaid : Prop := inboxBoundsRow.holds Try.pinned (OpenSpec.ofChange inboxBoundsSpec)

/-- ITS FALSE NEIGHBOUR: 'it returns false'. Refute it at one input. -/
def inboxBoundsWrong : ChangeSpec := { name := "inboxBounds", fn := fun _ => fun
  | [d1, d2] => { results := [.lit (.bool false)], args := [d1, d2] }
  | _ => none }
def InboxBoundsWrongFalsely : Prop := inboxBoundsRow.holds Try.pinned (OpenSpec.ofChange inboxBoundsWrong)

/-- 'sheavelaw19.InboxCounts': WHATEVER THE INPUT: true; the input reads as it did. -/
def inboxCountsSpec : ChangeSpec := { name := "inboxCounts", fn := fun _ => fun
  | [d] => { results := [.lit (.bool true)], args := [d] }
  | _ => none }
def inboxCountsRow : OpenClaim := { program := "ytcjahbdlaojnoaa", sum := "fb2442342a22d53cb198c35edb191e07d9b8447ebe9f2187b127b3d9917e89b5", func := "sheave/sheavelaw19.InboxCounts", spec := "inboxCounts", inPlace := ["slices.overlaps[sheave/api.Range]"], unfollowed := true, recurses := true, apart := false }
def InboxCountsSaid : Prop := inboxCountsRow.holds Try.pinned (OpenSpec.ofChange inboxCountsSpec)

/-- ITS FALSE NEIGHBOUR: 'it returns false'. Refute it at one input. -/
def inboxCountsWrong : ChangeSpec := { name := "inboxCounts", fn := fun _ => fun
  | [d] => { results := [.lit (.bool false)], args := [d] }
  | _ => none }
def InboxCountsWrongFalsely : Prop := inboxCountsRow.holds Try.pinned (OpenSpec.ofChange inboxCountsWrong)

/- THE SECOND FORM. 'bulk': how many values and letters a reading holds, each counted each time it is reached (what is shared counts as often as it is met; a slice's spare places count too). A statement '..UptoSaid' is the law's where the arguments, and the package variables that the reading takes, are together of bulk at most 1048576: NARROWER than '..Said'. Prove '..Said' where nothing that the law and all that it calls make is longer than what came in: it says more and counts as full. Else prove '..UptoSaid'. A law counts once. -/
mutual
def uptoBulk {H : Type} : DataW H → Nat
  | .lit (.string bytes) => bytes.length + 1
  | .lit _ => 1
  | .nil => 1
  | .ptr d => uptoBulk d + 1
  | .slice elems spare => uptoBulkAll elems + uptoBulkAll spare + 1
  | .agg parts => uptoBulkAll parts + 1
  | .iface _ d => uptoBulk d + 1
  | .map entries => uptoBulkEntries entries + 1
  | .held _ => 1
def uptoBulkAll {H : Type} : List (DataW H) → Nat
  | [] => 0
  | d :: r => uptoBulk d + uptoBulkAll r
def uptoBulkEntries {H : Type} : List (Lit × DataW H) → Nat
  | [] => 0
  | x :: r => uptoBulkEntry x + uptoBulkEntries r
def uptoBulkEntry {H : Type} : Lit × DataW H → Nat
  | (.string bytes, d) => bytes.length + uptoBulk d + 1
  | (_, d) => uptoBulk d + 1
 end
def uptoSmall : (H : Type) → List (DataW H) → Bool := fun _ ds => decide (uptoBulkAll ds ≤ 1048576)
def OpenSpec.upto (s : _root_.Go.ChangeSpec) : _root_.Go.OpenSpec := { _root_.Go.OpenSpec.ofChange s with cond := some uptoSmall }

/-- 'sheavelaw19.InboxPlays', WHERE WHAT IT READS IS OF BULK AT MOST 1048576: true; the input reads as it did. -/
def inboxPlaysUptoRow : OpenClaim := { program := "ytcjahbdlaojnoaa", sum := "fb2442342a22d53cb198c35edb191e07d9b8447ebe9f2187b127b3d9917e89b5", func := "sheave/sheavelaw19.InboxPlays", spec := "inboxPlays", inPlace := ["slices.overlaps[sheave/api.Range]"], unfollowed := true, recurses := true, apart := false, narrowed := true }
def InboxPlaysUptoSaid : Prop := inboxPlaysUptoRow.holds Try.pinned (OpenSpec.upto inboxPlaysSpec)

/-- 'sheavelaw19.InboxOrder', WHERE WHAT IT READS IS OF BULK AT MOST 1048576: true; the input reads as it did. -/
def inboxOrderUptoRow : OpenClaim := { program := "ytcjahbdlaojnoaa", sum := "fb2442342a22d53cb198c35edb191e07d9b8447ebe9f2187b127b3d9917e89b5", func := "sheave/sheavelaw19.InboxOrder", spec := "inboxOrder", inPlace := ["slices.overlaps[sheave/api.Range]"], unfollowed := true, recurses := true, apart := false, narrowed := true }
def InboxOrderUptoSaid : Prop := inboxOrderUptoRow.holds Try.pinned (OpenSpec.upto inboxOrderSpec)

/-- 'sheavelaw19.InboxBounds', WHERE WHAT IT READS IS OF BULK AT MOST 1048576: true; the input reads as it did. -/
def inboxBoundsUptoRow : OpenClaim := { program := "ytcjahbdlaojnoaa", sum := "fb2442342a22d53cb198c35edb191e07d9b8447ebe9f2187b127b3d9917e89b5", func := "sheave/sheavelaw19.InboxBounds", spec := "inboxBounds", inPlace := ["slices.overlaps[sheave/api.Range]"], unfollowed := true, recurses := true, apart := false, narrowed := true }
def InboxBoundsUptoSaid : Prop := inboxBoundsUptoRow.holds Try.pinned (OpenSpec.upto inboxBoundsSpec)

/-- 'sheavelaw19.InboxCounts', WHERE WHAT IT READS IS OF BULK AT MOST 1048576: true; the input reads as it did. -/
def inboxCountsUptoRow : OpenClaim := { program := "ytcjahbdlaojnoaa", sum := "fb2442342a22d53cb198c35edb191e07d9b8447ebe9f2187b127b3d9917e89b5", func := "sheave/sheavelaw19.InboxCounts", spec := "inboxCounts", inPlace := ["slices.overlaps[sheave/api.Range]"], unfollowed := true, recurses := true, apart := false, narrowed := true }
def InboxCountsUptoSaid : Prop := inboxCountsUptoRow.holds Try.pinned (OpenSpec.upto inboxCountsSpec)

end Rows
end Go.Proofs.Ytcjahbdlaojnoaa
