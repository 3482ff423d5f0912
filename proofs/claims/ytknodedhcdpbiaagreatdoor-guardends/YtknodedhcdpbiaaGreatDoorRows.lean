/-
  NARROWER THAN 'FOR EVERY INPUT', by the rows' own cells (each row's printed sentence says how): GuardNonces: laid · GuardOnce: laid · GuardEnds: laid · GuardEpochs: laid · GuardOwn: laid.
  DERIVED. THE GIVEN ROWS OF THIS SEAT. 5 by the template 'for every input the law returns true; each argument reads behind the call as it read before'; 0 by the template 'total and deterministic' (their statements: YtknodedhcdpbiaaGreatDoorTotals.lean).
  GIVEN WITH THE SEED: the statements are not yours to turn. If you find one false, say at which input.
  Laid BY PROGRAM, IN A SANDBOX (cutbox-rows.mjs): the forced cells as the released guide's own fill.sh prints them over the translation 4f5aba74bf162c86… (all of the seat's roots in one cut). By AI agents, Wed Nov 11 2026. No macro, syntax, notation, axiom, sorry.
-/
import Derived.Test.YtknodedhcdpbiaaGreatDoorChecked
import GoSem.Claim
import GoSem.ClaimJoined
import GoSem.ClaimMapViews
import Derived.JoinedTies
import Derived.KernelRfl
namespace Go.Proofs.YtknodedhcdpbiaaGreatDoor
/- THE CELL 'sum', in the pinned program and in every row, IS THE sha256 OF THE DUMP (.gsa) THAT YtknodedhcdpbiaaGreatDoorProg.lean LOADS. Nothing in Lean hashes anything: it is a label: what it is worth is what the hold of that sum in a sandbox is worth. -/
noncomputable def Tryz.pinned : Pinned := { name := "ytknodedhcdpbiaagreatdoor", sum := "4f5aba74bf162c86ef64f283df0202c1da2c9ad3da67c9ecc58da3cf9f14d686", checked := Tryz.checked }
namespace Rows
def none {H : Type} : Left H := { results := [], args := [] }

/- WHAT THE LISTED PACKAGE-LEVEL VARIABLES READ AS WHEN THE CALL BEGINS. Each datum BY PROGRAM (the guide's laid-datum.mjs) off the statement by which the dump's own 'gosem.cut.vars' lays the variable. In a bare row this is a premise. The card (YtknodedhcdpbiaaGreatDoorCards.lean) ties it to the program's text. -/
def laid_sheave_blake_iv {H : Type} : DataW H := .agg [.lit (.int .u32 1779033703), .lit (.int .u32 3144134277), .lit (.int .u32 1013904242), .lit (.int .u32 2773480762), .lit (.int .u32 1359893119), .lit (.int .u32 2600822924), .lit (.int .u32 528734635), .lit (.int .u32 1541459225)]
def laid_sheave_blake_rows {H : Type} : DataW H := .agg [.agg [.lit (.int .u8 0), .lit (.int .u8 1), .lit (.int .u8 2), .lit (.int .u8 3), .lit (.int .u8 4), .lit (.int .u8 5), .lit (.int .u8 6), .lit (.int .u8 7), .lit (.int .u8 8), .lit (.int .u8 9), .lit (.int .u8 10), .lit (.int .u8 11), .lit (.int .u8 12), .lit (.int .u8 13), .lit (.int .u8 14), .lit (.int .u8 15)], .agg [.lit (.int .u8 14), .lit (.int .u8 10), .lit (.int .u8 4), .lit (.int .u8 8), .lit (.int .u8 9), .lit (.int .u8 15), .lit (.int .u8 13), .lit (.int .u8 6), .lit (.int .u8 1), .lit (.int .u8 12), .lit (.int .u8 0), .lit (.int .u8 2), .lit (.int .u8 11), .lit (.int .u8 7), .lit (.int .u8 5), .lit (.int .u8 3)], .agg [.lit (.int .u8 11), .lit (.int .u8 8), .lit (.int .u8 12), .lit (.int .u8 0), .lit (.int .u8 5), .lit (.int .u8 2), .lit (.int .u8 15), .lit (.int .u8 13), .lit (.int .u8 10), .lit (.int .u8 14), .lit (.int .u8 3), .lit (.int .u8 6), .lit (.int .u8 7), .lit (.int .u8 1), .lit (.int .u8 9), .lit (.int .u8 4)], .agg [.lit (.int .u8 7), .lit (.int .u8 9), .lit (.int .u8 3), .lit (.int .u8 1), .lit (.int .u8 13), .lit (.int .u8 12), .lit (.int .u8 11), .lit (.int .u8 14), .lit (.int .u8 2), .lit (.int .u8 6), .lit (.int .u8 5), .lit (.int .u8 10), .lit (.int .u8 4), .lit (.int .u8 0), .lit (.int .u8 15), .lit (.int .u8 8)], .agg [.lit (.int .u8 9), .lit (.int .u8 0), .lit (.int .u8 5), .lit (.int .u8 7), .lit (.int .u8 2), .lit (.int .u8 4), .lit (.int .u8 10), .lit (.int .u8 15), .lit (.int .u8 14), .lit (.int .u8 1), .lit (.int .u8 11), .lit (.int .u8 12), .lit (.int .u8 6), .lit (.int .u8 8), .lit (.int .u8 3), .lit (.int .u8 13)], .agg [.lit (.int .u8 2), .lit (.int .u8 12), .lit (.int .u8 6), .lit (.int .u8 10), .lit (.int .u8 0), .lit (.int .u8 11), .lit (.int .u8 8), .lit (.int .u8 3), .lit (.int .u8 4), .lit (.int .u8 13), .lit (.int .u8 7), .lit (.int .u8 5), .lit (.int .u8 15), .lit (.int .u8 14), .lit (.int .u8 1), .lit (.int .u8 9)], .agg [.lit (.int .u8 12), .lit (.int .u8 5), .lit (.int .u8 1), .lit (.int .u8 15), .lit (.int .u8 14), .lit (.int .u8 13), .lit (.int .u8 4), .lit (.int .u8 10), .lit (.int .u8 0), .lit (.int .u8 7), .lit (.int .u8 6), .lit (.int .u8 3), .lit (.int .u8 9), .lit (.int .u8 2), .lit (.int .u8 8), .lit (.int .u8 11)], .agg [.lit (.int .u8 13), .lit (.int .u8 11), .lit (.int .u8 7), .lit (.int .u8 14), .lit (.int .u8 12), .lit (.int .u8 1), .lit (.int .u8 3), .lit (.int .u8 9), .lit (.int .u8 5), .lit (.int .u8 0), .lit (.int .u8 15), .lit (.int .u8 4), .lit (.int .u8 8), .lit (.int .u8 6), .lit (.int .u8 2), .lit (.int .u8 10)], .agg [.lit (.int .u8 6), .lit (.int .u8 15), .lit (.int .u8 14), .lit (.int .u8 9), .lit (.int .u8 11), .lit (.int .u8 3), .lit (.int .u8 0), .lit (.int .u8 8), .lit (.int .u8 12), .lit (.int .u8 2), .lit (.int .u8 13), .lit (.int .u8 7), .lit (.int .u8 1), .lit (.int .u8 4), .lit (.int .u8 10), .lit (.int .u8 5)], .agg [.lit (.int .u8 10), .lit (.int .u8 2), .lit (.int .u8 8), .lit (.int .u8 4), .lit (.int .u8 7), .lit (.int .u8 6), .lit (.int .u8 1), .lit (.int .u8 5), .lit (.int .u8 15), .lit (.int .u8 11), .lit (.int .u8 9), .lit (.int .u8 14), .lit (.int .u8 3), .lit (.int .u8 12), .lit (.int .u8 13), .lit (.int .u8 0)]]
def laid_sheave_blake_places {H : Type} : DataW H := .agg [.agg [.lit (.int .u8 0), .lit (.int .u8 4), .lit (.int .u8 8), .lit (.int .u8 12)], .agg [.lit (.int .u8 1), .lit (.int .u8 5), .lit (.int .u8 9), .lit (.int .u8 13)], .agg [.lit (.int .u8 2), .lit (.int .u8 6), .lit (.int .u8 10), .lit (.int .u8 14)], .agg [.lit (.int .u8 3), .lit (.int .u8 7), .lit (.int .u8 11), .lit (.int .u8 15)], .agg [.lit (.int .u8 0), .lit (.int .u8 5), .lit (.int .u8 10), .lit (.int .u8 15)], .agg [.lit (.int .u8 1), .lit (.int .u8 6), .lit (.int .u8 11), .lit (.int .u8 12)], .agg [.lit (.int .u8 2), .lit (.int .u8 7), .lit (.int .u8 8), .lit (.int .u8 13)], .agg [.lit (.int .u8 3), .lit (.int .u8 4), .lit (.int .u8 9), .lit (.int .u8 14)]]
def laid_sheave_chacha_first {H : Type} : DataW H := .agg [.lit (.int .u32 1634760805), .lit (.int .u32 857760878), .lit (.int .u32 2036477234), .lit (.int .u32 1797285236)]
def laid_sheave_chacha_places {H : Type} : DataW H := .agg [.agg [.lit (.int .i64 0), .lit (.int .i64 4), .lit (.int .i64 8), .lit (.int .i64 12)], .agg [.lit (.int .i64 1), .lit (.int .i64 5), .lit (.int .i64 9), .lit (.int .i64 13)], .agg [.lit (.int .i64 2), .lit (.int .i64 6), .lit (.int .i64 10), .lit (.int .i64 14)], .agg [.lit (.int .i64 3), .lit (.int .i64 7), .lit (.int .i64 11), .lit (.int .i64 15)], .agg [.lit (.int .i64 0), .lit (.int .i64 5), .lit (.int .i64 10), .lit (.int .i64 15)], .agg [.lit (.int .i64 1), .lit (.int .i64 6), .lit (.int .i64 11), .lit (.int .i64 12)], .agg [.lit (.int .i64 2), .lit (.int .i64 7), .lit (.int .i64 8), .lit (.int .i64 13)], .agg [.lit (.int .i64 3), .lit (.int .i64 4), .lit (.int .i64 9), .lit (.int .i64 14)]]
def laid_sheave_clamp_kept {H : Type} : DataW H := .agg [.lit (.int .u8 255), .lit (.int .u8 255), .lit (.int .u8 255), .lit (.int .u8 15), .lit (.int .u8 252), .lit (.int .u8 255), .lit (.int .u8 255), .lit (.int .u8 15), .lit (.int .u8 252), .lit (.int .u8 255), .lit (.int .u8 255), .lit (.int .u8 15), .lit (.int .u8 252), .lit (.int .u8 255), .lit (.int .u8 255), .lit (.int .u8 15)]
def laid_sheave_clamp_modulus {H : Type} : DataW H := .agg [.lit (.int .u64 18446744073709551611), .lit (.int .u64 18446744073709551615), .lit (.int .u64 3)]
def laid_sheave_packet_sizes {H : Type} : DataW H := .agg [.lit (.int .i64 1), .lit (.int .i64 1), .lit (.int .i64 1), .lit (.int .i64 2), .lit (.int .i64 6)]

/-- 'sheavelaw16.GuardNonces': WHATEVER THE INPUT: true; the input reads as it did. -/
def guardNoncesSpec : ChangeSpec := { name := "guardNonces", fn := fun _ => fun
  | [d1, d2, d3] => { results := [.lit (.bool true)], args := [d1, d2, d3] }
  | _ => none }
def guardNoncesRow : OpenClaim := { program := "ytknodedhcdpbiaagreatdoor", sum := "4f5aba74bf162c86ef64f283df0202c1da2c9ad3da67c9ecc58da3cf9f14d686", func := "sheave/sheavelaw16.GuardNonces", spec := "guardNonces", inPlace := ["math/bits.Add64", "math/bits.Sub64"], unfollowed := true, recurses := true, named := ["sheave/blake.iv", "sheave/blake.places", "sheave/blake.rows", "sheave/packet.sizes", "sheave/chacha.first", "sheave/chacha.places", "sheave/clamp.kept", "sheave/clamp.modulus"], apart := false, laid := [("sheave/blake.iv", laid_sheave_blake_iv), ("sheave/blake.rows", laid_sheave_blake_rows), ("sheave/blake.places", laid_sheave_blake_places), ("sheave/chacha.first", laid_sheave_chacha_first), ("sheave/chacha.places", laid_sheave_chacha_places), ("sheave/clamp.kept", laid_sheave_clamp_kept), ("sheave/clamp.modulus", laid_sheave_clamp_modulus), ("sheave/packet.sizes", laid_sheave_packet_sizes)] }
def GuardNoncesSaid : Prop := guardNoncesRow.holds Tryz.pinned (OpenSpec.ofChange guardNoncesSpec)

/-- ITS FALSE NEIGHBOUR: 'it returns false'. Refute it at one input. -/
def guardNoncesWrong : ChangeSpec := { name := "guardNonces", fn := fun _ => fun
  | [d1, d2, d3] => { results := [.lit (.bool false)], args := [d1, d2, d3] }
  | _ => none }
def GuardNoncesWrongFalsely : Prop := guardNoncesRow.holds Tryz.pinned (OpenSpec.ofChange guardNoncesWrong)

/-- 'sheavelaw16.GuardOnce': WHATEVER THE INPUT: true; the input reads as it did. -/
def guardOnceSpec : ChangeSpec := { name := "guardOnce", fn := fun _ => fun
  | [d1, d2, d3] => { results := [.lit (.bool true)], args := [d1, d2, d3] }
  | _ => none }
def guardOnceRow : OpenClaim := { program := "ytknodedhcdpbiaagreatdoor", sum := "4f5aba74bf162c86ef64f283df0202c1da2c9ad3da67c9ecc58da3cf9f14d686", func := "sheave/sheavelaw16.GuardOnce", spec := "guardOnce", inPlace := ["math/bits.Add64", "math/bits.Sub64"], unfollowed := true, recurses := true, named := ["sheave/blake.iv", "sheave/blake.places", "sheave/blake.rows", "sheave/packet.sizes", "sheave/chacha.first", "sheave/chacha.places", "sheave/clamp.kept", "sheave/clamp.modulus"], apart := false, laid := [("sheave/blake.iv", laid_sheave_blake_iv), ("sheave/blake.rows", laid_sheave_blake_rows), ("sheave/blake.places", laid_sheave_blake_places), ("sheave/chacha.first", laid_sheave_chacha_first), ("sheave/chacha.places", laid_sheave_chacha_places), ("sheave/clamp.kept", laid_sheave_clamp_kept), ("sheave/clamp.modulus", laid_sheave_clamp_modulus), ("sheave/packet.sizes", laid_sheave_packet_sizes)] }
def GuardOnceSaid : Prop := guardOnceRow.holds Tryz.pinned (OpenSpec.ofChange guardOnceSpec)

/-- ITS FALSE NEIGHBOUR: 'it returns false'. Refute it at one input. -/
def guardOnceWrong : ChangeSpec := { name := "guardOnce", fn := fun _ => fun
  | [d1, d2, d3] => { results := [.lit (.bool false)], args := [d1, d2, d3] }
  | _ => none }
def GuardOnceWrongFalsely : Prop := guardOnceRow.holds Tryz.pinned (OpenSpec.ofChange guardOnceWrong)

/-- 'sheavelaw16.GuardEnds': WHATEVER THE INPUT: true; the input reads as it did. -/
def guardEndsSpec : ChangeSpec := { name := "guardEnds", fn := fun _ => fun
  | [d1, d2, d3] => { results := [.lit (.bool true)], args := [d1, d2, d3] }
  | _ => none }
def guardEndsRow : OpenClaim := { program := "ytknodedhcdpbiaagreatdoor", sum := "4f5aba74bf162c86ef64f283df0202c1da2c9ad3da67c9ecc58da3cf9f14d686", func := "sheave/sheavelaw16.GuardEnds", spec := "guardEnds", inPlace := ["math/bits.Add64", "math/bits.Sub64"], unfollowed := true, recurses := true, named := ["sheave/blake.iv", "sheave/blake.places", "sheave/blake.rows", "sheave/packet.sizes", "sheave/chacha.first", "sheave/chacha.places", "sheave/clamp.kept", "sheave/clamp.modulus"], apart := false, laid := [("sheave/blake.iv", laid_sheave_blake_iv), ("sheave/blake.rows", laid_sheave_blake_rows), ("sheave/blake.places", laid_sheave_blake_places), ("sheave/chacha.first", laid_sheave_chacha_first), ("sheave/chacha.places", laid_sheave_chacha_places), ("sheave/clamp.kept", laid_sheave_clamp_kept), ("sheave/clamp.modulus", laid_sheave_clamp_modulus), ("sheave/packet.sizes", laid_sheave_packet_sizes)] }
def GuardEndsSaid : Prop := guardEndsRow.holds Tryz.pinned (OpenSpec.ofChange guardEndsSpec)

/-- ITS FALSE NEIGHBOUR: 'it returns false'. Refute it at one input. -/
def guardEndsWrong : ChangeSpec := { name := "guardEnds", fn := fun _ => fun
  | [d1, d2, d3] => { results := [.lit (.bool false)], args := [d1, d2, d3] }
  | _ => none }
def GuardEndsWrongFalsely : Prop := guardEndsRow.holds Tryz.pinned (OpenSpec.ofChange guardEndsWrong)

/-- 'sheavelaw16.GuardEpochs': WHATEVER THE INPUT: true; the input reads as it did. -/
def guardEpochsSpec : ChangeSpec := { name := "guardEpochs", fn := fun _ => fun
  | [d1, d2, d3] => { results := [.lit (.bool true)], args := [d1, d2, d3] }
  | _ => none }
def guardEpochsRow : OpenClaim := { program := "ytknodedhcdpbiaagreatdoor", sum := "4f5aba74bf162c86ef64f283df0202c1da2c9ad3da67c9ecc58da3cf9f14d686", func := "sheave/sheavelaw16.GuardEpochs", spec := "guardEpochs", inPlace := ["math/bits.Add64", "math/bits.Sub64"], unfollowed := true, recurses := true, named := ["sheave/blake.iv", "sheave/blake.places", "sheave/blake.rows", "sheave/packet.sizes", "sheave/chacha.first", "sheave/chacha.places", "sheave/clamp.kept", "sheave/clamp.modulus"], apart := false, laid := [("sheave/blake.iv", laid_sheave_blake_iv), ("sheave/blake.rows", laid_sheave_blake_rows), ("sheave/blake.places", laid_sheave_blake_places), ("sheave/chacha.first", laid_sheave_chacha_first), ("sheave/chacha.places", laid_sheave_chacha_places), ("sheave/clamp.kept", laid_sheave_clamp_kept), ("sheave/clamp.modulus", laid_sheave_clamp_modulus), ("sheave/packet.sizes", laid_sheave_packet_sizes)] }
def GuardEpochsSaid : Prop := guardEpochsRow.holds Tryz.pinned (OpenSpec.ofChange guardEpochsSpec)

/-- ITS FALSE NEIGHBOUR: 'it returns false'. Refute it at one input. -/
def guardEpochsWrong : ChangeSpec := { name := "guardEpochs", fn := fun _ => fun
  | [d1, d2, d3] => { results := [.lit (.bool false)], args := [d1, d2, d3] }
  | _ => none }
def GuardEpochsWrongFalsely : Prop := guardEpochsRow.holds Tryz.pinned (OpenSpec.ofChange guardEpochsWrong)

/-- 'sheavelaw16.GuardOwn': WHATEVER THE INPUT: true; the input reads as it did. -/
def guardOwnSpec : ChangeSpec := { name := "guardOwn", fn := fun _ => fun
  | [d1, d2, d3] => { results := [.lit (.bool true)], args := [d1, d2, d3] }
  | _ => none }
def guardOwnRow : OpenClaim := { program := "ytknodedhcdpbiaagreatdoor", sum := "4f5aba74bf162c86ef64f283df0202c1da2c9ad3da67c9ecc58da3cf9f14d686", func := "sheave/sheavelaw16.GuardOwn", spec := "guardOwn", inPlace := ["math/bits.Add64", "math/bits.Sub64"], unfollowed := true, recurses := true, named := ["sheave/blake.iv", "sheave/blake.places", "sheave/blake.rows", "sheave/packet.sizes", "sheave/chacha.first", "sheave/chacha.places", "sheave/clamp.kept", "sheave/clamp.modulus"], apart := false, laid := [("sheave/blake.iv", laid_sheave_blake_iv), ("sheave/blake.rows", laid_sheave_blake_rows), ("sheave/blake.places", laid_sheave_blake_places), ("sheave/chacha.first", laid_sheave_chacha_first), ("sheave/chacha.places", laid_sheave_chacha_places), ("sheave/clamp.kept", laid_sheave_clamp_kept), ("sheave/clamp.modulus", laid_sheave_clamp_modulus), ("sheave/packet.sizes", laid_sheave_packet_sizes)] }
def GuardOwnSaid : Prop := guardOwnRow.holds Tryz.pinned (OpenSpec.ofChange guardOwnSpec)

/-- ITS FALSE NEIGHBOUR: 'it returns false'. Refute it at one input. -/
def guardOwnWrong : ChangeSpec := { name := "guardOwn", fn := fun _ => fun
  | [d1, d2, d3] => { results := [.lit (.bool false)], args := [d1, d2, d3] }
  | _ => none }
def GuardOwnWrongFalsely : Prop := guardOwnRow.holds Tryz.pinned (OpenSpec.ofChange guardOwnWrong)

/- THE SECOND FORM. 'bulk': how many values and letters a reading holds, each counted each time it is reached (what is shared counts as often as it is met; a slice's spare places count too). A statement '..UptoSaid' is the law's where the arguments, and the package variables that the reading takes, are together of bulk at most 1048576: NARROWER than '..Said'. Prove '..Said' where nothing that the law and all that it calls make is longer than what came in: it says more and counts as full. Else prove '..UptoSaid'. A law counts once. -/
mutual
def uptoBulk {H : Type} : DataW H → Nat
  | .lit (.string bytes) => bytes.length + 1
  | .lit _ => 1
  | .nil => 1
  | .ptr d => uptoBulk d + 1
  | .slice elems spare => uptoBulkAll elems + uptoBulkAll spare + 1
  | .agg parts => uptoBulkAll parts + 1
  | .iface _ d => uptoBulk d + 1
  | .map entries => uptoBulkEntries entries + 1
  | .held _ => 1
def uptoBulkAll {H : Type} : List (DataW H) → Nat
  | [] => 0
  | d :: r => uptoBulk d + uptoBulkAll r
def uptoBulkEntries {H : Type} : List (Lit × DataW H) → Nat
  | [] => 0
  | x :: r => uptoBulkEntry x + uptoBulkEntries r
def uptoBulkEntry {H : Type} : Lit × DataW H → Nat
  | (.string bytes, d) => bytes.length + uptoBulk d + 1
  | (_, d) => uptoBulk d + 1
 end
def uptoSmall : (H : Type) → List (DataW H) → Bool := fun _ ds => decide (uptoBulkAll ds ≤ 1048576)
def OpenSpec.upto (s : _root_.Go.ChangeSpec) : _root_.Go.OpenSpec := { _root_.Go.OpenSpec.ofChange s with cond := some uptoSmall }

/-- 'sheavelaw16.GuardNonces', WHERE WHAT IT READS IS OF BULK AT MOST 1048576: true; the input reads as it did. -/
def guardNoncesUptoRow : OpenClaim := { program := "ytknodedhcdpbiaagreatdoor", sum := "4f5aba74bf162c86ef64f283df0202c1da2c9ad3da67c9ecc58da3cf9f14d686", func := "sheave/sheavelaw16.GuardNonces", spec := "guardNonces", inPlace := ["math/bits.Add64", "math/bits.Sub64"], unfollowed := true, recurses := true, named := ["sheave/blake.iv", "sheave/blake.places", "sheave/blake.rows", "sheave/packet.sizes", "sheave/chacha.first", "sheave/chacha.places", "sheave/clamp.kept", "sheave/clamp.modulus"], apart := false, laid := [("sheave/blake.iv", laid_sheave_blake_iv), ("sheave/blake.rows", laid_sheave_blake_rows), ("sheave/blake.places", laid_sheave_blake_places), ("sheave/chacha.first", laid_sheave_chacha_first), ("sheave/chacha.places", laid_sheave_chacha_places), ("sheave/clamp.kept", laid_sheave_clamp_kept), ("sheave/clamp.modulus", laid_sheave_clamp_modulus), ("sheave/packet.sizes", laid_sheave_packet_sizes)], narrowed := true }
def GuardNoncesUptoSaid : Prop := guardNoncesUptoRow.holds Tryz.pinned (OpenSpec.upto guardNoncesSpec)

/-- 'sheavelaw16.GuardOnce', WHERE WHAT IT READS IS OF BULK AT MOST 1048576: true; the input reads as it did. -/
def guardOnceUptoRow : OpenClaim := { program := "ytknodedhcdpbiaagreatdoor", sum := "4f5aba74bf162c86ef64f283df0202c1da2c9ad3da67c9ecc58da3cf9f14d686", func := "sheave/sheavelaw16.GuardOnce", spec := "guardOnce", inPlace := ["math/bits.Add64", "math/bits.Sub64"], unfollowed := true, recurses := true, named := ["sheave/blake.iv", "sheave/blake.places", "sheave/blake.rows", "sheave/packet.sizes", "sheave/chacha.first", "sheave/chacha.places", "sheave/clamp.kept", "sheave/clamp.modulus"], apart := false, laid := [("sheave/blake.iv", laid_sheave_blake_iv), ("sheave/blake.rows", laid_sheave_blake_rows), ("sheave/blake.places", laid_sheave_blake_places), ("sheave/chacha.first", laid_sheave_chacha_first), ("sheave/chacha.places", laid_sheave_chacha_places), ("sheave/clamp.kept", laid_sheave_clamp_kept), ("sheave/clamp.modulus", laid_sheave_clamp_modulus), ("sheave/packet.sizes", laid_sheave_packet_sizes)], narrowed := true }
def GuardOnceUptoSaid : Prop := guardOnceUptoRow.holds Tryz.pinned (OpenSpec.upto guardOnceSpec)

/-- 'sheavelaw16.GuardEnds', WHERE WHAT IT READS IS OF BULK AT MOST 1048576: true; the input reads as it did. -/
def guardEndsUptoRow : OpenClaim := { program := "ytknodedhcdpbiaagreatdoor", sum := "4f5aba74bf162c86ef64f283df0202c1da2c9ad3da67c9ecc58da3cf9f14d686", func := "sheave/sheavelaw16.GuardEnds", spec := "guardEnds", inPlace := ["math/bits.Add64", "math/bits.Sub64"], unfollowed := true, recurses := true, named := ["sheave/blake.iv", "sheave/blake.places", "sheave/blake.rows", "sheave/packet.sizes", "sheave/chacha.first", "sheave/chacha.places", "sheave/clamp.kept", "sheave/clamp.modulus"], apart := false, laid := [("sheave/blake.iv", laid_sheave_blake_iv), ("sheave/blake.rows", laid_sheave_blake_rows), ("sheave/blake.places", laid_sheave_blake_places), ("sheave/chacha.first", laid_sheave_chacha_first), ("sheave/chacha.places", laid_sheave_chacha_places), ("sheave/clamp.kept", laid_sheave_clamp_kept), ("sheave/clamp.modulus", laid_sheave_clamp_modulus), ("sheave/packet.sizes", laid_sheave_packet_sizes)], narrowed := true }
def GuardEndsUptoSaid : Prop := guardEndsUptoRow.holds Tryz.pinned (OpenSpec.upto guardEndsSpec)

/-- 'sheavelaw16.GuardEpochs', WHERE WHAT IT READS IS OF BULK AT MOST 1048576: true; the input reads as it did. -/
def guardEpochsUptoRow : OpenClaim := { program := "ytknodedhcdpbiaagreatdoor", sum := "4f5aba74bf162c86ef64f283df0202c1da2c9ad3da67c9ecc58da3cf9f14d686", func := "sheave/sheavelaw16.GuardEpochs", spec := "guardEpochs", inPlace := ["math/bits.Add64", "math/bits.Sub64"], unfollowed := true, recurses := true, named := ["sheave/blake.iv", "sheave/blake.places", "sheave/blake.rows", "sheave/packet.sizes", "sheave/chacha.first", "sheave/chacha.places", "sheave/clamp.kept", "sheave/clamp.modulus"], apart := false, laid := [("sheave/blake.iv", laid_sheave_blake_iv), ("sheave/blake.rows", laid_sheave_blake_rows), ("sheave/blake.places", laid_sheave_blake_places), ("sheave/chacha.first", laid_sheave_chacha_first), ("sheave/chacha.places", laid_sheave_chacha_places), ("sheave/clamp.kept", laid_sheave_clamp_kept), ("sheave/clamp.modulus", laid_sheave_clamp_modulus), ("sheave/packet.sizes", laid_sheave_packet_sizes)], narrowed := true }
def GuardEpochsUptoSaid : Prop := guardEpochsUptoRow.holds Tryz.pinned (OpenSpec.upto guardEpochsSpec)

/-- 'sheavelaw16.GuardOwn', WHERE WHAT IT READS IS OF BULK AT MOST 1048576: true; the input reads as it did. -/
def guardOwnUptoRow : OpenClaim := { program := "ytknodedhcdpbiaagreatdoor", sum := "4f5aba74bf162c86ef64f283df0202c1da2c9ad3da67c9ecc58da3cf9f14d686", func := "sheave/sheavelaw16.GuardOwn", spec := "guardOwn", inPlace := ["math/bits.Add64", "math/bits.Sub64"], unfollowed := true, recurses := true, named := ["sheave/blake.iv", "sheave/blake.places", "sheave/blake.rows", "sheave/packet.sizes", "sheave/chacha.first", "sheave/chacha.places", "sheave/clamp.kept", "sheave/clamp.modulus"], apart := false, laid := [("sheave/blake.iv", laid_sheave_blake_iv), ("sheave/blake.rows", laid_sheave_blake_rows), ("sheave/blake.places", laid_sheave_blake_places), ("sheave/chacha.first", laid_sheave_chacha_first), ("sheave/chacha.places", laid_sheave_chacha_places), ("sheave/clamp.kept", laid_sheave_clamp_kept), ("sheave/clamp.modulus", laid_sheave_clamp_modulus), ("sheave/packet.sizes", laid_sheave_packet_sizes)], narrowed := true }
def GuardOwnUptoSaid : Prop := guardOwnUptoRow.holds Tryz.pinned (OpenSpec.upto guardOwnSpec)

end Rows
end Go.Proofs.YtknodedhcdpbiaaGreatDoor
