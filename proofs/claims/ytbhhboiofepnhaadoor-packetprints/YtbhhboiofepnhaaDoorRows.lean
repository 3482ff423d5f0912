/-
  NARROWER THAN 'FOR EVERY INPUT', by the rows' own cells (each row's printed sentence says how): PacketPrints: laid · PacketParses: laid · PacketBack: laid · PacketNonces: laid · PacketHeads: laid.
  DERIVED. THE GIVEN ROWS OF THIS SEAT. 5 by the template 'for every input the law returns true; each argument reads behind the call as it read before'; 0 by the template 'total and deterministic' (their statements: YtbhhboiofepnhaaDoorTotals.lean).
  GIVEN WITH THE SEED: the statements are not yours to turn. If you find one false, say at which input.
  Laid BY PROGRAM, IN A SANDBOX (cutbox-rows.mjs): the forced cells as the released guide's own fill.sh prints them over the translation c03b6f26fabee6b7… (all of the seat's roots in one cut). By AI agents, Wed Nov 11 2026. No macro, syntax, notation, axiom, sorry.
-/
import Derived.Test.YtbhhboiofepnhaaDoorChecked
import GoSem.Claim
import GoSem.ClaimJoined
import GoSem.ClaimMapViews
import Derived.JoinedTies
import Derived.KernelRfl
namespace Go.Proofs.YtbhhboiofepnhaaDoor
/- THE CELL 'sum', in the pinned program and in every row, IS THE sha256 OF THE DUMP (.gsa) THAT YtbhhboiofepnhaaDoorProg.lean LOADS. Nothing in Lean hashes anything: it is a label: what it is worth is what the hold of that sum in a sandbox is worth. -/
noncomputable def Tryd.pinned : Pinned := { name := "ytbhhboiofepnhaadoor", sum := "c03b6f26fabee6b780985e9508a4c18fc1116bea49351397e7ec148eb97d9bdc", checked := Tryd.checked }
namespace Rows
def none {H : Type} : Left H := { results := [], args := [] }

/- WHAT THE LISTED PACKAGE-LEVEL VARIABLES READ AS WHEN THE CALL BEGINS. Each datum BY PROGRAM (the guide's laid-datum.mjs) off the statement by which the dump's own 'gosem.cut.vars' lays the variable. In a bare row this is a premise. The card (YtbhhboiofepnhaaDoorCards.lean) ties it to the program's text. -/
def laid_sheave_packet_sizes {H : Type} : DataW H := .agg [.lit (.int .i64 1), .lit (.int .i64 1), .lit (.int .i64 1), .lit (.int .i64 2), .lit (.int .i64 6)]

/-- 'sheavelaw11.PacketPrints': WHATEVER THE INPUT: true; the input reads as it did. -/
def packetPrintsSpec : ChangeSpec := { name := "packetPrints", fn := fun _ => fun
  | [d] => { results := [.lit (.bool true)], args := [d] }
  | _ => none }
def packetPrintsRow : OpenClaim := { program := "ytbhhboiofepnhaadoor", sum := "c03b6f26fabee6b780985e9508a4c18fc1116bea49351397e7ec148eb97d9bdc", func := "sheave/sheavelaw11.PacketPrints", spec := "packetPrints", unfollowed := true, recurses := true, named := ["sheave/packet.sizes"], apart := false, laid := [("sheave/packet.sizes", laid_sheave_packet_sizes)] }
def PacketPrintsSaid : Prop := packetPrintsRow.holds Tryd.pinned (OpenSpec.ofChange packetPrintsSpec)

/-- ITS FALSE NEIGHBOUR: 'it returns false'. Refute it at one input. -/
def packetPrintsWrong : ChangeSpec := { name := "packetPrints", fn := fun _ => fun
  | [d] => { results := [.lit (.bool false)], args := [d] }
  | _ => none }
def PacketPrintsWrongFalsely : Prop := packetPrintsRow.holds Tryd.pinned (OpenSpec.ofChange packetPrintsWrong)

/-- 'sheavelaw11.PacketParses': WHATEVER THE INPUT: true; the input reads as it did. -/
def packetParsesSpec : ChangeSpec := { name := "packetParses", fn := fun _ => fun
  | [d] => { results := [.lit (.bool true)], args := [d] }
  | _ => none }
def packetParsesRow : OpenClaim := { program := "ytbhhboiofepnhaadoor", sum := "c03b6f26fabee6b780985e9508a4c18fc1116bea49351397e7ec148eb97d9bdc", func := "sheave/sheavelaw11.PacketParses", spec := "packetParses", unfollowed := true, recurses := true, named := ["sheave/packet.sizes"], apart := false, laid := [("sheave/packet.sizes", laid_sheave_packet_sizes)] }
def PacketParsesSaid : Prop := packetParsesRow.holds Tryd.pinned (OpenSpec.ofChange packetParsesSpec)

/-- ITS FALSE NEIGHBOUR: 'it returns false'. Refute it at one input. -/
def packetParsesWrong : ChangeSpec := { name := "packetParses", fn := fun _ => fun
  | [d] => { results := [.lit (.bool false)], args := [d] }
  | _ => none }
def PacketParsesWrongFalsely : Prop := packetParsesRow.holds Tryd.pinned (OpenSpec.ofChange packetParsesWrong)

/-- 'sheavelaw11.PacketBack': WHATEVER THE INPUT: true; the input reads as it did. -/
def packetBackSpec : ChangeSpec := { name := "packetBack", fn := fun _ => fun
  | [d1, d2] => { results := [.lit (.bool true)], args := [d1, d2] }
  | _ => none }
def packetBackRow : OpenClaim := { program := "ytbhhboiofepnhaadoor", sum := "c03b6f26fabee6b780985e9508a4c18fc1116bea49351397e7ec148eb97d9bdc", func := "sheave/sheavelaw11.PacketBack", spec := "packetBack", unfollowed := true, recurses := true, named := ["sheave/packet.sizes"], apart := false, laid := [("sheave/packet.sizes", laid_sheave_packet_sizes)] }
def PacketBackSaid : Prop := packetBackRow.holds Tryd.pinned (OpenSpec.ofChange packetBackSpec)

/-- ITS FALSE NEIGHBOUR: 'it returns false'. Refute it at one input. -/
def packetBackWrong : ChangeSpec := { name := "packetBack", fn := fun _ => fun
  | [d1, d2] => { results := [.lit (.bool false)], args := [d1, d2] }
  | _ => none }
def PacketBackWrongFalsely : Prop := packetBackRow.holds Tryd.pinned (OpenSpec.ofChange packetBackWrong)

/-- 'sheavelaw11.PacketNonces': WHATEVER THE INPUT: true; the input reads as it did. -/
def packetNoncesSpec : ChangeSpec := { name := "packetNonces", fn := fun _ => fun
  | [d1, d2] => { results := [.lit (.bool true)], args := [d1, d2] }
  | _ => none }
def packetNoncesRow : OpenClaim := { program := "ytbhhboiofepnhaadoor", sum := "c03b6f26fabee6b780985e9508a4c18fc1116bea49351397e7ec148eb97d9bdc", func := "sheave/sheavelaw11.PacketNonces", spec := "packetNonces", unfollowed := true, recurses := true, named := ["sheave/packet.sizes"], apart := false, laid := [("sheave/packet.sizes", laid_sheave_packet_sizes)] }
def PacketNoncesSaid : Prop := packetNoncesRow.holds Tryd.pinned (OpenSpec.ofChange packetNoncesSpec)

/-- ITS FALSE NEIGHBOUR: 'it returns false'. Refute it at one input. -/
def packetNoncesWrong : ChangeSpec := { name := "packetNonces", fn := fun _ => fun
  | [d1, d2] => { results := [.lit (.bool false)], args := [d1, d2] }
  | _ => none }
def PacketNoncesWrongFalsely : Prop := packetNoncesRow.holds Tryd.pinned (OpenSpec.ofChange packetNoncesWrong)

/-- 'sheavelaw11.PacketHeads': WHATEVER THE INPUT: true; the input reads as it did. -/
def packetHeadsSpec : ChangeSpec := { name := "packetHeads", fn := fun _ => fun
  | [d] => { results := [.lit (.bool true)], args := [d] }
  | _ => none }
def packetHeadsRow : OpenClaim := { program := "ytbhhboiofepnhaadoor", sum := "c03b6f26fabee6b780985e9508a4c18fc1116bea49351397e7ec148eb97d9bdc", func := "sheave/sheavelaw11.PacketHeads", spec := "packetHeads", unfollowed := true, recurses := true, named := ["sheave/packet.sizes"], apart := false, laid := [("sheave/packet.sizes", laid_sheave_packet_sizes)] }
def PacketHeadsSaid : Prop := packetHeadsRow.holds Tryd.pinned (OpenSpec.ofChange packetHeadsSpec)

/-- ITS FALSE NEIGHBOUR: 'it returns false'. Refute it at one input. -/
def packetHeadsWrong : ChangeSpec := { name := "packetHeads", fn := fun _ => fun
  | [d] => { results := [.lit (.bool false)], args := [d] }
  | _ => none }
def PacketHeadsWrongFalsely : Prop := packetHeadsRow.holds Tryd.pinned (OpenSpec.ofChange packetHeadsWrong)

/- THE SECOND FORM. 'bulk': how many values and letters a reading holds, each counted each time it is reached (what is shared counts as often as it is met; a slice's spare places count too). A statement '..UptoSaid' is the law's where the arguments, and the package variables that the reading takes, are together of bulk at most 1048576: NARROWER than '..Said'. Prove '..Said' where nothing that the law and all that it calls make is longer than what came in: it says more and counts as full. Else prove '..UptoSaid'. A law counts once. -/
mutual
def uptoBulk {H : Type} : DataW H → Nat
  | .lit (.string bytes) => bytes.length + 1
  | .lit _ => 1
  | .nil => 1
  | .ptr d => uptoBulk d + 1
  | .slice elems spare => uptoBulkAll elems + uptoBulkAll spare + 1
  | .agg parts => uptoBulkAll parts + 1
  | .iface _ d => uptoBulk d + 1
  | .map entries => uptoBulkEntries entries + 1
  | .held _ => 1
def uptoBulkAll {H : Type} : List (DataW H) → Nat
  | [] => 0
  | d :: r => uptoBulk d + uptoBulkAll r
def uptoBulkEntries {H : Type} : List (Lit × DataW H) → Nat
  | [] => 0
  | x :: r => uptoBulkEntry x + uptoBulkEntries r
def uptoBulkEntry {H : Type} : Lit × DataW H → Nat
  | (.string bytes, d) => bytes.length + uptoBulk d + 1
  | (_, d) => uptoBulk d + 1
 end
def uptoSmall : (H : Type) → List (DataW H) → Bool := fun _ ds => decide (uptoBulkAll ds ≤ 1048576)
def OpenSpec.upto (s : _root_.Go.ChangeSpec) : _root_.Go.OpenSpec := { _root_.Go.OpenSpec.ofChange s with cond := some uptoSmall }

/-- 'sheavelaw11.PacketPrints', WHERE WHAT IT READS IS OF BULK AT MOST 1048576: true; the input reads as it did. -/
def packetPrintsUptoRow : OpenClaim := { program := "ytbhhboiofepnhaadoor", sum := "c03b6f26fabee6b780985e9508a4c18fc1116bea49351397e7ec148eb97d9bdc", func := "sheave/sheavelaw11.PacketPrints", spec := "packetPrints", unfollowed := true, recurses := true, named := ["sheave/packet.sizes"], apart := false, laid := [("sheave/packet.sizes", laid_sheave_packet_sizes)], narrowed := true }
def PacketPrintsUptoSaid : Prop := packetPrintsUptoRow.holds Tryd.pinned (OpenSpec.upto packetPrintsSpec)

/-- 'sheavelaw11.PacketParses', WHERE WHAT IT READS IS OF BULK AT MOST 1048576: true; the input reads as it did. -/
def packetParsesUptoRow : OpenClaim := { program := "ytbhhboiofepnhaadoor", sum := "c03b6f26fabee6b780985e9508a4c18fc1116bea49351397e7ec148eb97d9bdc", func := "sheave/sheavelaw11.PacketParses", spec := "packetParses", unfollowed := true, recurses := true, named := ["sheave/packet.sizes"], apart := false, laid := [("sheave/packet.sizes", laid_sheave_packet_sizes)], narrowed := true }
def PacketParsesUptoSaid : Prop := packetParsesUptoRow.holds Tryd.pinned (OpenSpec.upto packetParsesSpec)

/-- 'sheavelaw11.PacketBack', WHERE WHAT IT READS IS OF BULK AT MOST 1048576: true; the input reads as it did. -/
def packetBackUptoRow : OpenClaim := { program := "ytbhhboiofepnhaadoor", sum := "c03b6f26fabee6b780985e9508a4c18fc1116bea49351397e7ec148eb97d9bdc", func := "sheave/sheavelaw11.PacketBack", spec := "packetBack", unfollowed := true, recurses := true, named := ["sheave/packet.sizes"], apart := false, laid := [("sheave/packet.sizes", laid_sheave_packet_sizes)], narrowed := true }
def PacketBackUptoSaid : Prop := packetBackUptoRow.holds Tryd.pinned (OpenSpec.upto packetBackSpec)

/-- 'sheavelaw11.PacketNonces', WHERE WHAT IT READS IS OF BULK AT MOST 1048576: true; the input reads as it did. -/
def packetNoncesUptoRow : OpenClaim := { program := "ytbhhboiofepnhaadoor", sum := "c03b6f26fabee6b780985e9508a4c18fc1116bea49351397e7ec148eb97d9bdc", func := "sheave/sheavelaw11.PacketNonces", spec := "packetNonces", unfollowed := true, recurses := true, named := ["sheave/packet.sizes"], apart := false, laid := [("sheave/packet.sizes", laid_sheave_packet_sizes)], narrowed := true }
def PacketNoncesUptoSaid : Prop := packetNoncesUptoRow.holds Tryd.pinned (OpenSpec.upto packetNoncesSpec)

/-- 'sheavelaw11.PacketHeads', WHERE WHAT IT READS IS OF BULK AT MOST 1048576: true; the input reads as it did. -/
def packetHeadsUptoRow : OpenClaim := { program := "ytbhhboiofepnhaadoor", sum := "c03b6f26fabee6b780985e9508a4c18fc1116bea49351397e7ec148eb97d9bdc", func := "sheave/sheavelaw11.PacketHeads", spec := "packetHeads", unfollowed := true, recurses := true, named := ["sheave/packet.sizes"], apart := false, laid := [("sheave/packet.sizes", laid_sheave_packet_sizes)], narrowed := true }
def PacketHeadsUptoSaid : Prop := packetHeadsUptoRow.holds Tryd.pinned (OpenSpec.upto packetHeadsSpec)

end Rows
end Go.Proofs.YtbhhboiofepnhaaDoor
