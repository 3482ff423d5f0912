/-
  NARROWER THAN 'FOR EVERY INPUT', by the rows' own cells (each row's printed sentence says how): BlakeSums: laid · BlakeHashes: laid · BlakeMacs: laid · BlakeNoughts: laid · BlakeParts: laid · BlakeMade: laid.
  DERIVED. THE GIVEN ROWS OF THIS SEAT. 6 by the template 'for every input the law returns true; each argument reads behind the call as it read before'; 0 by the template 'total and deterministic' (their statements: YtmchfdfmcobenaaDoorTotals.lean).
  GIVEN WITH THE SEED: the statements are not yours to turn. If you find one false, say at which input.
  Laid BY PROGRAM, IN A SANDBOX (cutbox-rows.mjs): the forced cells as the released guide's own fill.sh prints them over the translation 7cfc93a9f04ec417… (all of the seat's roots in one cut). By AI agents, Wed Nov 11 2026. No macro, syntax, notation, axiom, sorry.
-/
import Derived.Test.YtmchfdfmcobenaaDoorChecked
import GoSem.Claim
import GoSem.ClaimJoined
import GoSem.ClaimMapViews
import Derived.JoinedTies
import Derived.KernelRfl
namespace Go.Proofs.YtmchfdfmcobenaaDoor
/- THE CELL 'sum', in the pinned program and in every row, IS THE sha256 OF THE DUMP (.gsa) THAT YtmchfdfmcobenaaDoorProg.lean LOADS. Nothing in Lean hashes anything: it is a label: what it is worth is what the hold of that sum in a sandbox is worth. -/
noncomputable def Tryd.pinned : Pinned := { name := "ytmchfdfmcobenaadoor", sum := "7cfc93a9f04ec417e344149c5b3c7253d2ecbd2241cba18173016561ba981c91", checked := Tryd.checked }
namespace Rows
def none {H : Type} : Left H := { results := [], args := [] }

/- WHAT THE LISTED PACKAGE-LEVEL VARIABLES READ AS WHEN THE CALL BEGINS. Each datum BY PROGRAM (the guide's laid-datum.mjs) off the statement by which the dump's own 'gosem.cut.vars' lays the variable. In a bare row this is a premise. The card (YtmchfdfmcobenaaDoorCards.lean) ties it to the program's text. -/
def laid_sheave_blake_iv {H : Type} : DataW H := .agg [.lit (.int .u32 1779033703), .lit (.int .u32 3144134277), .lit (.int .u32 1013904242), .lit (.int .u32 2773480762), .lit (.int .u32 1359893119), .lit (.int .u32 2600822924), .lit (.int .u32 528734635), .lit (.int .u32 1541459225)]
def laid_sheave_blake_rows {H : Type} : DataW H := .agg [.agg [.lit (.int .u8 0), .lit (.int .u8 1), .lit (.int .u8 2), .lit (.int .u8 3), .lit (.int .u8 4), .lit (.int .u8 5), .lit (.int .u8 6), .lit (.int .u8 7), .lit (.int .u8 8), .lit (.int .u8 9), .lit (.int .u8 10), .lit (.int .u8 11), .lit (.int .u8 12), .lit (.int .u8 13), .lit (.int .u8 14), .lit (.int .u8 15)], .agg [.lit (.int .u8 14), .lit (.int .u8 10), .lit (.int .u8 4), .lit (.int .u8 8), .lit (.int .u8 9), .lit (.int .u8 15), .lit (.int .u8 13), .lit (.int .u8 6), .lit (.int .u8 1), .lit (.int .u8 12), .lit (.int .u8 0), .lit (.int .u8 2), .lit (.int .u8 11), .lit (.int .u8 7), .lit (.int .u8 5), .lit (.int .u8 3)], .agg [.lit (.int .u8 11), .lit (.int .u8 8), .lit (.int .u8 12), .lit (.int .u8 0), .lit (.int .u8 5), .lit (.int .u8 2), .lit (.int .u8 15), .lit (.int .u8 13), .lit (.int .u8 10), .lit (.int .u8 14), .lit (.int .u8 3), .lit (.int .u8 6), .lit (.int .u8 7), .lit (.int .u8 1), .lit (.int .u8 9), .lit (.int .u8 4)], .agg [.lit (.int .u8 7), .lit (.int .u8 9), .lit (.int .u8 3), .lit (.int .u8 1), .lit (.int .u8 13), .lit (.int .u8 12), .lit (.int .u8 11), .lit (.int .u8 14), .lit (.int .u8 2), .lit (.int .u8 6), .lit (.int .u8 5), .lit (.int .u8 10), .lit (.int .u8 4), .lit (.int .u8 0), .lit (.int .u8 15), .lit (.int .u8 8)], .agg [.lit (.int .u8 9), .lit (.int .u8 0), .lit (.int .u8 5), .lit (.int .u8 7), .lit (.int .u8 2), .lit (.int .u8 4), .lit (.int .u8 10), .lit (.int .u8 15), .lit (.int .u8 14), .lit (.int .u8 1), .lit (.int .u8 11), .lit (.int .u8 12), .lit (.int .u8 6), .lit (.int .u8 8), .lit (.int .u8 3), .lit (.int .u8 13)], .agg [.lit (.int .u8 2), .lit (.int .u8 12), .lit (.int .u8 6), .lit (.int .u8 10), .lit (.int .u8 0), .lit (.int .u8 11), .lit (.int .u8 8), .lit (.int .u8 3), .lit (.int .u8 4), .lit (.int .u8 13), .lit (.int .u8 7), .lit (.int .u8 5), .lit (.int .u8 15), .lit (.int .u8 14), .lit (.int .u8 1), .lit (.int .u8 9)], .agg [.lit (.int .u8 12), .lit (.int .u8 5), .lit (.int .u8 1), .lit (.int .u8 15), .lit (.int .u8 14), .lit (.int .u8 13), .lit (.int .u8 4), .lit (.int .u8 10), .lit (.int .u8 0), .lit (.int .u8 7), .lit (.int .u8 6), .lit (.int .u8 3), .lit (.int .u8 9), .lit (.int .u8 2), .lit (.int .u8 8), .lit (.int .u8 11)], .agg [.lit (.int .u8 13), .lit (.int .u8 11), .lit (.int .u8 7), .lit (.int .u8 14), .lit (.int .u8 12), .lit (.int .u8 1), .lit (.int .u8 3), .lit (.int .u8 9), .lit (.int .u8 5), .lit (.int .u8 0), .lit (.int .u8 15), .lit (.int .u8 4), .lit (.int .u8 8), .lit (.int .u8 6), .lit (.int .u8 2), .lit (.int .u8 10)], .agg [.lit (.int .u8 6), .lit (.int .u8 15), .lit (.int .u8 14), .lit (.int .u8 9), .lit (.int .u8 11), .lit (.int .u8 3), .lit (.int .u8 0), .lit (.int .u8 8), .lit (.int .u8 12), .lit (.int .u8 2), .lit (.int .u8 13), .lit (.int .u8 7), .lit (.int .u8 1), .lit (.int .u8 4), .lit (.int .u8 10), .lit (.int .u8 5)], .agg [.lit (.int .u8 10), .lit (.int .u8 2), .lit (.int .u8 8), .lit (.int .u8 4), .lit (.int .u8 7), .lit (.int .u8 6), .lit (.int .u8 1), .lit (.int .u8 5), .lit (.int .u8 15), .lit (.int .u8 11), .lit (.int .u8 9), .lit (.int .u8 14), .lit (.int .u8 3), .lit (.int .u8 12), .lit (.int .u8 13), .lit (.int .u8 0)]]
def laid_sheave_blake_places {H : Type} : DataW H := .agg [.agg [.lit (.int .u8 0), .lit (.int .u8 4), .lit (.int .u8 8), .lit (.int .u8 12)], .agg [.lit (.int .u8 1), .lit (.int .u8 5), .lit (.int .u8 9), .lit (.int .u8 13)], .agg [.lit (.int .u8 2), .lit (.int .u8 6), .lit (.int .u8 10), .lit (.int .u8 14)], .agg [.lit (.int .u8 3), .lit (.int .u8 7), .lit (.int .u8 11), .lit (.int .u8 15)], .agg [.lit (.int .u8 0), .lit (.int .u8 5), .lit (.int .u8 10), .lit (.int .u8 15)], .agg [.lit (.int .u8 1), .lit (.int .u8 6), .lit (.int .u8 11), .lit (.int .u8 12)], .agg [.lit (.int .u8 2), .lit (.int .u8 7), .lit (.int .u8 8), .lit (.int .u8 13)], .agg [.lit (.int .u8 3), .lit (.int .u8 4), .lit (.int .u8 9), .lit (.int .u8 14)]]

/-- 'sheavelaw06.BlakeSums': WHATEVER THE INPUT: true; the input reads as it did. -/
def blakeSumsSpec : ChangeSpec := { name := "blakeSums", fn := fun _ => fun
  | [d1, d2, d3] => { results := [.lit (.bool true)], args := [d1, d2, d3] }
  | _ => none }
def blakeSumsRow : OpenClaim := { program := "ytmchfdfmcobenaadoor", sum := "7cfc93a9f04ec417e344149c5b3c7253d2ecbd2241cba18173016561ba981c91", func := "sheave/sheavelaw06.BlakeSums", spec := "blakeSums", named := ["sheave/blake.iv", "sheave/blake.places", "sheave/blake.rows"], apart := false, laid := [("sheave/blake.iv", laid_sheave_blake_iv), ("sheave/blake.rows", laid_sheave_blake_rows), ("sheave/blake.places", laid_sheave_blake_places)] }
def BlakeSumsSaid : Prop := blakeSumsRow.holds Tryd.pinned (OpenSpec.ofChange blakeSumsSpec)

/-- ITS FALSE NEIGHBOUR: 'it returns false'. Refute it at one input. -/
def blakeSumsWrong : ChangeSpec := { name := "blakeSums", fn := fun _ => fun
  | [d1, d2, d3] => { results := [.lit (.bool false)], args := [d1, d2, d3] }
  | _ => none }
def BlakeSumsWrongFalsely : Prop := blakeSumsRow.holds Tryd.pinned (OpenSpec.ofChange blakeSumsWrong)

/-- 'sheavelaw06.BlakeHashes': WHATEVER THE INPUT: true; the input reads as it did. -/
def blakeHashesSpec : ChangeSpec := { name := "blakeHashes", fn := fun _ => fun
  | [d] => { results := [.lit (.bool true)], args := [d] }
  | _ => none }
def blakeHashesRow : OpenClaim := { program := "ytmchfdfmcobenaadoor", sum := "7cfc93a9f04ec417e344149c5b3c7253d2ecbd2241cba18173016561ba981c91", func := "sheave/sheavelaw06.BlakeHashes", spec := "blakeHashes", named := ["sheave/blake.iv", "sheave/blake.places", "sheave/blake.rows"], apart := false, laid := [("sheave/blake.iv", laid_sheave_blake_iv), ("sheave/blake.rows", laid_sheave_blake_rows), ("sheave/blake.places", laid_sheave_blake_places)] }
def BlakeHashesSaid : Prop := blakeHashesRow.holds Tryd.pinned (OpenSpec.ofChange blakeHashesSpec)

/-- ITS FALSE NEIGHBOUR: 'it returns false'. Refute it at one input. -/
def blakeHashesWrong : ChangeSpec := { name := "blakeHashes", fn := fun _ => fun
  | [d] => { results := [.lit (.bool false)], args := [d] }
  | _ => none }
def BlakeHashesWrongFalsely : Prop := blakeHashesRow.holds Tryd.pinned (OpenSpec.ofChange blakeHashesWrong)

/-- 'sheavelaw06.BlakeMacs': WHATEVER THE INPUT: true; the input reads as it did. -/
def blakeMacsSpec : ChangeSpec := { name := "blakeMacs", fn := fun _ => fun
  | [d1, d2] => { results := [.lit (.bool true)], args := [d1, d2] }
  | _ => none }
def blakeMacsRow : OpenClaim := { program := "ytmchfdfmcobenaadoor", sum := "7cfc93a9f04ec417e344149c5b3c7253d2ecbd2241cba18173016561ba981c91", func := "sheave/sheavelaw06.BlakeMacs", spec := "blakeMacs", named := ["sheave/blake.iv", "sheave/blake.places", "sheave/blake.rows"], apart := false, laid := [("sheave/blake.iv", laid_sheave_blake_iv), ("sheave/blake.rows", laid_sheave_blake_rows), ("sheave/blake.places", laid_sheave_blake_places)] }
def BlakeMacsSaid : Prop := blakeMacsRow.holds Tryd.pinned (OpenSpec.ofChange blakeMacsSpec)

/-- ITS FALSE NEIGHBOUR: 'it returns false'. Refute it at one input. -/
def blakeMacsWrong : ChangeSpec := { name := "blakeMacs", fn := fun _ => fun
  | [d1, d2] => { results := [.lit (.bool false)], args := [d1, d2] }
  | _ => none }
def BlakeMacsWrongFalsely : Prop := blakeMacsRow.holds Tryd.pinned (OpenSpec.ofChange blakeMacsWrong)

/-- 'sheavelaw06.BlakeNoughts': WHATEVER THE INPUT: true; the input reads as it did. -/
def blakeNoughtsSpec : ChangeSpec := { name := "blakeNoughts", fn := fun _ => fun
  | [d1, d2, d3] => { results := [.lit (.bool true)], args := [d1, d2, d3] }
  | _ => none }
def blakeNoughtsRow : OpenClaim := { program := "ytmchfdfmcobenaadoor", sum := "7cfc93a9f04ec417e344149c5b3c7253d2ecbd2241cba18173016561ba981c91", func := "sheave/sheavelaw06.BlakeNoughts", spec := "blakeNoughts", named := ["sheave/blake.iv", "sheave/blake.places", "sheave/blake.rows"], apart := false, laid := [("sheave/blake.iv", laid_sheave_blake_iv), ("sheave/blake.rows", laid_sheave_blake_rows), ("sheave/blake.places", laid_sheave_blake_places)] }
def BlakeNoughtsSaid : Prop := blakeNoughtsRow.holds Tryd.pinned (OpenSpec.ofChange blakeNoughtsSpec)

/-- ITS FALSE NEIGHBOUR: 'it returns false'. Refute it at one input. -/
def blakeNoughtsWrong : ChangeSpec := { name := "blakeNoughts", fn := fun _ => fun
  | [d1, d2, d3] => { results := [.lit (.bool false)], args := [d1, d2, d3] }
  | _ => none }
def BlakeNoughtsWrongFalsely : Prop := blakeNoughtsRow.holds Tryd.pinned (OpenSpec.ofChange blakeNoughtsWrong)

/-- 'sheavelaw06.BlakeParts': WHATEVER THE INPUT: true; the input reads as it did. -/
def blakePartsSpec : ChangeSpec := { name := "blakeParts", fn := fun _ => fun
  | [d1, d2] => { results := [.lit (.bool true)], args := [d1, d2] }
  | _ => none }
def blakePartsRow : OpenClaim := { program := "ytmchfdfmcobenaadoor", sum := "7cfc93a9f04ec417e344149c5b3c7253d2ecbd2241cba18173016561ba981c91", func := "sheave/sheavelaw06.BlakeParts", spec := "blakeParts", named := ["sheave/blake.iv", "sheave/blake.places", "sheave/blake.rows"], apart := false, laid := [("sheave/blake.iv", laid_sheave_blake_iv), ("sheave/blake.rows", laid_sheave_blake_rows), ("sheave/blake.places", laid_sheave_blake_places)] }
def BlakePartsSaid : Prop := blakePartsRow.holds Tryd.pinned (OpenSpec.ofChange blakePartsSpec)

/-- ITS FALSE NEIGHBOUR: 'it returns false'. Refute it at one input. -/
def blakePartsWrong : ChangeSpec := { name := "blakeParts", fn := fun _ => fun
  | [d1, d2] => { results := [.lit (.bool false)], args := [d1, d2] }
  | _ => none }
def BlakePartsWrongFalsely : Prop := blakePartsRow.holds Tryd.pinned (OpenSpec.ofChange blakePartsWrong)

/-- 'sheavelaw06.BlakeMade': WHATEVER THE INPUT: true; the input reads as it did. -/
def blakeMadeSpec : ChangeSpec := { name := "blakeMade", fn := fun _ => fun
  | [d1, d2] => { results := [.lit (.bool true)], args := [d1, d2] }
  | _ => none }
def blakeMadeRow : OpenClaim := { program := "ytmchfdfmcobenaadoor", sum := "7cfc93a9f04ec417e344149c5b3c7253d2ecbd2241cba18173016561ba981c91", func := "sheave/sheavelaw06.BlakeMade", spec := "blakeMade", named := ["sheave/blake.iv", "sheave/blake.places", "sheave/blake.rows"], apart := false, laid := [("sheave/blake.iv", laid_sheave_blake_iv), ("sheave/blake.rows", laid_sheave_blake_rows), ("sheave/blake.places", laid_sheave_blake_places)] }
def BlakeMadeSaid : Prop := blakeMadeRow.holds Tryd.pinned (OpenSpec.ofChange blakeMadeSpec)

/-- ITS FALSE NEIGHBOUR: 'it returns false'. Refute it at one input. -/
def blakeMadeWrong : ChangeSpec := { name := "blakeMade", fn := fun _ => fun
  | [d1, d2] => { results := [.lit (.bool false)], args := [d1, d2] }
  | _ => none }
def BlakeMadeWrongFalsely : Prop := blakeMadeRow.holds Tryd.pinned (OpenSpec.ofChange blakeMadeWrong)

/- THE SECOND FORM. 'bulk': how many values and letters a reading holds, each counted each time it is reached (what is shared counts as often as it is met; a slice's spare places count too). A statement '..UptoSaid' is the law's where the arguments, and the package variables that the reading takes, are together of bulk at most 1048576: NARROWER than '..Said'. Prove '..Said' where nothing that the law and all that it calls make is longer than what came in: it says more and counts as full. Else prove '..UptoSaid'. A law counts once. -/
mutual
def uptoBulk {H : Type} : DataW H → Nat
  | .lit (.string bytes) => bytes.length + 1
  | .lit _ => 1
  | .nil => 1
  | .ptr d => uptoBulk d + 1
  | .slice elems spare => uptoBulkAll elems + uptoBulkAll spare + 1
  | .agg parts => uptoBulkAll parts + 1
  | .iface _ d => uptoBulk d + 1
  | .map entries => uptoBulkEntries entries + 1
  | .held _ => 1
def uptoBulkAll {H : Type} : List (DataW H) → Nat
  | [] => 0
  | d :: r => uptoBulk d + uptoBulkAll r
def uptoBulkEntries {H : Type} : List (Lit × DataW H) → Nat
  | [] => 0
  | x :: r => uptoBulkEntry x + uptoBulkEntries r
def uptoBulkEntry {H : Type} : Lit × DataW H → Nat
  | (.string bytes, d) => bytes.length + uptoBulk d + 1
  | (_, d) => uptoBulk d + 1
 end
def uptoSmall : (H : Type) → List (DataW H) → Bool := fun _ ds => decide (uptoBulkAll ds ≤ 1048576)
def OpenSpec.upto (s : _root_.Go.ChangeSpec) : _root_.Go.OpenSpec := { _root_.Go.OpenSpec.ofChange s with cond := some uptoSmall }

/-- 'sheavelaw06.BlakeSums', WHERE WHAT IT READS IS OF BULK AT MOST 1048576: true; the input reads as it did. -/
def blakeSumsUptoRow : OpenClaim := { program := "ytmchfdfmcobenaadoor", sum := "7cfc93a9f04ec417e344149c5b3c7253d2ecbd2241cba18173016561ba981c91", func := "sheave/sheavelaw06.BlakeSums", spec := "blakeSums", named := ["sheave/blake.iv", "sheave/blake.places", "sheave/blake.rows"], apart := false, laid := [("sheave/blake.iv", laid_sheave_blake_iv), ("sheave/blake.rows", laid_sheave_blake_rows), ("sheave/blake.places", laid_sheave_blake_places)], narrowed := true }
def BlakeSumsUptoSaid : Prop := blakeSumsUptoRow.holds Tryd.pinned (OpenSpec.upto blakeSumsSpec)

/-- 'sheavelaw06.BlakeHashes', WHERE WHAT IT READS IS OF BULK AT MOST 1048576: true; the input reads as it did. -/
def blakeHashesUptoRow : OpenClaim := { program := "ytmchfdfmcobenaadoor", sum := "7cfc93a9f04ec417e344149c5b3c7253d2ecbd2241cba18173016561ba981c91", func := "sheave/sheavelaw06.BlakeHashes", spec := "blakeHashes", named := ["sheave/blake.iv", "sheave/blake.places", "sheave/blake.rows"], apart := false, laid := [("sheave/blake.iv", laid_sheave_blake_iv), ("sheave/blake.rows", laid_sheave_blake_rows), ("sheave/blake.places", laid_sheave_blake_places)], narrowed := true }
def BlakeHashesUptoSaid : Prop := blakeHashesUptoRow.holds Tryd.pinned (OpenSpec.upto blakeHashesSpec)

/-- 'sheavelaw06.BlakeMacs', WHERE WHAT IT READS IS OF BULK AT MOST 1048576: true; the input reads as it did. -/
def blakeMacsUptoRow : OpenClaim := { program := "ytmchfdfmcobenaadoor", sum := "7cfc93a9f04ec417e344149c5b3c7253d2ecbd2241cba18173016561ba981c91", func := "sheave/sheavelaw06.BlakeMacs", spec := "blakeMacs", named := ["sheave/blake.iv", "sheave/blake.places", "sheave/blake.rows"], apart := false, laid := [("sheave/blake.iv", laid_sheave_blake_iv), ("sheave/blake.rows", laid_sheave_blake_rows), ("sheave/blake.places", laid_sheave_blake_places)], narrowed := true }
def BlakeMacsUptoSaid : Prop := blakeMacsUptoRow.holds Tryd.pinned (OpenSpec.upto blakeMacsSpec)

/-- 'sheavelaw06.BlakeNoughts', WHERE WHAT IT READS IS OF BULK AT MOST 1048576: true; the input reads as it did. -/
def blakeNoughtsUptoRow : OpenClaim := { program := "ytmchfdfmcobenaadoor", sum := "7cfc93a9f04ec417e344149c5b3c7253d2ecbd2241cba18173016561ba981c91", func := "sheave/sheavelaw06.BlakeNoughts", spec := "blakeNoughts", named := ["sheave/blake.iv", "sheave/blake.places", "sheave/blake.rows"], apart := false, laid := [("sheave/blake.iv", laid_sheave_blake_iv), ("sheave/blake.rows", laid_sheave_blake_rows), ("sheave/blake.places", laid_sheave_blake_places)], narrowed := true }
def BlakeNoughtsUptoSaid : Prop := blakeNoughtsUptoRow.holds Tryd.pinned (OpenSpec.upto blakeNoughtsSpec)

/-- 'sheavelaw06.BlakeParts', WHERE WHAT IT READS IS OF BULK AT MOST 1048576: true; the input reads as it did. -/
def blakePartsUptoRow : OpenClaim := { program := "ytmchfdfmcobenaadoor", sum := "7cfc93a9f04ec417e344149c5b3c7253d2ecbd2241cba18173016561ba981c91", func := "sheave/sheavelaw06.BlakeParts", spec := "blakeParts", named := ["sheave/blake.iv", "sheave/blake.places", "sheave/blake.rows"], apart := false, laid := [("sheave/blake.iv", laid_sheave_blake_iv), ("sheave/blake.rows", laid_sheave_blake_rows), ("sheave/blake.places", laid_sheave_blake_places)], narrowed := true }
def BlakePartsUptoSaid : Prop := blakePartsUptoRow.holds Tryd.pinned (OpenSpec.upto blakePartsSpec)

/-- 'sheavelaw06.BlakeMade', WHERE WHAT IT READS IS OF BULK AT MOST 1048576: true; the input reads as it did. -/
def blakeMadeUptoRow : OpenClaim := { program := "ytmchfdfmcobenaadoor", sum := "7cfc93a9f04ec417e344149c5b3c7253d2ecbd2241cba18173016561ba981c91", func := "sheave/sheavelaw06.BlakeMade", spec := "blakeMade", named := ["sheave/blake.iv", "sheave/blake.places", "sheave/blake.rows"], apart := false, laid := [("sheave/blake.iv", laid_sheave_blake_iv), ("sheave/blake.rows", laid_sheave_blake_rows), ("sheave/blake.places", laid_sheave_blake_places)], narrowed := true }
def BlakeMadeUptoSaid : Prop := blakeMadeUptoRow.holds Tryd.pinned (OpenSpec.upto blakeMadeSpec)

end Rows
end Go.Proofs.YtmchfdfmcobenaaDoor
