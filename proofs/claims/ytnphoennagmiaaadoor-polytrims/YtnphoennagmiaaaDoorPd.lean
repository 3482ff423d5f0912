/- What the program's Sum and Same are to answer. -/
import Derived.Test.YtnphoennagmiaaaDoorPa
import Derived.Test.YtnphoennagmiaaaDoorSc
import Derived.Test.YtnphoennagmiaaaDoorKy
namespace Go.Proofs.YtnphoennagmiaaaDoor
open Go.RowKit

def SumOK : Prop := ∀ (k : Nat → Int), In 256 32 k → ∀ (sp : Option Addr) (len cap : Nat), len ≤ 140737488355328 → len ≤ cap → ∀ z : Nat → Int, In 256 len z → ∀ w : World, Glob w → Src w sp len z →
    Calls Tryd.prog 9 #[(.agg (row .u8 32 (k)).toArray), .slice sp len cap] w fun e w' => ∃ f : Nat → Int, e = .returned (.agg (row .u8 16 (f)).toArray) ∧ (In 256 16 f ∧ val 256 f 16 = ptag k len z) ∧ Below w.heap.size w w'
def SameOK : Prop := ∀ a b : Nat → Int, In 256 16 a → In 256 16 b → ∀ w : World, Glob w →
    Calls Tryd.prog 11 #[(.agg (row .u8 16 (a)).toArray), (.agg (row .u8 16 (b)).toArray)] w fun e w' => e = .returned (.bool (decide (val 256 a 16 = val 256 b 16))) ∧ Below w.heap.size w w'
/-- Rows, and one slice that stands. -/
structure KS (w : World) (m : Nat) (l : List (Nat × IntKind × Nat × (Nat → Int))) (R : List (Nat × Nat)) (sp : Option Addr) (len : Nat) (z : Nat → Int) (w' : World) : Prop where
  kr : Kr w m l R w'
  src : Src w' sp len z
section
variable {w w' w'' : World} {m : Nat} {l : List (Nat × IntKind × Nat × (Nat → Int))} {R : List (Nat × Nat)} {sp : Option Addr} {len : Nat} {z : Nat → Int}
theorem KS.call (h : KS w m l R sp len z w') (b : Below w'.heap.size w' w'') : KS w m l R sp len z w'' := ⟨h.kr.call b, h.src.below b (Nat.le_refl _)⟩
theorem KS.drew (h : KS w m l R sp len z w') : KS w m l R sp len z w'.drew := h.call (Below.refl _ _).drew
end
end Go.Proofs.YtnphoennagmiaaaDoor
