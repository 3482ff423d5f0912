/- What the program's Sum, Hash and Mac are to answer. -/
import Derived.Test.YtmchfdfmcobenaaDoorBg
import Derived.Test.YtmchfdfmcobenaaDoorBb
import Derived.Test.YtmchfdfmcobenaaDoorSr
import Derived.Test.YtmchfdfmcobenaaDoorKy
namespace Go.Proofs.YtmchfdfmcobenaaDoor
open Go.RowKit

def BSumOK : Prop := ∀ (kp : Option Addr) (kl kc : Nat), kl ≤ 140737488355072 → kl ≤ kc → (kp = none → kc = 0) → ∀ key : Nat → Int, In 256 kl key → ∀ size : Int, (-9223372036854775808 ≤ size ∧ size < 9223372036854775808) → ∀ (sp : Option Addr) (len cap : Nat), len ≤ 140737488355072 → len ≤ cap → (sp = none → cap = 0) → ∀ z : Nat → Int, In 256 len z → ∀ w : World, BGlob w → Src w kp kl key → Src w sp len z →
    Calls Tryd.prog 10 #[.slice kp kl kc, .int .i64 size, .slice sp len cap] w fun e w' => ∃ sp' cap', e = .returned (.tuple #[.slice sp' (bL kl size) cap', .int .i64 (bE kl size)]) ∧ Src w' sp' (bL kl size) (bsum kl key size.toNat len z) ∧ Below w.heap.size w w'
def BHashOK : Prop := ∀ (sp : Option Addr) (len cap : Nat), len ≤ 140737488355072 → len ≤ cap → (sp = none → cap = 0) → ∀ z : Nat → Int, In 256 len z → ∀ w : World, BGlob w → Src w sp len z →
    Calls Tryd.prog 12 #[.slice sp len cap] w fun e w' => e = .returned (.agg (row .u8 32 (bhash len z)).toArray) ∧ Below w.heap.size w w'
def BMacOK : Prop := ∀ (kp : Option Addr) (kl kc : Nat), kl ≤ 140737488355072 → kl ≤ kc → (kp = none → kc = 0) → ∀ key : Nat → Int, In 256 kl key → ∀ (sp : Option Addr) (len cap : Nat), len ≤ 140737488354816 → len ≤ cap → (sp = none → cap = 0) → ∀ z : Nat → Int, In 256 len z → ∀ w : World, BGlob w → Src w kp kl key → Src w sp len z →
    Calls Tryd.prog 14 #[.slice kp kl kc, .slice sp len cap] w fun e w' => e = .returned (.agg (row .u8 32 (bmac kl key len z)).toArray) ∧ Below w.heap.size w w'
end Go.Proofs.YtmchfdfmcobenaaDoor
