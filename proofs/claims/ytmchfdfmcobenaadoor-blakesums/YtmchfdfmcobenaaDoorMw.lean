/- Slices of words of 32 bits: appended to, a place within one. -/
import Derived.Test.YtmchfdfmcobenaaDoorProg
import Derived.Test.YtmchfdfmcobenaaDoorOw
import Derived.KernelRfl
namespace Go.Proofs.YtmchfdfmcobenaaDoor
open Go.RowKit

theorem one32 : One Tryd.prog 36 .u32 4 := ⟨by kernel_rfl⟩
theorem idxW (b len cap i : Nat) (hi : i < len) (w : World) {o : Oper} {a : Act} (x y : Operand) (ho : o.op = .indexAddr 42 x y) (hx : a.eval x = .slice (some ⟨b, 0, none⟩) len cap) (hy : a.eval y = .int .i64 (i : Int)) :
    (execOp a.eval o).run Tryd.prog w = .ok (.value (.pointer (some ⟨b, i, none⟩))) w := by
  have h := idxSl (P := Tryd.prog) 42 36 len cap .i64 ⟨b, 0, none⟩ i x y Tryd.underlying42 (fun _ => by kernel_rfl) hi ho hx hy w
  rw [Addr.add_mid, Nat.zero_add] at h
  exact h
end Go.Proofs.YtmchfdfmcobenaaDoor
