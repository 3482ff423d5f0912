/- Slices of bytes: made, appended to, a place within one. -/
import Derived.Test.YtmchfdfmcobenaaDoorProg
import Derived.Test.YtmchfdfmcobenaaDoorOw
import Derived.KernelRfl
import Derived.Laws.MakeOwn
namespace Go.Proofs.YtmchfdfmcobenaaDoor
open Go.RowKit

theorem made8 (n : Nat) (hn : n ≤ 281474976710656) (w : World) : (Instr.makeSlice 22 (.int .i64 (n : Int)) (.int .i64 (n : Int))).run Tryd.prog w = .ok (.slice (some ⟨w.heap.size, 0, none⟩) n n) (w.alloc (.cells (row .u8 n (fun _ => 0)).toArray 5)) := by
  have h0 : (Tryd.prog.info? 5).map (fun i => (i.zero, i.bytes, i.size)) = some (some (.int .u8 0), 1, 1) := by kernel_rfl
  obtain ⟨i, hi, he⟩ := Option.map_eq_some_iff.1 h0
  simp only [Prod.mk.injEq] at he
  obtain ⟨h1, h2, h3⟩ := he
  rw [run_make w 22 5 i _ Tryd.underlying22 hi h1 .i64 .i64 n n (by omega) (by omega) (by rw [h2]; omega) (by omega), h3]
  simp only [Int.toNat_natCast, Nat.mul_one]
  have e : madeCells (Value.int .u8 0).cells n = (row .u8 n (fun _ => 0)).toArray := by
    refine Array.toList_inj.1 ?_
    unfold madeCells row
    simp [Value.cells, Nat.mod_one]
  rw [e]
theorem makeOp {P : Program} {o : Oper} {a : Act} {w w' : World} (t : TypeId) (x y : Operand) (p q v : Value) (ho : o.op = .makeSlice t x y) (hx : a.eval x = p) (hy : a.eval y = q) (hr : (Instr.makeSlice t p q).run P w = .ok v w') :
    (execOp a.eval o).run P w = .ok (.value v) w' := by
  unfold execOp
  simp only [ho, hx, hy, Sem.run_bind, hr, Result.andThen_ok, Sem.run_pure]
theorem one8 : One Tryd.prog 5 .u8 1 := ⟨by kernel_rfl⟩
theorem idxO (b len cap i : Nat) (hi : i < len) (w : World) {o : Oper} {a : Act} (x y : Operand) (ho : o.op = .indexAddr 22 x y) (hx : a.eval x = .slice (some ⟨b, 0, none⟩) len cap) (hy : a.eval y = .int .i64 (i : Int)) :
    (execOp a.eval o).run Tryd.prog w = .ok (.value (.pointer (some ⟨b, i, none⟩))) w := by
  have h := idxSl (P := Tryd.prog) 22 5 len cap .i64 ⟨b, 0, none⟩ i x y Tryd.underlying22 (fun _ => by kernel_rfl) hi ho hx hy w
  rw [Addr.add_mid, Nat.zero_add] at h
  exact h
end Go.Proofs.YtmchfdfmcobenaaDoor
