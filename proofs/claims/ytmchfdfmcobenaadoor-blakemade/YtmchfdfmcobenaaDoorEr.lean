/- Two rows of the same numbers are equal to '=='; no program stands in this. -/
import Derived.Test.YtmchfdfmcobenaaDoorAr
import Derived.Laws.StructEq
import Derived.Laws.Small
namespace Go.Proofs.YtmchfdfmcobenaaDoor
open Go.RowKit

theorem run_equalIn_row {P : Program} (w : World) (d : Nat) (t e : TypeId) (n : Nat) (k : IntKind) (ht : P.underlying t = some (.array n e)) (he : P.underlying e = some (.int k)) (hsz : ∀ w, (sizeOf e).run P w = .ok 1 w) (f : Nat → Int) :
    (Op.equalIn (d + 2) t (.agg (row k n f).toArray) (.agg (row k n f).toArray)).run P w = .ok true w := by
  rw [Op.equalIn]
  simp only [Sem.run_bind, run_underlying ht, Result.andThen_ok, hsz, Std.Legacy.Range.forIn_eq_forIn_range', Std.Legacy.Range.size, Nat.sub_zero, Nat.add_sub_cancel, Nat.div_one]
  have hl : ∀ i ∈ List.range' 0 n 1, i < n := fun i hi => by simpa using (List.mem_range'_1.1 hi).2
  generalize List.range' 0 n 1 = l at hl ⊢
  induction l with
  | nil => simp
  | cons i l ih =>
    have hi : i < n := hl i (by simp)
    have px : (part e (row k n f).toArray (i * 1)).run P w = .ok (.int k (f i)) w := by
      simp [part, isAgg, run_underlying he, row_get k n f i hi]
    have pe : (Op.equalIn (d + 1) e (.int k (f i)) (.int k (f i))).run P w = .ok true w := by
      rw [run_equalIn_int w d e k k _ _ he, beq_self_eq_true]
    simp only [List.forIn_cons, Sem.run_bind, px, pe, Result.andThen_ok, Bool.not_true, Bool.false_eq_true, if_false, Sem.run_pure]
    exact ih fun j hj => hl j (by simp [hj])
theorem eqlRow {P : Program} {o : Oper} {a : Act} (n : Nat) (k : IntKind) (f g : Nat → Int) (t e t' : TypeId) (x y : Operand) (ho : o.op = .binOp .eql t x y t') (hx : a.eval x = .agg (row k n f).toArray) (hy : a.eval y = .agg (row k n g).toArray)
    (ht : P.underlying t = some (.array n e)) (he : P.underlying e = some (.int k)) (hsz : ∀ w, (sizeOf e).run P w = .ok 1 w) (hm : P.eqGuardType P.depth t = false) (h : ∀ j, j < n → f j = g j) (w : World) :
    (execOp a.eval o).run P w = .ok (.value (.bool true)) w := by
  rw [← row_congr k n h] at hy
  have e1 : (binOp .eql t (.agg (row k n f).toArray) (.agg (row k n f).toArray)).run P w = .ok (.bool true) w := by
    rw [run_eql_struct, run_equalIn_row w 9998 t e n k ht he hsz f]
    rfl
  unfold execOp
  simp only [ho, hx, hy, Sem.run_bind, run_eqGuard_agg w .eql t x y _ _ hm, Result.andThen_ok, e1, Sem.run_pure]
theorem eqlB {P : Program} {o : Oper} {a : Act} (p q : Bool) (t t' : TypeId) (x y : Operand) (ho : o.op = .binOp .eql t x y t') (hx : a.eval x = .bool p) (hy : a.eval y = .bool q) (ht : P.underlying t = some .bool) (r : Bool) (hr : (p == q) = r) (w : World) :
    (execOp a.eval o).run P w = .ok (.value (.bool r)) w := by
  unfold execOp
  simp only [ho, hx, hy, Sem.run_bind, eqGuard_at_bool, run_eql_bool w t p q ht, Sem.run_pure, Result.andThen_ok, hr]
end Go.Proofs.YtmchfdfmcobenaaDoor
