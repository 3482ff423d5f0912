/- Parts of slices that stand; no program stands in this. -/
import Derived.Test.YtmchfdfmcobenaaDoorAr
namespace Go.Proofs.YtmchfdfmcobenaaDoor
open Go.RowKit

theorem Src.none {w : World} {sp : Option Addr} {len : Nat} {z : Nat → Int} (h : Src w sp len z) : sp = none → len = 0 := fun e => by
  rcases Nat.eq_zero_or_pos len with h0 | h0
  · exact h0
  · obtain ⟨ad, he, _⟩ := h 0 h0
    rw [e] at he
    cases he

section
variable {P : Program} {o : Oper} {a : Act}
theorem negI (k : IntKind) (n r : Int) (t : TypeId) (x : Operand) (ho : o.op = .unOp .neg t x) (hx : a.eval x = .int k n) (hr : k.wrap (0 - n) = r) (w : World) : (execOp a.eval o).run P w = .ok (.value (.int k r)) w := by
  unfold execOp
  simp only [ho, hx, Op.unary, Op.intArith, Sem.run_bind, Sem.run_pure, Result.andThen_ok, hr]
/-- The first bytes of a slice, and what stands behind them. -/
theorem cut_hi {t : TypeId} (ht : P.underlying t = some (.slice (P.elem t))) (hsz : ∀ w, (sizeOf (P.elem t)).run P w = .ok 1 w) (sp : Option Addr) (len cap m : Nat) (hm : m ≤ len) (hc : len ≤ cap) :
    ∃ sp', (∀ w, (Instr.sliceAt t (.slice sp len cap) none (some (.int .i64 (m : Int))) none).run P w = .ok (.slice sp' m cap) w) ∧ ∀ w z, Src w sp len z → Src w sp' m z := by
  refine ⟨if cap = 0 then sp else sp.map (·.add (0 * 1)), fun w => ?_, fun w z h j hj => ?_⟩
  · rw [run_sliceAt_slice w t _ _ _ _ ht, run_slice_h w t sp len cap ht .i64 (m : Int) (by omega) (by omega), hsz]
    simp only [Result.andThen, sliced, Int.toNat_natCast, Nat.sub_zero]
  · obtain ⟨ad, rfl, hc'⟩ := h j (by omega)
    rw [if_neg (by omega)]
    exact ⟨ad.add (0 * 1), rfl, by rw [Nat.zero_mul, Addr.add_add, Nat.zero_add]; exact hc'⟩
theorem cut_lo {t : TypeId} (ht : P.underlying t = some (.slice (P.elem t))) (hsz : ∀ w, (sizeOf (P.elem t)).run P w = .ok 1 w) (sp : Option Addr) (len cap m : Nat) (hm : m ≤ len) (hc : len ≤ cap) :
    ∃ sp', (∀ w, (Instr.sliceAt t (.slice sp len cap) (some (.int .i64 (m : Int))) none none).run P w = .ok (.slice sp' (len - m) (cap - m)) w) ∧ ∀ w z, Src w sp len z → Src w sp' (len - m) (fun j => z (m + j)) := by
  refine ⟨if cap = m then sp else sp.map (·.add (m * 1)), fun w => ?_, fun w z h j hj => ?_⟩
  · rw [run_sliceAt_slice w t _ _ _ _ ht, run_slice_l w t sp len cap ht .i64 (m : Int) (by omega) (by omega), hsz]
    simp only [Result.andThen, sliced, Int.toNat_natCast]
  · obtain ⟨ad, rfl, hc'⟩ := h (m + j) (by omega)
    rw [if_neg (by omega)]
    exact ⟨ad.add (m * 1), rfl, by rw [Nat.mul_one, Addr.add_add]; exact hc'⟩
theorem cut_lh {t : TypeId} (ht : P.underlying t = some (.slice (P.elem t))) (hsz : ∀ w, (sizeOf (P.elem t)).run P w = .ok 1 w) (sp : Option Addr) (len cap l h : Nat) (hl : l ≤ h) (hh : h ≤ len) (hc : len ≤ cap) :
    ∃ sp', (∀ w, (Instr.sliceAt t (.slice sp len cap) (some (.int .i64 (l : Int))) (some (.int .i64 (h : Int))) none).run P w = .ok (.slice sp' (h - l) (cap - l)) w) ∧ ∀ w z, Src w sp len z → Src w sp' (h - l) (fun j => z (l + j)) := by
  refine ⟨if cap = l then sp else sp.map (·.add (l * 1)), fun w => ?_, fun w z hs j hj => ?_⟩
  · rw [run_sliceAt_slice w t _ _ _ _ ht, run_slice_lh w t sp len cap ht .i64 .i64 (l : Int) (h : Int) (by omega) (by omega) (by omega), hsz]
    simp only [Result.andThen, sliced, Int.toNat_natCast]
  · obtain ⟨ad, rfl, hc'⟩ := hs (l + j) (by omega)
    rw [if_neg (by omega)]
    exact ⟨ad.add (l * 1), rfl, by rw [Nat.mul_one, Addr.add_add]; exact hc'⟩
theorem cutLHop {w : World} (t : TypeId) (x y z : Operand) (p q r v : Value) (ho : o.op = .slice t x (some y) (some z) none) (hx : a.eval x = p) (hy : a.eval y = q) (hz : a.eval z = r) (hr : (Instr.sliceAt t p (some q) (some r) none).run P w = .ok v w) :
    (execOp a.eval o).run P w = .ok (.value v) w := by
  unfold execOp
  simp only [ho, hx, hy, hz, Option.map_some, Option.map_none, Sem.run_bind, hr, Result.andThen_ok, Sem.run_pure]
end
end Go.Proofs.YtmchfdfmcobenaaDoor
