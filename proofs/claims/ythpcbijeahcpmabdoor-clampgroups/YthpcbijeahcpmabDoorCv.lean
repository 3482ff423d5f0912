/- Small things that the statements' walks want: bytes in a list, one cell of a row written anew, '==' on numbers. -/
import Derived.Test.YthpcbijeahcpmabDoorCw
import Derived.Test.YthpcbijeahcpmabDoorCb
import Derived.Lib.SlBytesConst
namespace Go.Proofs.YthpcbijeahcpmabDoor
open Go.RowKit

/-- The first bytes from a list, noughts behind them. -/
def bl (l : List Int) : Nat → Int := fun j => l.getD j 0
theorem bl_in (l : List Int) (n : Nat) (h : ∀ x ∈ l, 0 ≤ x ∧ x < 256) : In 256 n (bl l) := fun j _ => by
  unfold bl
  rw [List.getD_eq_getElem?_getD]
  cases e : l[j]? with
  | none => simp
  | some x => simpa using h x (List.mem_of_getElem? e)

theorem Kr.setCell {w w' : World} {m : Nat} {l : List (Nat × IntKind × Nat × (Nat → Int))} {R : List (Nat × Nat)} (h : Kr w m l R w') (l' : List (Nat × IntKind × Nat × (Nat → Int))) (b : Nat) (k : IntKind) (n : Nat) (f : Nat → Int) (i : Nat) (hi : i < n) (x : Int) (hp : (b, k, n, f) ∈ l) (hl : ∀ p ∈ l', p ∈ l) (hne : ∀ p ∈ l', p.1 ≠ b) (hlo : w.heap.size ≤ b) :
    Kr w m ((b, k, n, upd f i x) :: l') R (w'.setCell ⟨b, i, none⟩ (.int k x)) :=
  ((h.loose l' b k n f hp hl hne hlo).poke b n List.mem_cons_self i [.int k x]).settle R b k n (upd f i x) List.mem_cons_self (fun _ hq => List.mem_cons_of_mem _ hq) (fun q hq => (h.apart _ hp q hq).symm) ((h.get _ _ _ _ hp).set i hi x)

theorem Kr.boxO {w w' : World} {m : Nat} {l : List (Nat × IntKind × Nat × (Nat → Int))} {R : List (Nat × Nat)} (h : Kr w m l R w') (k : IntKind) (n : Nat) (f : Nat → Int) (o : Obj) (b : Nat) (hb : b = w'.heap.size) (hn : Has (w'.alloc o) b k n f) : Kr w (b + 1) ((b, k, n, f) :: l) R (w'.alloc o) := by
  have hc := h.call ((Below.refl w'.heap.size w').alloc (Nat.le_refl _) o)
  refine ⟨fun p hp => ?_, fun q hq => ⟨(hc.room q hq).1, by have := (hc.room q hq).2.1; have := h.size; omega, (hc.room q hq).2.2⟩, fun p hp q hq => ?_, by simp; omega, by have := h.base; have := h.size; omega, hc.below⟩
  · rcases List.mem_cons.1 hp with rfl | hp
    · exact ⟨hn, by simp⟩
    · exact ⟨(hc.rows p hp).1, by have := (hc.rows p hp).2; have := h.size; omega⟩
  · rcases List.mem_cons.1 hp with rfl | hp
    · have := (h.room q hq).2.1; have := h.size; simp only; omega
    · exact h.apart p hp q hq
/-- A row of a constant text: one place behind it is marked. -/
theorem has_marked (w : World) (k : IntKind) (n : Nat) (f : Nat → Int) (t : TypeId) : Has (w.alloc (.cells (row k n f).toArray t ((row k n f).toArray.size, (row k n f).toArray.size + 1))) w.heap.size k n f := by
  have e : (w.alloc (.cells (row k n f).toArray t ((row k n f).toArray.size, (row k n f).toArray.size + 1))).heap[w.heap.size]? = some (.cells (row k n f).toArray t ((row k n f).toArray.size, (row k n f).toArray.size + 1)) := by
    show (w.heap.push _)[w.heap.size]? = _
    simp
  refine ⟨fun j hj => ?_, fun j hj => ?_⟩
  · simp only [World.cell?, e]
    simpa using row_get k n f j hj
  · unfold World.frozen?
    rw [e]
    simp [row_length]
    omega
theorem conv_const {P : Program} {o : Oper} {a : Act} {w : World} (t e : TypeId) (C : Array Value) (n c : Nat) (x : Operand) (ho : o.op = .convert t t x) (hx : a.eval x = .slice (some ⟨w.heap.size, 0, none⟩) n c) (ht : P.underlying t = some (.slice e)) (he : P.underlying e = some (.int .u8)) :
    (execOp a.eval o).run P (w.alloc (.cells C e)) = .ok (.value (.slice (some ⟨w.heap.size, 0, none⟩) n c)) (w.alloc (.cells C e (C.size, C.size + 1))) := by
  unfold execOp
  simp only [ho, hx, Sem.run_bind, Lib.run_convert_bytes_const w t e C n c ht he, Result.andThen_ok, Sem.run_pure]
theorem Kr.drewN {w w' : World} {m : Nat} {l : List (Nat × IntKind × Nat × (Nat → Int))} {R : List (Nat × Nat)} (h : Kr w m l R w') {q : Nat} : Kr w m l R (w'.drewN q) := ⟨fun p hp => ⟨⟨(h.rows p hp).1.cell, (h.rows p hp).1.free⟩, (h.rows p hp).2⟩, h.room, h.apart, h.size, h.base, below_drewN h.below⟩
theorem name_it {α : Type} {x : α} {C : Prop} (h : ∀ y, x = y → C) : C := h x rfl
theorem eqlI {P : Program} {o : Oper} {a : Act} (k : IntKind) (n n' : Int) (t t' : TypeId) (x y : Operand) (ho : o.op = .binOp .eql t x y t') (hx : a.eval x = .int k n) (hy : a.eval y = .int k n') (r : Bool) (hr : (n == n') = r) (w : World) :
    (execOp a.eval o).run P w = .ok (.value (.bool r)) w := by
  unfold execOp
  simp only [ho, hx, hy, Sem.run_bind, eqGuard_at_int, binOp_eql, Sem.run_pure, Result.andThen_ok, hr]
theorem leqI {P : Program} {o : Oper} {a : Act} (k : IntKind) (n n' : Int) (t t' : TypeId) (x y : Operand) (ho : o.op = .binOp .leq t x y t') (hx : a.eval x = .int k n) (hy : a.eval y = .int k n') (r : Bool) (hr : decide (n ≤ n') = r) (w : World) :
    (execOp a.eval o).run P w = .ok (.value (.bool r)) w := by
  unfold execOp
  simp only [ho, hx, hy, Sem.run_bind, eqGuard_at_int, binOp_leq, Sem.run_pure, Result.andThen_ok, hr]
/-- The last byte of least bytes is 3 at most. -/
theorem top_byte {f : Nat → Int} {x : Int} (h : In 256 17 f) (e : val 256 f 17 = x % Q) : f 16 ≤ 3 := by
  have v := big_val f
  have i0 := val_in 256 (by decide) f 8 (fun j hj => h j (by omega))
  have i1 := val_in 256 (by decide) (fun j => f (8 + j)) 8 (fun j hj => h (8 + j) (by omega))
  have q : x % Q < Q := Int.emod_lt_of_pos _ (by decide)
  rw [e] at v
  simp only [Q] at *
  omega
end Go.Proofs.YthpcbijeahcpmabDoor
