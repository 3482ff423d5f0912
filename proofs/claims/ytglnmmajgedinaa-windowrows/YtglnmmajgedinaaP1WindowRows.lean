/- Texts of Base Step Hold Float Gn Ar Ow Om Jl Sc Vl Mx My Ob Oc Fa Fb Fc Ff Gm Fg Fh Fi, joined. -/
import Derived.WalkKit
import Derived.WalkSpells
import Derived.Deep.RegionHeld3
import Derived.RowKit3
import Derived.Stop.BytesEq
import Derived.KernelRfl
import Derived.Deep.QuietTactic
import Derived.Lib.SlBytesConst
import Derived.Laws.BytesArg
import Derived.Laws.Concat
import Derived.Laws.AppendOwn
import Derived.Laws.OwnMore
import Derived.Test.YtglnmmajgedinaaProg
import Derived.Laws.MakeOwn
import Derived.Laws.StructEq
import Derived.Laws.Small
import Derived.Lib.ConvBytes
import Derived.Laws.Bits128
import Derived.Laws.Cells
import Derived.Defers
import Derived.Recover
import Derived.Deep.Cut
set_option maxRecDepth 20000
set_option maxHeartbeats 64000000
namespace Go.Proofs.Ytglnmmajgedinaa
open Go.RowKit
theorem aP (a : Act) (d : Tmp) (v : Value) : a.put (some d) v = { a with tmps := a.tmps.setIfInBounds d v } := rfl
theorem lI (l : List Value) (i : Nat) (v : Value) : l.toArray.setIfInBounds i v = (l.set i v).toArray := List.setIfInBounds_toArray l i v
theorem l0 (x v : Value) (l : List Value) : (x :: l).set 0 v = v :: l := rfl
theorem lS (x v : Value) (l : List Value) (n : Nat) : (x :: l).set (n + 1) v = x :: l.set n v := rfl
theorem mS {α : Type} {a : α} {l : List α} : a ∈ a :: l := List.mem_cons_self
theorem mT {α : Type} (y : α) {a : α} {l : List α} (h : a ∈ l) : a ∈ y :: l := List.mem_cons_of_mem y h
abbrev zu64_16 : Array Value := #[.int .u64 0, .int .u64 0, .int .u64 0, .int .u64 0, .int .u64 0, .int .u64 0, .int .u64 0, .int .u64 0, .int .u64 0, .int .u64 0, .int .u64 0, .int .u64 0, .int .u64 0, .int .u64 0, .int .u64 0, .int .u64 0]
def row (k : IntKind) (n : Nat) (f : Nat → Int) : List Value := (List.range n).map fun j => .int k (f j)
theorem row_length (k : IntKind) (n : Nat) (f : Nat → Int) : (row k n f).length = n := by simp [row]
theorem row_get (k : IntKind) (n : Nat) (f : Nat → Int) (j : Nat) (h : j < n) : (row k n f)[j]? = some (.int k (f j)) := by simp [row, h]
theorem row_congr (k : IntKind) (n : Nat) {f g : Nat → Int} (h : ∀ j, j < n → f j = g j) : row k n f = row k n g := by
  unfold row
  refine List.map_congr_left fun j hj => ?_
  rw [h j (List.mem_range.1 hj)]
theorem row_one (k : IntKind) (n : Nat) (f : Nat → Int) : ∀ v ∈ row k n f, v.oneCell' = true := by
  intro v hv
  obtain ⟨j, _, rfl⟩ := List.mem_map.1 hv
  rfl
theorem below_setAll {B : Nat} {w w' : World} (h : Below B w w') (b : Nat) (hb : B ≤ b) : ∀ (o : Nat) (vs : List Value), Below B w (w'.setCells b o vs)
  | _, [] => h
  | o, v :: vs => by
    rw [World.setCells]
    exact below_setAll (h.setCell (by simpa using hb) v) b hb (o + 1) vs
section
section
variable {P : Program} {ops : Array Oper} {Q : Exit → Act → World → Prop} {md : Region.Mode} {S : World → Prop}
theorem doesH {i : Nat} {oi : Oper} (dst : Option Tmp) (hdst : oi.dst = dst) {fuel : Nat} {listed : Array Bool} {a : Act} {w w' : World} (hr : Region.ready md ops listed = [i]) (hi : ops[i]? = some oi)
    (hw : Region.wanted oi (yielded ops a.tmps) = true) (he : (execOp a.eval oi).run P w = .ok .skip w') (hS : S w')
    (h : wpAnyH P md ops Q S fuel (listed.setIfInBounds i true) (a.put dst undef) w') : wpAnyH P md ops Q S (fuel + 1) listed a w :=
  ⟨fun h0 => (by rw [h0] at hr; cases hr), fun j hj => by
    rw [hr] at hj
    obtain rfl := List.mem_singleton.1 hj
    unfold wpOp
    simp only [hi, hw, if_true]
    refine .inl ?_
    unfold Oper.wp
    rw [he]
    subst hdst
    exact ⟨hS, h⟩⟩
/-! The same at a list of operations, whose order is the text's. -/
theorem callL {o : Oper} {f : FuncId} {args : Array Value} {R : Ending → World → Prop} {rest : List Oper} {a : Act} {w : World} (hw : Region.wanted o (yielded ops a.tmps) = true)
    (he : ∀ w, (execOp a.eval o).run P w = .ok (.enter f args) w) (hc : Calls P f args w R) (hK : ∀ e w', R e w' → ∃ v, e = .returned v ∧ wpList P ops Q rest (a.put o.dst v) w') : wpList P ops Q (o :: rest) a w := by
  unfold wpList
  rw [if_pos hw]
  refine .inl ?_
  unfold Oper.wp
  rw [he w]
  exact hc.mono fun e w' hR => by
    obtain ⟨v, rfl, h⟩ := hK e w' hR
    exact h
end
/-! What stands through calls: blocks with rows of 32 bytes in them. -/
/-! Two rows of bytes, held against each other. -/
open Extern.Stop (cell)
end
section
section
variable {P : Program} {ops : Array Oper} {Q : Exit → Act → World → Prop} {md : Region.Mode} {S : World → Prop} {c : Nat}
def wpAnyC (P : Program) (md : Region.Mode) (ops : Array Oper) (Q : Exit → Act → World → Prop) (S : World → Prop) (c : Nat) : Nat → Array Bool → Act → World → Prop
  | 0, l, a, w => Region.ready md ops l = [] ∧ Q .normal a w
  | n + 1, l, a, w => (Region.ready md ops l = [] → Q .normal a w) ∧
    ∀ i ∈ Region.ready md ops l, wpOp P ops Q i (fun a' w' => ((l.setIfInBounds i true).getD c true = false → S w') ∧ wpAnyC P md ops Q S c n (l.setIfInBounds i true) a' w') a w
theorem wpAny_of_C : ∀ (n : Nat) (l : Array Bool) (a : Act) (w : World), wpAnyC P md ops Q S c n l a w → wpAny P md ops Q n l a w
  | 0, _, _, _, h => h
  | n + 1, _, _, _, h => ⟨h.1, fun i hi => wpOp_mono (fun a' w' h' => wpAny_of_C n _ a' w' h'.2) (h.2 i hi)⟩
theorem listed_set {l : Array Bool} {i : Nat} (h : l.getD c true = true) : (l.setIfInBounds i true).getD c true = true := by
  by_cases e : i = c
  · subst e
    rw [Array.getD_eq_getD_getElem?]
    by_cases hb : i < l.size
    · rw [Array.getElem?_setIfInBounds_self_of_lt hb]; rfl
    · rw [Array.getElem?_eq_none (by simp; omega)]; rfl
  · rw [getD_set_ne true e]; exact h
theorem wpAnyC_rest : ∀ (n : Nat) (l : Array Bool) (a : Act) (w : World), l.getD c true = true → wpAny P md ops Q n l a w → wpAnyC P md ops Q S c n l a w
  | 0, _, _, _, _, h => h
  | n + 1, _, _, _, hc, h => ⟨h.1, fun i hi => wpOp_mono (fun a' w' h' => ⟨fun hf => (by rw [listed_set hc] at hf; cases hf), wpAnyC_rest n _ a' w' (listed_set hc) h'⟩) (h.2 i hi)⟩
theorem not_both {l : Array Bool} {i : Nat} (h0 : l.getD i true = false) (h1 : l.getD i false = true) : False := by
  rw [Array.getD_eq_getD_getElem?] at h0 h1
  cases e : l[i]? with
  | none => rw [e] at h0; cases h0
  | some b => rw [e] at h0 h1; simp only [Option.getD_some] at h0 h1; rw [h0] at h1; cases h1
theorem wpAnyC_first {i : Nat} {oi oc : Oper} {v : Value} (hi : ops[i]? = some oi) (hc : ops[c]? = some oc) (hwait : ∃ e ∈ oc.after, Region.binds md e = true ∧ e.on = i) (hsel : ∀ (j : Nat) (o : Oper) cs b, ops[j]? = some o → o.op ≠ .select cs b)
    (hQ : ∀ p a w, Q (.panic p) (a.put oi.dst v) w → Q (.panic p) a w) : ∀ (n : Nat) (l : Array Bool) (a : Act) (w : World),
      (∀ j oj, ops[j]? = some oj → j ≠ i → l.getD j true = false → (∀ e ∈ oj.after, Region.binds md e = true → e.on ≠ i) → oi.apart ops oj = true) →
      l.getD c true = false → i ∈ Region.ready md ops l → YieldsIf P ops S oi v a → S w →
      wpAnyC P md ops Q S c n (l.setIfInBounds i true) (a.put oi.dst v) w → wpAnyC P md ops Q S c (n + 1) l a w := by
  have waits : ∀ (l : Array Bool) (j : Nat), i ∈ Region.ready md ops l → j ∈ Region.ready md ops l → j ≠ c := fun l j hr hj e => by
    subst e
    obtain ⟨_, o, ho, hall⟩ := mem_ready.1 hj
    obtain rfl : o = oc := Option.some.inj (ho.symm.trans hc)
    obtain ⟨e, he, hb, rfl⟩ := hwait
    exact not_both (mem_ready.1 hr).1 (hall e he hb)
  intro n
  induction n with
  | zero =>
    intro l a w _ _ hr hy hS H
    refine ⟨fun h => (by rw [h] at hr; cases hr), fun j hj => ?_⟩
    by_cases hji : j = i
    · subst hji; exact hy.wpOp hi hS ⟨fun _ => hS, H⟩
    · have := ready_mono hj hji
      rw [H.1] at this
      cases this
  | succ n ih =>
    intro l a w hfree hlc hr hy hS H
    refine ⟨fun h => (by rw [h] at hr; cases hr), fun j hj => ?_⟩
    by_cases hji : j = i
    · subst hji; exact hy.wpOp hi hS ⟨fun _ => hS, H⟩
    · have hjc := waits l j hr hj
      have hic := waits l i hr hr
      obtain ⟨hjun, oj, hoj, hall⟩ := mem_ready.1 hj
      have hnot : ∀ e ∈ oj.after, Region.binds md e = true → e.on ≠ i := fun e he hb heq => not_both (mem_ready.1 hr).1 (by rw [← heq]; exact hall e he hb)
      have h2 := wpOp_putIf hoj (hfree j oj hoj hji hjun hnot) (fun cs b => hsel i oi cs b hi) (fun cs b => hsel j oj cs b hoj) hQ hy (H.2 j (ready_mono hj hji))
      have hfree' : ∀ k ok, ops[k]? = some ok → k ≠ i → (l.setIfInBounds j true).getD k true = false → (∀ e ∈ ok.after, Region.binds md e = true → e.on ≠ i) → oi.apart ops ok = true := fun k ok hk hki hun hno => by
        refine hfree k ok hk hki ?_ hno
        by_cases hjk : j = k
        · subst hjk; exact hjun
        · rw [getD_set_ne true hjk] at hun; exact hun
      refine wpOp_mono (fun a' w' h3 => ?_) h2
      have hS' : S w' := h3.2.1 (by rw [getD_set_ne true hjc, getD_set_ne true hic]; exact hlc)
      refine ⟨fun _ => hS', ih (l.setIfInBounds j true) a' w' hfree' (by rw [getD_set_ne true hjc]; exact hlc) (ready_mono hr (Ne.symm hji)) h3.1 hS' ?_⟩
      rw [Array.setIfInBounds_comm _ _ hji]
      exact h3.2.2
theorem wpAnyC_take {i : Nat} {oi oc : Oper} {v : Value} {n : Nat} {l : Array Bool} {a : Act} {w : World} (hi : ops[i]? = some oi) (hc : ops[c]? = some oc) (hwait : (oc.after.any fun e => Region.binds md e && e.on == i) = true)
    (hs : Region.noSelect ops = true) (hf : Region.free md ops l i = true) (hl : l.getD c true = false) (hr : (Region.ready md ops l).contains i = true)
    (hQ : ∀ p a w, Q (.panic p) (a.put oi.dst v) w → Q (.panic p) a w) (hy : YieldsIf P ops S oi v a) (hS : S w)
    (h : wpAnyC P md ops Q S c n (l.setIfInBounds i true) (a.put oi.dst v) w) : wpAnyC P md ops Q S c (n + 1) l a w := by
  refine wpAnyC_first hi hc ?_ (Region.noSelect_spec hs) hQ n l a w (Region.free_spec hi hf) hl (by simpa using hr) hy hS h
  obtain ⟨e, he, hb⟩ := Array.any_eq_true'.1 hwait
  simp only [Bool.and_eq_true, beq_iff_eq] at hb
  exact ⟨e, he, hb.1, hb.2⟩
theorem wpAnyC_pure {i : Nat} {oi : Oper} {v : Value} (hi : ops[i]? = some oi) (hic : i ≠ c) (hsel : ∀ (j : Nat) (o : Oper) cs b, ops[j]? = some o → o.op ≠ .select cs b)
    (hQ : ∀ p a w, Q (.panic p) (a.put oi.dst v) w → Q (.panic p) a w) : ∀ (n : Nat) (l : Array Bool) (a : Act) (w : World),
      (∀ j oj, ops[j]? = some oj → j ≠ i → l.getD j true = false → (∀ e ∈ oj.after, Region.binds md e = true → e.on ≠ i) → oi.apart ops oj = true) →
      i ∈ Region.ready md ops l → YieldsIf P ops (fun _ => True) oi v a → (l.getD c true = false → S w) →
      wpAnyC P md ops Q S c n (l.setIfInBounds i true) (a.put oi.dst v) w → wpAnyC P md ops Q S c (n + 1) l a w := by
  intro n
  induction n with
  | zero =>
    intro l a w _ hr hy hS H
    refine ⟨fun h => (by rw [h] at hr; cases hr), fun j hj => ?_⟩
    by_cases hji : j = i
    · subst hji; exact hy.wpOp hi trivial ⟨fun h => hS (by rw [getD_set_ne true hic] at h; exact h), H⟩
    · have := ready_mono hj hji
      rw [H.1] at this
      cases this
  | succ n ih =>
    intro l a w hfree hr hy hS H
    refine ⟨fun h => (by rw [h] at hr; cases hr), fun j hj => ?_⟩
    by_cases hji : j = i
    · subst hji; exact hy.wpOp hi trivial ⟨fun h => hS (by rw [getD_set_ne true hic] at h; exact h), H⟩
    · obtain ⟨hjun, oj, hoj, hall⟩ := mem_ready.1 hj
      have hnot : ∀ e ∈ oj.after, Region.binds md e = true → e.on ≠ i := fun e he hb heq => not_both (mem_ready.1 hr).1 (by rw [← heq]; exact hall e he hb)
      have h2 := wpOp_putIf hoj (hfree j oj hoj hji hjun hnot) (fun cs b => hsel i oi cs b hi) (fun cs b => hsel j oj cs b hoj) hQ hy (H.2 j (ready_mono hj hji))
      have hfree' : ∀ k ok, ops[k]? = some ok → k ≠ i → (l.setIfInBounds j true).getD k true = false → (∀ e ∈ ok.after, Region.binds md e = true → e.on ≠ i) → oi.apart ops ok = true := fun k ok hk hki hun hno => by
        refine hfree k ok hk hki ?_ hno
        by_cases hjk : j = k
        · subst hjk; exact hjun
        · rw [getD_set_ne true hjk] at hun; exact hun
      refine wpOp_mono (fun a' w' h3 => ?_) h2
      have hS' : (l.setIfInBounds j true).getD c true = false → S w' := fun hf => h3.2.1 (by rw [Array.setIfInBounds_comm _ _ (Ne.symm hji), getD_set_ne true hic]; exact hf)
      refine ⟨hS', ih (l.setIfInBounds j true) a' w' hfree' (ready_mono hr (Ne.symm hji)) h3.1 hS' ?_⟩
      rw [Array.setIfInBounds_comm _ _ hji]
      exact h3.2.2
theorem wp_region_C (c : Nat) {id : Nat} {a : Act} {w : World} (hm : P.follows .mixedOrders = true) (hS : S w.drew)
    (h : S w.drew → wpAnyC P .any ops Q S c ops.size (Array.replicate ops.size false) a w.drew) : (Code.region id ops true).wp P Q a w :=
  wp_region_any hm (wpAny_of_C _ _ _ _ (h hS))
end
section
variable {P : Program} {ops : Array Oper} {Q : Exit → Act → World → Prop} {md : Region.Mode} {S S2 : World → Prop} {c : Nat}
theorem pureC {i : Nat} {oi : Oper} (dst : Option Tmp) (hdst : oi.dst = dst) {n : Nat} {l : Array Bool} {a : Act} {w : World} (v : Value) (hi : ops[i]? = some oi) (hic : i ≠ c) (hw : Region.wanted oi (yielded ops a.tmps) = true)
    (hv : ∀ w, (execOp a.eval oi).run P w = .ok (.value v) w)
    (hs : Region.noSelect ops = true) (hf : Region.free md ops l i = true) (hr : (Region.ready md ops l).contains i = true)
    (hQ : ∀ p a w, Q (.panic p) (a.put dst v) w → Q (.panic p) a w) (hS : S w)
    (h : wpAnyC P md ops Q S c n (l.setIfInBounds i true) (a.put dst v) w) : wpAnyC P md ops Q S c (n + 1) l a w := by
  subst hdst
  exact wpAnyC_pure hi hic (Region.noSelect_spec hs) hQ n l a w (Region.free_spec hi hf) (by simpa using hr) (.inl ⟨hw, fun w _ => hv w⟩) (fun _ => hS) h
theorem pureCg {i : Nat} {oi : Oper} (dst : Option Tmp) (hdst : oi.dst = dst) {n : Nat} {l : Array Bool} {a : Act} {w : World} (v : Value) (hi : ops[i]? = some oi) (hic : i ≠ c) (hw : Region.wanted oi (yielded ops a.tmps) = true) (hv : ∀ w, (execOp a.eval oi).run P w = .ok (.value v) w) (hS : S w)
    (h : wpAnyC P md ops Q S c n (l.setIfInBounds i true) (a.put dst v) w) (hg : (Region.noSelect ops && (Region.free md ops l i && (Region.ready md ops l).contains i)) = true := by kernel_rfl) (hQ : ∀ c a w, Q (.panic c) (a.put dst v) w → Q (.panic c) a w := by exact fun _ _ _ h => h) : wpAnyC P md ops Q S c (n + 1) l a w := by
  rw [Bool.and_eq_true, Bool.and_eq_true] at hg
  exact pureC dst hdst v hi hic hw hv hg.1 hg.2.1 hg.2.2 hQ hS h
theorem idxArr {o : Oper} {a : Act} (t e : TypeId) (n : Nat) (k : IntKind) (b off i : Nat) (x y : Operand) (hu : P.underlying t = some (.array n e)) (hsz : ∀ w, (sizeOf e).run P w = .ok 1 w) (hi : i < n) (ho : o.op = .indexAddr t x y) (hx : a.eval x = .pointer (some ⟨b, off, none⟩)) (hy : a.eval y = .int k (i : Int)) (w : World) :
    (execOp a.eval o).run P w = .ok (.value (.pointer (some ⟨b, off + i, none⟩))) w := by
  have e1 : (Instr.indexAt t (.pointer (some ⟨b, off, none⟩)) (.int k (i : Int))).run P w = .ok (.pointer (some ⟨b, off + i, none⟩)) w := by
    simp [Instr.indexAt, run_underlying hu, Instr.sureAddr, asIntOf, hsz, Addr.add_mid]
    intro hf
    omega
  unfold execOp
  simp only [ho, hx, hy, Sem.run_bind, e1, Result.andThen_ok, Sem.run_pure]
end
end
section
section
variable {P : Program} {ops : Array Oper} {Q : Exit → Act → World → Prop} {md : Region.Mode} {S : World → Prop}
theorem actL {o : Oper} {rest : List Oper} {a : Act} {w w' : World} (v : Value) (hw : Region.wanted o (yielded ops a.tmps) = true) (he : (execOp a.eval o).run P w = .ok (.value v) w')
    (h : wpList P ops Q rest (a.put o.dst v) w') : wpList P ops Q (o :: rest) a w := by
  unfold wpList
  rw [if_pos hw]
  refine .inl ?_
  unfold Oper.wp
  rw [he]
  exact h
end
end
theorem eqlI {P : Program} {o : Oper} {a : Act} (k : IntKind) (n n' : Int) (t t' : TypeId) (x y : Operand) (ho : o.op = .binOp .eql t x y t') (hx : a.eval x = .int k n) (hy : a.eval y = .int k n') (r : Bool) (hr : (n == n') = r) (w : World) :
    (execOp a.eval o).run P w = .ok (.value (.bool r)) w := by
  unfold execOp
  simp only [ho, hx, hy, Sem.run_bind, eqGuard_at_int, binOp_eql, Sem.run_pure, Result.andThen_ok, hr]
theorem leqI {P : Program} {o : Oper} {a : Act} (k : IntKind) (n n' : Int) (t t' : TypeId) (x y : Operand) (ho : o.op = .binOp .leq t x y t') (hx : a.eval x = .int k n) (hy : a.eval y = .int k n') (r : Bool) (hr : decide (n ≤ n') = r) (w : World) :
    (execOp a.eval o).run P w = .ok (.value (.bool r)) w := by
  unfold execOp
  simp only [ho, hx, hy, Sem.run_bind, eqGuard_at_int, binOp_leq, Sem.run_pure, Result.andThen_ok, hr]
section
section
variable {P : Program} {o : Oper} {a : Act}
theorem addI (k : IntKind) (n n' r : Int) (t t' : TypeId) (x y : Operand) (ho : o.op = .binOp .add t x y t') (hx : a.eval x = .int k n) (hy : a.eval y = .int k n') (hr : k.wrap (n + n') = r) (w : World) : (execOp a.eval o).run P w = .ok (.value (.int k r)) w := by
  unfold execOp
  simp only [ho, hx, hy, Sem.run_bind, eqGuard_at_int, binOp_add, Op.intArith, Sem.run_pure, Result.andThen_ok, hr]
theorem subI (k : IntKind) (n n' r : Int) (t t' : TypeId) (x y : Operand) (ho : o.op = .binOp .sub t x y t') (hx : a.eval x = .int k n) (hy : a.eval y = .int k n') (hr : k.wrap (n - n') = r) (w : World) : (execOp a.eval o).run P w = .ok (.value (.int k r)) w := by
  unfold execOp
  simp only [ho, hx, hy, Sem.run_bind, eqGuard_at_int, binOp_sub, Op.intArith, Sem.run_pure, Result.andThen_ok, hr]
theorem remI (k : IntKind) (n n' r : Int) (t t' : TypeId) (x y : Operand) (ho : o.op = .binOp .rem t x y t') (hx : a.eval x = .int k n) (hy : a.eval y = .int k n') (h0 : n' ≠ 0) (hr : n.tmod n' = r) (w : World) : (execOp a.eval o).run P w = .ok (.value (.int k r)) w := by
  unfold execOp
  simp only [ho, hx, hy, Sem.run_bind, eqGuard_at_int, binOp_rem, Op.intDiv, if_neg h0, Sem.run_pure, Result.andThen_ok, hr]
theorem quoI (k : IntKind) (n n' r : Int) (t t' : TypeId) (x y : Operand) (ho : o.op = .binOp .quo t x y t') (hx : a.eval x = .int k n) (hy : a.eval y = .int k n') (h0 : n' ≠ 0) (hr : k.wrap (n.tdiv n') = r) (w : World) : (execOp a.eval o).run P w = .ok (.value (.int k r)) w := by
  unfold execOp
  simp only [ho, hx, hy, Sem.run_bind, eqGuard_at_int, binOp_quo, Op.intDiv, if_neg h0, Sem.run_pure, Result.andThen_ok, hr]
theorem shrI (k yk : IntKind) (n y r : Int) (t t' : TypeId) (x x' : Operand) (ho : o.op = .binOp .shr t x x' t') (hx : a.eval x = .int k n) (hy : a.eval x' = .int yk y) (h0 : 0 ≤ y) (hr : n / 2 ^ min y.toNat k.bits = r) (w : World) : (execOp a.eval o).run P w = .ok (.value (.int k r)) w := by
  unfold execOp
  simp only [ho, hx, hy, Sem.run_bind, eqGuard_at_int, binOp_shr, shift_shr_any k yk n y h0, Sem.run_pure, Result.andThen_ok, hr]
theorem convI (k k' : IntKind) (n r : Int) (t t' : TypeId) (x : Operand) (ho : o.op = .convert t t' x) (ht : (P.underlying t).isSome = true) (ht' : P.underlying t' = some (.int k')) (hk : P.intKind t' = k') (hx : a.eval x = .int k n) (hr : k'.wrap n = r) (w : World) : (execOp a.eval o).run P w = .ok (.value (.int k' r)) w := by
  subst hk
  unfold execOp
  simp only [ho, hx, Sem.run_bind, run_convert_int w t t' k n ht ht', Sem.run_pure, Result.andThen_ok, hr]
theorem lssI (k : IntKind) (n n' : Int) (t t' : TypeId) (x y : Operand) (ho : o.op = .binOp .lss t x y t') (hx : a.eval x = .int k n) (hy : a.eval y = .int k n') (r : Bool) (hr : decide (n < n') = r) (w : World) : (execOp a.eval o).run P w = .ok (.value (.bool r)) w := by
  unfold execOp
  simp only [ho, hx, hy, Sem.run_bind, eqGuard_at_int, binOp_lss, Sem.run_pure, Result.andThen_ok, hr]
theorem neqI (k : IntKind) (n n' : Int) (t t' : TypeId) (x y : Operand) (ho : o.op = .binOp .neq t x y t') (hx : a.eval x = .int k n) (hy : a.eval y = .int k n') (r : Bool) (hr : (n != n') = r) (w : World) : (execOp a.eval o).run P w = .ok (.value (.bool r)) w := by
  unfold execOp
  simp only [ho, hx, hy, Sem.run_bind, eqGuard_at_int, binOp_neq, Sem.run_pure, Result.andThen_ok, hr]
theorem lenS (x : Operand) (t e : TypeId) (sp : Option Addr) (n c : Nat) (ho : o.op = .call { callee := .builtin .len, args := #[x], argTypes := #[t] }) (ht : P.underlying t = some (.slice e)) (hx : a.eval x = .slice sp n c) (w : World) : (execOp a.eval o).run P w = .ok (.value (.int .i64 (n : Int))) w := by
  simp [execOp, ho, resolve, invoke, builtin, hx, Builtin.len_, run_underlying ht, goInt]
theorem minI (k k' : IntKind) (n n' r : Int) (x y : Operand) (t t' : TypeId) (ho : o.op = .call { callee := .builtin .min, args := #[x, y], argTypes := #[t, t'] }) (hx : a.eval x = .int k n) (hy : a.eval y = .int k' n') (hr : (if n' < n then n' else n) = r) (w : World) : (execOp a.eval o).run P w = .ok (.value (.int k r)) w := by
  simp [execOp, ho, resolve, invoke, builtin, hx, hy, run_min_int2, hr]
end
section
variable {P : Program} {ops : Array Oper} {Q : Exit → Act → World → Prop} {md : Region.Mode} {S : World → Prop}
theorem readH {i : Nat} {oi : Oper} (dst : Option Tmp) (hdst : oi.dst = dst) {fuel : Nat} {listed : Array Bool} {a : Act} {w : World} (v : Value) (hi : ops[i]? = some oi) (hw : Region.wanted oi (yielded ops a.tmps) = true)
    (hv : ∀ w, S w → (execOp a.eval oi).run P w = .ok (.value v) w)
    (hs : Region.noSelect ops = true) (hf : Region.free md ops listed i = true) (hr : (Region.ready md ops listed).contains i = true)
    (hQ : ∀ c a w, Q (.panic c) (a.put dst v) w → Q (.panic c) a w) (hS : S w)
    (h : wpAnyH P md ops Q S fuel (listed.setIfInBounds i true) (a.put dst v) w) : wpAnyH P md ops Q S (fuel + 1) listed a w := by
  subst hdst
  exact wpAnyH_take hi hs hf hr hQ (Or.inl ⟨hw, hv⟩) hS h
theorem readHg {i : Nat} {oi : Oper} (dst : Option Tmp) (hdst : oi.dst = dst) {n : Nat} {l : Array Bool} {a : Act} {w : World} (v : Value) (hi : ops[i]? = some oi) (hw : Region.wanted oi (yielded ops a.tmps) = true) (hv : ∀ w, S w → (execOp a.eval oi).run P w = .ok (.value v) w) (hS : S w)
    (h : wpAnyH P md ops Q S n (l.setIfInBounds i true) (a.put dst v) w) (hg : (Region.noSelect ops && (Region.free md ops l i && (Region.ready md ops l).contains i)) = true := by kernel_rfl) (hQ : ∀ c a w, Q (.panic c) (a.put dst v) w → Q (.panic c) a w := by exact fun _ _ _ h => h) : wpAnyH P md ops Q S (n + 1) l a w := by
  rw [Bool.and_eq_true, Bool.and_eq_true] at hg
  exact readH dst hdst v hi hw hv hg.1 hg.2.1 hg.2.2 hQ hS h
theorem readL {o : Oper} {rest : List Oper} {a : Act} {w : World} (v : Value) (hw : Region.wanted o (yielded ops a.tmps) = true) (hv : (execOp a.eval o).run P w = .ok (.value v) w)
    (h : wpList P ops Q rest (a.put o.dst v) w) : wpList P ops Q (o :: rest) a w := by
  unfold wpList
  rw [if_pos hw]
  refine .inl ?_
  unfold Oper.wp
  rw [hv]
  exact h
end
end
section
section
variable {P : Program}
structure One (P : Program) (e : TypeId) (k : IntKind) (bytes : Nat) : Prop where
  info : (P.info? e).map (fun i => (i.zero, i.bytes, i.size)) = some (some (.int k 0), bytes, 1)
theorem appendOp {o : Oper} {a : Act} {w w' : World} (s x : Operand) (t : TypeId) (v u r : Value) (ho : o.op = .call { callee := .builtin .append, args := #[s, x], argTypes := #[t, t] }) (hs : a.eval s = v) (hx : a.eval x = u) (hr : (Builtin.append_ #[t, t] o.type #[v, u]).run P w = .ok r w') :
    (execOp a.eval o).run P w = .ok (.value r) w' := by
  unfold execOp
  simp only [ho, resolve, invoke, builtin, Sem.run_bind, Sem.run_pure, Result.andThen_ok, List.map_toArray, List.map_cons, List.map_nil, hs, hx, hr]
end
end
theorem Below.grown {B : Nat} {w w1 w2 : World} (l : Below B w w1) {r : Option Nat} (g : w1.grownBy w2 r) (hB : B ≤ w1.heap.size) (hr : ∀ b, r = some b → B ≤ b) : Below B w w2 :=
  ⟨g.os.trans l.os, g.tape.trans l.tape, g.output.trans l.output, Nat.le_trans l.size g.size, fun j hj => (g.block j (Nat.lt_of_lt_of_le hj hB) (fun e => by have := hr j e.symm; omega)).trans (l.block j hj)⟩
section
section
variable {P : Program} {ops : Array Oper} {Q : Exit → Act → World → Prop} {md : Region.Mode} {S : World → Prop}
theorem skipL {o : Oper} {rest : List Oper} {a : Act} {w : World} (hw : Region.wanted o (yielded ops a.tmps) = false) (h : wpList P ops Q rest (a.put o.dst undef) w) : wpList P ops Q (o :: rest) a w := by
  unfold wpList
  rw [if_neg (by rw [hw]; decide)]
  exact h
end
end
section
section
variable {P : Program} {o : Oper} {a : Act}
theorem negI (k : IntKind) (n r : Int) (t : TypeId) (x : Operand) (ho : o.op = .unOp .neg t x) (hx : a.eval x = .int k n) (hr : k.wrap (0 - n) = r) (w : World) : (execOp a.eval o).run P w = .ok (.value (.int k r)) w := by
  unfold execOp
  simp only [ho, hx, Op.unary, Op.intArith, Sem.run_bind, Sem.run_pure, Result.andThen_ok, hr]
end
end
section
section
variable {P : Program} {o : Oper} {a : Act}
theorem shlI (k yk : IntKind) (n y r : Int) (t t' : TypeId) (x x' : Operand) (ho : o.op = .binOp .shl t x x' t') (hx : a.eval x = .int k n) (hy : a.eval x' = .int yk y) (h0 : 0 ≤ y) (hr : k.wrap (n * 2 ^ min y.toNat k.bits) = r) (w : World) : (execOp a.eval o).run P w = .ok (.value (.int k r)) w := by
  unfold execOp
  simp only [ho, hx, hy, Sem.run_bind, eqGuard_at_int, binOp_shl, shift_shl_any k yk n y h0, Sem.run_pure, Result.andThen_ok, hr]
theorem vandI (k : IntKind) (n n' r : Int) (t t' : TypeId) (x y : Operand) (ho : o.op = .binOp .and t x y t') (hx : a.eval x = .int k n) (hy : a.eval y = .int k n') (hr : bits .and k n n' = r) (w : World) : (execOp a.eval o).run P w = .ok (.value (.int k r)) w := by
  unfold execOp
  simp only [ho, hx, hy, Sem.run_bind, eqGuard_at_int, binOp_and, intBits_and, Sem.run_pure, Result.andThen_ok, hr]
theorem vorI (k : IntKind) (n n' r : Int) (t t' : TypeId) (x y : Operand) (ho : o.op = .binOp .or t x y t') (hx : a.eval x = .int k n) (hy : a.eval y = .int k n') (hr : bits .or k n n' = r) (w : World) : (execOp a.eval o).run P w = .ok (.value (.int k r)) w := by
  unfold execOp
  simp only [ho, hx, hy, Sem.run_bind, eqGuard_at_int, binOp_or, intBits_or, Sem.run_pure, Result.andThen_ok, hr]
theorem gtrI (k : IntKind) (n n' : Int) (t t' : TypeId) (x y : Operand) (ho : o.op = .binOp .gtr t x y t') (hx : a.eval x = .int k n) (hy : a.eval y = .int k n') (r : Bool) (hr : decide (n > n') = r) (w : World) : (execOp a.eval o).run P w = .ok (.value (.bool r)) w := by
  unfold execOp
  simp only [ho, hx, hy, Sem.run_bind, eqGuard_at_int, binOp_gtr, Sem.run_pure, Result.andThen_ok, hr]
theorem geqI (k : IntKind) (n n' : Int) (t t' : TypeId) (x y : Operand) (ho : o.op = .binOp .geq t x y t') (hx : a.eval x = .int k n) (hy : a.eval y = .int k n') (r : Bool) (hr : decide (n ≥ n') = r) (w : World) : (execOp a.eval o).run P w = .ok (.value (.bool r)) w := by
  unfold execOp
  simp only [ho, hx, hy, Sem.run_bind, eqGuard_at_int, binOp_geq, Sem.run_pure, Result.andThen_ok, hr]
end
end
section
section
variable {P : Program} {ops : Array Oper} {Q : Exit → Act → World → Prop} {md : Region.Mode} {S : World → Prop}
theorem mayL {o : Oper} {rest : List Oper} {a : Act} {w : World} (c : Bool) (v x : Value) (hc : Region.wanted o (yielded ops a.tmps) = c) (hx : x = (bif c then v else undef)) (hv : c = true → (execOp a.eval o).run P w = .ok (.value v) w)
    (h : wpList P ops Q rest (a.put o.dst x) w) : wpList P ops Q (o :: rest) a w := by
  subst hx
  unfold wpList
  rw [hc]
  cases c with
  | true =>
    rw [if_pos rfl]
    refine .inl ?_
    unfold Oper.wp
    rw [hv rfl]
    exact h
  | false =>
    rw [if_neg (by decide)]
    exact h
theorem storeAny {o : Oper} {a : Act} {w : World} (v : Value) (b j : Nat) (ty : TypeId) (x y : Operand) (ho : o.op = .store ty x y) (hx : a.eval x = .pointer (some ⟨b, j, none⟩)) (hy : a.eval y = v) (hv : v.cells = #[v]) (h1 : v.oneCell' = true)
    (hc : (w.cell? ⟨b, j, none⟩).isSome = true) (hf : w.frozen? ⟨b, j, none⟩ = false) (hz : (P.info? ty).map (·.size) = some 1) : (execOp a.eval o).run P w = .ok .skip (w.setCell ⟨b, j, none⟩ v) := by
  have h0 : ∀ k : Nat, k < [v].length → k = 0 := fun k hk => by simpa using hk
  have hst := run_storeCells_cells (P := P) b j [v] 0 w (fun k hk => by rw [h0 k hk]; simpa using hc) (fun k hk => by rw [h0 k hk]; simpa using hf) (fun u hu => by simp at hu; subst hu; exact h1)
  cases hq : P.info? ty with
  | none => simp [hq] at hz
  | some i =>
    have hs : i.size = 1 := by simp [hq] at hz; omega
    simp only [Nat.add_zero] at hst
    have e : (storeVar ty ⟨b, j, none⟩ v).run P w = .ok () (w.setCell ⟨b, j, none⟩ v) := by
      simp [storeVar, sizeOf, typeInfo, hq, hv, hs, hst, World.setCells]
    unfold execOp
    simp only [ho, hx, hy, Instr.storeAt, Instr.sureAddr, Sem.run_bind, Sem.run_pure, Result.andThen_ok, e]
theorem skipOpL {o : Oper} {rest : List Oper} {a : Act} {w w' : World} (hw : Region.wanted o (yielded ops a.tmps) = true) (he : (execOp a.eval o).run P w = .ok .skip w') (h : wpList P ops Q rest (a.put o.dst undef) w') : wpList P ops Q (o :: rest) a w := by
  unfold wpList
  rw [if_pos hw]
  refine .inl ?_
  unfold Oper.wp
  rw [he]
  exact h
theorem load1 {o : Oper} {a : Act} {w : World} (ty : TypeId) (x : Operand) (p : Addr) (v : Value) (ho : o.op = .load ty x) (hx : a.eval x = .pointer (some p)) (hagg : ∀ w, (isAgg ty).run P w = .ok false w) (hc : w.cell? p = some v) : (execOp a.eval o).run P w = .ok (.value v) w := by
  have e : (loadVar ty p).run P w = .ok v w := by simp [loadVar, Sem.run_bind, hagg, hc]
  unfold execOp
  simp only [ho, hx, Instr.loadAt, Instr.sureAddr, Sem.run_bind, Sem.run_pure, Result.andThen_ok, e]
theorem loadN {o : Oper} {a : Act} {w : World} (ty : TypeId) (x : Operand) (p : Addr) (cs : List Value) (ho : o.op = .load ty x) (hx : a.eval x = .pointer (some p)) (hagg : ∀ w, (isAgg ty).run P w = .ok true w) (hz : ∀ w, (sizeOf ty).run P w = .ok cs.length w)
    (hc : ∀ j v, cs[j]? = some v → w.cell? (p.add j) = some v) : (execOp a.eval o).run P w = .ok (.value (.agg cs.toArray)) w := by
  have e : (loadVar ty p).run P w = .ok (.agg cs.toArray) w := by simp [loadVar, Sem.run_bind, hagg, hz, run_loadCells_list w p cs hc]
  unfold execOp
  simp only [ho, hx, Instr.loadAt, Instr.sureAddr, Sem.run_bind, Sem.run_pure, Result.andThen_ok, e]
end
structure Mm (w0 : World) (l : List (Nat × List Value)) (w : World) : Prop where
  rows : ∀ p ∈ l, (∀ j, j < p.2.length → w.cell? ⟨p.1, j, none⟩ = p.2[j]? ∧ w.frozen? ⟨p.1, j, none⟩ = false) ∧ w0.heap.size ≤ p.1 ∧ p.1 < w.heap.size
  apart : l.Pairwise fun p q => p.1 ≠ q.1
  below : Below w0.heap.size w0 w
section
variable {w0 w w' : World} {l : List (Nat × List Value)}
theorem Mm.init (w : World) : Mm w [] w := ⟨fun _ h => (by cases h), List.Pairwise.nil, Below.refl _ _⟩
theorem Mm.of (b : Below w0.heap.size w0 w) : Mm w0 [] w := ⟨fun _ h => (by cases h), List.Pairwise.nil, b⟩
theorem Mm.call (h : Mm w0 l w) (b : Below w.heap.size w w') : Mm w0 l w' :=
  ⟨fun p hp => ⟨fun j hj => by
    have hlt := (h.rows p hp).2.2
    rw [b.cell (p := ⟨p.1, j, none⟩) hlt, b.frozen (p := ⟨p.1, j, none⟩) hlt]
    exact (h.rows p hp).1 j hj, (h.rows p hp).2.1, Nat.lt_of_lt_of_le (h.rows p hp).2.2 b.size⟩, h.apart, h.below.trans (b.mono h.below.size)⟩
theorem Mm.drew (h : Mm w0 l w) : Mm w0 l w.drew := h.call (Below.refl _ _).drew
theorem Mm.sub (h : Mm w0 l w) (l' : List (Nat × List Value)) (hl : l'.Sublist l) : Mm w0 l' w := ⟨fun p hp => h.rows p (hl.subset hp), h.apart.sublist hl, h.below⟩
theorem Mm.box (h : Mm w0 l w) (c : Array Value) (t : TypeId) (b : Nat) (hb : b = w.heap.size) : Mm w0 ((b, c.toList) :: l) (w.alloc (.cells c t)) := by
  subst hb
  have hc := h.call ((Below.refl w.heap.size w).alloc (Nat.le_refl _) (.cells c t))
  refine ⟨fun p hp => ?_, List.pairwise_cons.2 ⟨fun q hq e => ?_, h.apart⟩, hc.below⟩
  · rcases List.mem_cons.1 hp with rfl | hp
    · refine ⟨fun j hj => ⟨?_, World.frozen?_alloc_at _ _ _ _ rfl⟩, h.below.size, by simp⟩
      rw [World.cell?_alloc_at _ _ _ _ rfl]
      simp
    · exact hc.rows p hp
  · have := (h.rows q hq).2.2
    simp only at e
    omega
theorem Mm.get (h : Mm w0 l w) {b : Nat} {cs : List Value} (hp : (b, cs) ∈ l) (j : Nat) (v : Value) (hv : cs[j]? = some v) : w.cell? ⟨b, j, none⟩ = some v := by
  have hj : j < cs.length := by
    rcases Nat.lt_or_ge j cs.length with h' | h'
    · exact h'
    · rw [List.getElem?_eq_none h'] at hv; cases hv
  rw [((h.rows _ hp).1 j hj).1, hv]
theorem Mm.isSome (h : Mm w0 l w) {b : Nat} {cs : List Value} (hp : (b, cs) ∈ l) (j : Nat) (hj : j < cs.length) : (w.cell? ⟨b, j, none⟩).isSome = true := by
  rw [((h.rows _ hp).1 j hj).1, List.getElem?_eq_getElem hj]
  rfl
theorem Mm.free (h : Mm w0 l w) {b : Nat} {cs : List Value} (hp : (b, cs) ∈ l) (j : Nat) (hj : j < cs.length) : w.frozen? ⟨b, j, none⟩ = false := ((h.rows _ hp).1 j hj).2
theorem Mm.rangeAt (h : Mm w0 l w) {b : Nat} {cs : List Value} (hp : (b, cs) ∈ l) : ∀ j v, cs[j]? = some v → w.cell? ((⟨b, 0, none⟩ : Addr).add j) = some v := fun j v hv => by
  rw [Addr.add_mid, Nat.zero_add]
  exact h.get hp j v hv
theorem Mm.part (h : Mm w0 l w) {b : Nat} {cs : List Value} (hp : (b, cs) ∈ l) (o : Nat) (ds : List Value) (hd : (cs.drop o).take ds.length = ds) : ∀ j v, ds[j]? = some v → w.cell? ((⟨b, o, none⟩ : Addr).add j) = some v := fun j v hv => by
  rw [Addr.add_mid]
  refine h.get hp (o + j) v ?_
  have hj : j < ds.length := by
    rcases Nat.lt_or_ge j ds.length with h' | h'
    · exact h'
    · rw [List.getElem?_eq_none h'] at hv; cases hv
  rw [← hd, List.getElem?_take, if_pos hj, List.getElem?_drop] at hv
  exact hv
theorem size_setCell (w : World) (p : Addr) (v : Value) : (w.setCell p v).heap.size = w.heap.size := by simp
theorem Mm.set {b : Nat} {cs : List Value} (h : Mm w0 ((b, cs) :: l) w) (j : Nat) (hj : j < cs.length) (v : Value) : Mm w0 ((b, cs.set j v) :: l) (w.setCell ⟨b, j, none⟩ v) := by
  have hb := h.rows _ mS
  have hne := (List.pairwise_cons.1 h.apart).1
  refine ⟨fun p hp => ?_, List.pairwise_cons.2 ⟨hne, (List.pairwise_cons.1 h.apart).2⟩, below_setAll h.below b hb.2.1 j [v]⟩
  rcases List.mem_cons.1 hp with rfl | hp
  · refine ⟨fun i hi => ⟨?_, by rw [World.frozen?_setCell]; exact (hb.1 i (by simpa using hi)).2⟩, hb.2.1, by rw [size_setCell]; exact hb.2.2⟩
    simp only [List.length_set] at hi
    by_cases e : i = j
    · subst e
      rw [World.cell?_setCell_same' _ _ _ (h.isSome mS i hj), List.getElem?_set_self hj]
    · have e2 := World.cell?_setCell_other (w := w) (v := v) (a := ⟨b, j, none⟩) (b := ⟨b, i, none⟩) (by intro e'; injection e' with _ e'; exact e e'.symm)
      simp only
      rw [e2, List.getElem?_set_ne (Ne.symm e)]
      exact (hb.1 i hi).1
  · have h2 := h.rows p (mT _ hp)
    refine ⟨fun i hi => ⟨?_, by rw [World.frozen?_setCell]; exact (h2.1 i hi).2⟩, h2.2.1, by rw [size_setCell]; exact h2.2.2⟩
    rw [World.cell?_setCell_far _ _ _ _ (hne p hp)]
    exact (h2.1 i hi).1
theorem Mm.swap {p q : Nat × List Value} (h : Mm w0 (p :: q :: l) w) : Mm w0 (q :: p :: l) w := by
  obtain ⟨h1, h2⟩ := List.pairwise_cons.1 h.apart
  obtain ⟨h3, h4⟩ := List.pairwise_cons.1 h2
  refine ⟨fun x hx => h.rows x ?_, List.pairwise_cons.2 ⟨fun x hx => ?_, List.pairwise_cons.2 ⟨fun x hx => h1 x (mT _ hx), h4⟩⟩, h.below⟩
  · rcases List.mem_cons.1 hx with rfl | hx
    · exact mT _ mS
    · rcases List.mem_cons.1 hx with rfl | hx
      · exact mS
      · exact mT _ (mT _ hx)
  · rcases List.mem_cons.1 hx with rfl | hx
    · exact (h1 q mS).symm
    · exact h3 x hx
theorem Mm.grown (h : Mm w0 l w) {r : Option Nat} (g : w.grownBy w' r) (m : Nat) (hm : ∀ p ∈ l, p.1 < m) (h0 : w0.heap.size ≤ m) (hz : m ≤ w.heap.size) (hr : ∀ b, r = some b → m ≤ b) : Mm w0 l w' := by
  have hb : Below m w w' := ⟨g.os, g.tape, g.output, g.size, fun j hj => g.block j (Nat.lt_of_lt_of_le hj hz) (fun e => by have := hr j e.symm; omega)⟩
  exact ⟨fun p hp => ⟨fun j hj => by
    rw [hb.cell (p := ⟨p.1, j, none⟩) (hm p hp), hb.frozen (p := ⟨p.1, j, none⟩) (hm p hp)]
    exact (h.rows p hp).1 j hj, (h.rows p hp).2.1, Nat.lt_of_lt_of_le (h.rows p hp).2.2 g.size⟩, h.apart, h.below.trans (hb.mono h0)⟩
theorem Mm.lt (h : Mm w0 l w) {b : Nat} {cs : List Value} (hp : (b, cs) ∈ l) : b < w.heap.size := (h.rows _ hp).2.2
theorem Mm.lo (h : Mm w0 l w) {b : Nat} {cs : List Value} (hp : (b, cs) ∈ l) : w0.heap.size ≤ b := (h.rows _ hp).2.1
end
end
section
def i64 (n : Int) : Prop := -9223372036854775808 ≤ n ∧ n < 9223372036854775808
structure Off (X : List Nat) (w w' : World) : Prop where
  size : w.heap.size ≤ w'.heap.size
  blk : ∀ b, b < w.heap.size → b ∉ X → w'.heap[b]? = w.heap[b]?
section
variable {X Y : List Nat} {w w1 w2 : World}
theorem Off.refl (X : List Nat) (w : World) : Off X w w := ⟨Nat.le_refl _, fun _ _ _ => rfl⟩
theorem Off.trans (h : Off X w w1) (g : Off X w1 w2) : Off X w w2 := ⟨Nat.le_trans h.size g.size, fun b hb hX => (g.blk b (Nat.lt_of_lt_of_le hb h.size) hX).trans (h.blk b hb hX)⟩
theorem Off.of_below (l : Below w.heap.size w w1) : Off X w w1 := ⟨l.size, fun b hb _ => l.block b hb⟩
theorem Off.below (h : Off X w w1) (l : Below w1.heap.size w1 w2) : Off X w w2 := h.trans (.of_below l)
theorem Off.set (h : Off X w w1) {b : Nat} (hb : b ∈ X) (j : Nat) (v : Value) : Off X w (w1.setCell ⟨b, j, none⟩ v) :=
  h.trans ⟨by simp, fun c _ hX => by
    have : c ≠ b := fun e => hX (e ▸ hb)
    simp [World.setCell, Array.getElem?_modify, Ne.symm this]⟩
theorem Off.cell (h : Off X w w1) {p : Addr} {v : Value} (hc : w.cell? p = some v) (hX : p.block ∉ X) : w1.cell? p = some v := by
  rw [World.cell?_of_block (h.blk p.block (World.block_lt_of_cell? w p hc) hX)]
  exact hc
end
theorem add_block (p : Addr) (j : Nat) : (p.add j).block = p.block := by unfold Addr.add; split <;> rfl
theorem ownsRow_off {X : List Nat} {w w' : World} {base size n : Nat} {e : TypeId} {v : Value} {xs : List Value} (h : w.ownsRow base e size v n xs) (o : Off X w w') (hX : ∀ b ∈ X, v.ownBlock ≠ some b) : w'.ownsRow base e size v n xs := by
  refine ⟨h.1, ?_⟩
  rcases h.2 with h0 | ⟨g, cap, cur, hv, hb, hg, h5, h6, h7, h8⟩
  · exact .inl h0
  · refine .inr ⟨g, cap, cur, hv, hb, ?_, h5, h6, h7, h8⟩
    have hlt : g < w.heap.size := by
      rcases Nat.lt_or_ge g w.heap.size with h' | h'
      · exact h'
      · rw [Array.getElem?_eq_none h'] at hg; cases hg
    rw [o.blk g hlt (fun hm => hX g hm (by rw [hv]; rfl))]
    exact hg
theorem ownsRow_low {X : List Nat} {w w' : World} {base size n : Nat} {e : TypeId} {v : Value} {xs : List Value} (h : w.ownsRow base e size v n xs) (o : Off X w w') (hX : ∀ b ∈ X, b < base) : w'.ownsRow base e size v n xs :=
  ownsRow_off h o fun b hb e => by
    have h1 := (World.ownsRow.lt h b e).1
    have h2 := hX b hb
    omega
section
variable {P : Program}
structure Many (P : Program) (e : TypeId) (z : Value) (bytes size : Nat) : Prop where
  info : (P.info? e).map (fun i => (i.zero, i.bytes, i.size)) = some (some z, bytes, size)
theorem run_append_OwnV {w : World} {base : Nat} {t ty e : TypeId} {z : Value} {bytes size n : Nat} {xs : List Value} {v : Value} (ht : P.underlying t = some (.slice e)) (he : Many P e z bytes size) (hzs : z.cells.size = size) (hs0 : 0 < size) (h : w.ownsRow base e size v n xs)
    (ad : Addr) (m c : Nat) (news : List Value) (hl : news.length = m * size) (hnews : ∀ j u, news[j]? = some u → w.cell? (ad.add j) = some u) (h1c : ∀ u ∈ news, u.oneCell' = true) (h63 : n + m ≤ maxLen) (hb : (n + m) * bytes ≤ 140737488355328) (hbase : base ≤ w.heap.size) :
    ∃ v' w', (Builtin.append_ #[t, t] ty #[v, .slice (some ad) m c]).run P w = .ok v' w' ∧ w'.ownsRow base e size v' (n + m) (xs ++ news) ∧ w.grownBy w' v.ownBlock ∧ (∀ g, v'.ownBlock = some g → v.ownBlock = some g ∨ g = w.heap.size) := by
  obtain ⟨i, hi, hq⟩ := Option.map_eq_some_iff.1 he.info
  simp only [Prod.mk.injEq] at hq
  obtain ⟨h1, h2, h3⟩ := hq
  obtain ⟨v', w', hr, ho, hg, _⟩ := run_append_own (P := P) w base t ty e i z size bytes ht hi h1 h3 h2 hzs hs0 v n _ h ad m c news hl hnews h1c h63 hb hbase
  refine ⟨v', w', hr, ho, hg, ?_⟩
  have hml : news.length = m * i.size := by rw [h3]; exact hl
  rcases h.2 with ⟨rfl, rfl⟩ | ⟨g, cap, cur, rfl, hbg, hgg, hnc, hcm, hcs, htake⟩
  · by_cases hm : m = 0
    · subst hm
      have hr2 : (Builtin.append_ #[t, t] ty #[.slice none 0 0, .slice (some ad) 0 c]).run P w = .ok (.slice none 0 0) w := by
        simp [Builtin.append_, run_underlying ht, sizeOf, typeInfo, hi, Builtin.lenOf, Builtin.firstCells, loadCells, loadCellsFrom]
      rw [hr] at hr2
      injection hr2 with hv' _
      rw [hv']
      intro g hg'
      cases hg'
    · have hr2 := run_append_nil (P := P) w t ty e i z ht hi h1 ad m c news hml hnews (by omega) (by unfold maxLen at h63; omega) (by rw [h2]; have := hb; simp only [Nat.zero_add] at this; omega)
      rw [hr] at hr2
      injection hr2 with hv' _
      rw [hv']
      intro g hg'
      injection hg' with hg'
      exact .inr hg'.symm
  · by_cases hroom : n + m ≤ cap
    · have hr2 := run_append_room (P := P) w t ty e i ht hi g n cap cur hgg ad m c news hml hnews h1c hroom (by rw [hml, hcs, h3]; exact (by rw [← Nat.add_mul]; exact Nat.mul_le_mul_right size hroom))
      rw [hr] at hr2
      injection hr2 with hv' _
      rw [hv']
      intro g' hg'
      exact .inl hg'
    · have hr2 := run_append_grow (P := P) w t ty e i z ht hi h1 ⟨g, 0, none⟩ n cap xs (by rw [h.1, h3]) (World.ownsRow.cells h (g := g) rfl) ad m c news hml hnews (by omega) (by unfold maxLen at h63; omega) (by rw [h2]; exact growslice_fits (by omega) hb)
      rw [hr] at hr2
      injection hr2 with hv' _
      rw [hv']
      intro g' hg'
      injection hg' with hg'
      exact .inr hg'.symm
end
end
theorem Off.setAll {X : List Nat} {w w1 : World} (h : Off X w w1) {b : Nat} (hb : b ∈ X) : ∀ (o : Nat) (vs : List Value), Off X w (w1.setCells b o vs)
  | _, [] => h
  | o, v :: vs => (h.set hb o v).setAll hb (o + 1) vs
section
theorem storeP {P : Program} {o : Oper} {a : Act} {w : World} (cs : List Value) (b off : Nat) (ty : TypeId) (x y : Operand) (ho : o.op = .store ty x y) (hx : a.eval x = .pointer (some ⟨b, off, none⟩)) (hy : a.eval y = .agg cs.toArray) (ht : w.there b off cs.toArray.size) (hz : (P.info? ty).map (·.size) = some cs.toArray.size) (h1 : ∀ u ∈ cs, u.oneCell' = true) :
    (execOp a.eval o).run P w = .ok .skip (w.setCells b off cs) := by
  unfold execOp
  simp only [ho, hx, hy]
  have e := run_storeAt_mid (P := P) w b off ty cs.toArray ht hz (all_oneCell_toArray h1)
  simp only [Sem.run_bind, e, Result.andThen_ok, Sem.run_pure]
def setL (cs : List Value) : Nat → List Value → List Value
  | _, [] => cs
  | o, v :: vs => setL (cs.set o v) (o + 1) vs
section
variable {w0 w : World} {l : List (Nat × List Value)} {b : Nat} {cs : List Value}
theorem Mm.thereP (h : Mm w0 l w) (hp : (b, cs) ∈ l) (o n : Nat) (hn : o + n ≤ cs.length) : w.there b o n := fun j hj => ⟨h.isSome hp (o + j) (by omega), h.free hp (o + j) (by omega)⟩
theorem Mm.setPartG : ∀ (ds : List Value) (o : Nat) (cs : List Value) (w : World), o + ds.length ≤ cs.length → Mm w0 ((b, cs) :: l) w → Mm w0 ((b, setL cs o ds) :: l) (w.setCells b o ds)
  | [], _, _, _, _, h => h
  | v :: vs, o, cs, w, hl, h => by
    rw [List.length_cons] at hl
    exact Mm.setPartG vs (o + 1) (cs.set o v) _ (by rw [List.length_set]; omega) (h.set o (by omega) v)
theorem Mm.setPart (h : Mm w0 ((b, cs) :: l) w) (ds : List Value) (o : Nat) (hl : o + ds.length ≤ cs.length) : Mm w0 ((b, setL cs o ds) :: l) (w.setCells b o ds) := Mm.setPartG ds o cs w hl h
theorem Mm.perm {l' : List (Nat × List Value)} (h : Mm w0 l w) (hp : l.Perm l') : Mm w0 l' w :=
  ⟨fun p hq => h.rows p (hp.mem_iff.2 hq), hp.pairwise h.apart (fun e => Ne.symm e), h.below⟩
end
theorem Mm.drop2 {w0 w : World} {l : List (Nat × List Value)} {p q : Nat × List Value} (h : Mm w0 (p :: q :: l) w) : Mm w0 (p :: l) w := h.sub _ (List.cons_sublist_cons.2 (List.sublist_cons_self q l))
theorem Off.and1 {X : List Nat} {w w1 w2 : World} {b : Nat} (h : Off X w w1) (g : Off [b] w1 w2) (hb : b ∈ X ∨ w.heap.size ≤ b) : Off X w w2 :=
  ⟨Nat.le_trans h.size g.size, fun c hc hX => (g.blk c (Nat.lt_of_lt_of_le hc h.size) (fun e => by
    obtain rfl := List.mem_singleton.1 e
    rcases hb with h' | h'
    · exact hX h'
    · omega)).trans (h.blk c hc hX)⟩
end
def wtop (L : List Int) : Int := L.foldl max (-1)
def wchk (L : List Int) (n : Int) : Int := if n < 0 ∨ 281474976710655 < n then 1 else if n ≤ wtop L - 1024 ∨ n ∈ L then 140 else 0
def wmk (L : List Int) (n : Int) : List Int := if wchk L n = 0 then L ++ [n] else L
def wcnt (L : List Int) : Nat := (L.filter (fun x => decide (wtop L - 1024 < x))).length
def wnx (L : List Int) (last : Int) : Int := L.foldl (fun nx x => if x < last ∧ nx < x ∧ wtop L - 1024 < x then x else nx) (-1)
def wput (most : Int) (nx : Int) (l : List (Int × Int)) : Option (List (Int × Int)) :=
  match l with
  | (a, b) :: t => if a = nx + 1 then some ((nx, b) :: t) else if most ≤ (l.length : Int) then none else some ((nx, nx + 1) :: l)
  | [] => if most ≤ 0 then none else some [(nx, nx + 1)]
def wbl (L : List Int) (most : Int) : Nat → List (Int × Int) → Int → List (Int × Int)
  | 0, l, _ => l
  | k + 1, l, last => if wnx L last < 0 then l else match wput most (wnx L last) l with
    | none => l
    | some l' => wbl L most k l' (wnx L last)
def wbel (L : List Int) (most : Int) : List (Int × Int) := wbl L most (L.length + 1) [] (wtop L)
structure WinL (L : List Int) : Prop where
  ge : ∀ x ∈ L, 0 ≤ x
  le : ∀ x ∈ L, x ≤ 281474976710655
  nd : L.Nodup
theorem foldl_max_ge : ∀ (L : List Int) (t : Int), t ≤ L.foldl max t ∧ ∀ x ∈ L, x ≤ L.foldl max t
  | [], t => ⟨Int.le_refl _, fun _ h => by cases h⟩
  | y :: L, t => by
    have h := foldl_max_ge L (max t y)
    refine ⟨Int.le_trans (Int.le_max_left _ _) h.1, fun x hx => ?_⟩
    rcases List.mem_cons.1 hx with rfl | hx
    · exact Int.le_trans (Int.le_max_right _ _) h.1
    · exact h.2 x hx
theorem foldl_max_mem : ∀ (L : List Int) (t : Int), L.foldl max t = t ∨ L.foldl max t ∈ L
  | [], _ => .inl rfl
  | y :: L, t => by
    rcases foldl_max_mem L (max t y) with h | h
    · show L.foldl max (max t y) = t ∨ L.foldl max (max t y) ∈ y :: L
      rw [h]
      rcases Int.le_total t y with h' | h'
      · rw [Int.max_eq_right h']; exact .inr mS
      · rw [Int.max_eq_left h']; exact .inl rfl
    · exact .inr (mT _ h)
theorem wtop_ge (L : List Int) : -1 ≤ wtop L := (foldl_max_ge L (-1)).1
theorem wtop_le {L : List Int} {x : Int} (h : x ∈ L) : x ≤ wtop L := (foldl_max_ge L (-1)).2 x h
theorem wtop_mem (L : List Int) : wtop L = -1 ∨ wtop L ∈ L := foldl_max_mem L (-1)
theorem wtop_app (L : List Int) (n : Int) : wtop (L ++ [n]) = max (wtop L) n := by unfold wtop; rw [List.foldl_append]; rfl
theorem wtop_nil : wtop [] = -1 := rfl
theorem wtop_max {L : List Int} (h : WinL L) : wtop L ≤ 281474976710655 := by
  rcases wtop_mem L with e | e
  · omega
  · exact h.le _ e
theorem wchk_ok {L : List Int} {n : Int} (h : wchk L n = 0) : 0 ≤ n ∧ n ≤ 281474976710655 ∧ wtop L - 1024 < n ∧ n ∉ L := by
  unfold wchk at h
  by_cases h1 : n < 0 ∨ 281474976710655 < n
  · rw [if_pos h1] at h; cases h
  rw [if_neg h1] at h
  by_cases h2 : n ≤ wtop L - 1024 ∨ n ∈ L
  · rw [if_pos h2] at h; cases h
  exact ⟨by omega, by omega, by have := not_or.1 h2; omega, (not_or.1 h2).2⟩
theorem wchk_zero {L : List Int} {n : Int} (h0 : 0 ≤ n) (h1 : n ≤ 281474976710655) (h2 : wtop L - 1024 < n) (h3 : n ∉ L) : wchk L n = 0 := by
  unfold wchk
  rw [if_neg (by omega), if_neg (by rintro (h | h); omega; exact h3 h)]
theorem wmk_ok {L : List Int} {n : Int} (h : wchk L n = 0) : wmk L n = L ++ [n] := if_pos h
theorem wmk_err {L : List Int} {n : Int} (h : ¬ wchk L n = 0) : wmk L n = L := if_neg h
theorem wmk_w {L : List Int} (h : WinL L) (n : Int) : WinL (wmk L n) := by
  by_cases hc : wchk L n = 0
  · obtain ⟨h0, h1, _, h3⟩ := wchk_ok hc
    rw [wmk_ok hc]
    refine ⟨fun x hx => ?_, fun x hx => ?_, ?_⟩
    · rcases List.mem_append.1 hx with hx | hx
      · exact h.ge x hx
      · rw [List.mem_singleton.1 hx]; exact h0
    · rcases List.mem_append.1 hx with hx | hx
      · exact h.le x hx
      · rw [List.mem_singleton.1 hx]; exact h1
    · rw [List.nodup_append]
      exact ⟨h.nd, List.nodup_cons.2 ⟨List.not_mem_nil, List.nodup_nil⟩, fun a ha b hb => by rw [List.mem_singleton.1 hb]; exact fun e => h3 (e ▸ ha)⟩
  · rw [wmk_err hc]; exact h
theorem winL_nil : WinL [] := ⟨fun _ h => (by cases h), fun _ h => (by cases h), List.nodup_nil⟩
theorem wnx_fold (L0 : List Int) (last : Int) : ∀ (L : List Int) (nx : Int), (L.foldl (fun nx x => if x < last ∧ nx < x ∧ wtop L0 - 1024 < x then x else nx) nx = nx ∨ (L.foldl (fun nx x => if x < last ∧ nx < x ∧ wtop L0 - 1024 < x then x else nx) nx ∈ L ∧ L.foldl (fun nx x => if x < last ∧ nx < x ∧ wtop L0 - 1024 < x then x else nx) nx < last ∧ wtop L0 - 1024 < L.foldl (fun nx x => if x < last ∧ nx < x ∧ wtop L0 - 1024 < x then x else nx) nx)) ∧ nx ≤ L.foldl (fun nx x => if x < last ∧ nx < x ∧ wtop L0 - 1024 < x then x else nx) nx ∧ ∀ x ∈ L, x < last → wtop L0 - 1024 < x → x ≤ L.foldl (fun nx x => if x < last ∧ nx < x ∧ wtop L0 - 1024 < x then x else nx) nx
  | [], nx => ⟨.inl rfl, Int.le_refl _, fun _ h => by cases h⟩
  | y :: L, nx => by
    rw [List.foldl_cons]
    by_cases hy : y < last ∧ nx < y ∧ wtop L0 - 1024 < y
    · rw [if_pos hy]
      obtain ⟨h1, h2, h3⟩ := wnx_fold L0 last L y
      refine ⟨.inr ?_, by omega, fun x hx hl hw => ?_⟩
      · rcases h1 with h1 | h1
        · rw [h1]; exact ⟨mS, hy.1, hy.2.2⟩
        · exact ⟨mT _ h1.1, h1.2⟩
      · rcases List.mem_cons.1 hx with rfl | hx
        · exact h2
        · exact h3 x hx hl hw
    · rw [if_neg hy]
      obtain ⟨h1, h2, h3⟩ := wnx_fold L0 last L nx
      refine ⟨?_, h2, fun x hx hl hw => ?_⟩
      · rcases h1 with h1 | h1
        · exact .inl h1
        · exact .inr ⟨mT _ h1.1, h1.2⟩
      · rcases List.mem_cons.1 hx with rfl | hx
        · have : ¬ nx < x := fun h => hy ⟨hl, h, hw⟩
          omega
        · exact h3 x hx hl hw
theorem wnx_mem {L : List Int} {last : Int} (h : ¬ wnx L last < 0) : wnx L last ∈ L ∧ wnx L last < last ∧ wtop L - 1024 < wnx L last := by
  obtain ⟨h1, _, _⟩ := wnx_fold L last L (-1)
  rcases h1 with h1 | h1
  · exact absurd (show wnx L last < 0 by unfold wnx; rw [h1]; decide) h
  · exact h1
theorem wnx_ge {L : List Int} {last x : Int} (hx : x ∈ L) (hl : x < last) (hw : wtop L - 1024 < x) : x ≤ wnx L last := (wnx_fold L last L (-1)).2.2 x hx hl hw
theorem wnx_lo (L : List Int) (last : Int) : -1 ≤ wnx L last := (wnx_fold L last L (-1)).2.1
def wlt (L : List Int) (c : Int) : Nat := (L.filter (fun x => decide (x < c))).length
theorem wlt_mono {a b : Int} (h : a ≤ b) : ∀ L : List Int, wlt L a ≤ wlt L b
  | [] => Nat.le_refl _
  | y :: L => by
    have ih := wlt_mono h L
    unfold wlt at ih ⊢
    rw [List.filter_cons, List.filter_cons]
    by_cases h1 : y < a
    · rw [if_pos (decide_eq_true h1), if_pos (decide_eq_true (show y < b by omega))]
      simpa using ih
    · rw [if_neg (by simpa using h1)]
      split
      · rw [List.length_cons]; omega
      · exact ih
theorem wlt_lt {nx last : Int} (hl : nx < last) : ∀ {L : List Int}, nx ∈ L → wlt L nx < wlt L last
  | y :: L, hm => by
    have mono := wlt_mono (Int.le_of_lt hl) L
    unfold wlt at mono ⊢
    rw [List.filter_cons, List.filter_cons]
    by_cases e : y = nx
    · subst e
      rw [if_neg (by simp), if_pos (decide_eq_true hl), List.length_cons]
      omega
    · have hm' : nx ∈ L := (List.mem_cons.1 hm).resolve_left (fun h => e h.symm)
      have ih := wlt_lt hl hm'
      unfold wlt at ih
      by_cases h1 : y < nx
      · rw [if_pos (decide_eq_true h1), if_pos (decide_eq_true (show y < last by omega)), List.length_cons, List.length_cons]
        omega
      · rw [if_neg (by simpa using h1)]
        split
        · rw [List.length_cons]; omega
        · exact ih
theorem wlt_same {nx last : Int} (hl : nx < last) : ∀ {L : List Int}, nx ∉ L → (∀ x ∈ L, x < last → x ≤ nx) → wlt L last = wlt L nx
  | [], _, _ => rfl
  | y :: L, hn, hg => by
    have ih := wlt_same hl (L := L) (fun h => hn (mT _ h)) (fun x hx => hg x (mT _ hx))
    unfold wlt at ih ⊢
    have hy : y ≠ nx := fun e => hn (e ▸ mS)
    have hi : (y < last) ↔ (y < nx) := ⟨fun h => by have := hg y mS h; omega, fun h => by omega⟩
    rw [List.filter_cons, List.filter_cons, show decide (y < last) = decide (y < nx) from decide_eq_decide.2 hi]
    split
    · rw [List.length_cons, List.length_cons, ih]
    · exact ih
theorem wlt_step {nx last : Int} (hl : nx < last) : ∀ {L : List Int}, L.Nodup → nx ∈ L → (∀ x ∈ L, x < last → x ≤ nx) → wlt L last = wlt L nx + 1
  | y :: L, hd, hm, hg => by
    obtain ⟨hy, hd'⟩ := List.nodup_cons.1 hd
    by_cases e : y = nx
    · subst e
      have := wlt_same hl hy (fun x hx => hg x (mT _ hx))
      unfold wlt at this ⊢
      rw [List.filter_cons, List.filter_cons, if_pos (decide_eq_true hl), if_neg (by simp), List.length_cons, this]
    · have hm' : nx ∈ L := (List.mem_cons.1 hm).resolve_left (fun h => e h.symm)
      have ih := wlt_step hl hd' hm' (fun x hx => hg x (mT _ hx))
      have hi : (y < last) ↔ (y < nx) := ⟨fun h => by have := hg y mS h; omega, fun h => by omega⟩
      unfold wlt at ih ⊢
      rw [List.filter_cons, List.filter_cons, show decide (y < last) = decide (y < nx) from decide_eq_decide.2 hi]
      split
      · rw [List.length_cons, List.length_cons, ih]
      · exact ih
theorem wlt_le (L : List Int) (c : Int) : wlt L c ≤ L.length := List.length_filter_le _ _
def wrow (a : Int) (n : Nat) : List Int := (List.range n).map (fun i : Nat => a + (i : Int))
theorem wrow_mem {a : Int} {n : Nat} {x : Int} : x ∈ wrow a n ↔ a ≤ x ∧ x < a + n := by
  unfold wrow
  rw [List.mem_map]
  constructor
  · rintro ⟨i, hi, rfl⟩
    have := List.mem_range.1 hi
    omega
  · rintro ⟨h1, h2⟩
    exact ⟨(x - a).toNat, List.mem_range.2 (by omega), by omega⟩
theorem wrow_succ (a : Int) (n : Nat) : wrow a (n + 1) = wrow a n ++ [a + n] := by unfold wrow; rw [List.range_succ, List.map_append]; rfl
theorem wrow_len (a : Int) (n : Nat) : (wrow a n).length = n := by unfold wrow; rw [List.length_map, List.length_range]
theorem wrow_top {a : Int} (ha : 0 ≤ a) : ∀ n : Nat, wtop (wrow a (n + 1)) = a + n
  | 0 => by rw [wrow_succ, wtop_app]; show max (wtop []) _ = _; rw [wtop_nil]; omega
  | n + 1 => by rw [wrow_succ, wtop_app, wrow_top ha n]; omega
theorem wrow_chk {a : Int} (ha : 0 ≤ a) (n : Nat) (hm : a + n ≤ 281474976710655) : wchk (wrow a n) (a + n) = 0 := by
  refine wchk_zero (by omega) hm ?_ (fun h => by have := (wrow_mem.1 h).2; omega)
  cases n with
  | zero => show wtop [] - 1024 < _; rw [wtop_nil]; omega
  | succ n => rw [wrow_top ha]; omega
theorem wrow_mk {a : Int} (ha : 0 ≤ a) (n : Nat) (hm : a + n ≤ 281474976710655) : wmk (wrow a n) (a + n) = wrow a (n + 1) := by rw [wmk_ok (wrow_chk ha n hm), wrow_succ]
theorem wrow_filter (a c : Int) : ∀ n : Nat, ((wrow a n).filter (fun x => decide (c < x))).length = n - (min (n : Int) (max 0 (c + 1 - a))).toNat
  | 0 => by rw [Nat.zero_sub]; rfl
  | n + 1 => by
    rw [wrow_succ, List.filter_append, List.length_append, wrow_filter a c n]
    by_cases h : c < a + n
    · rw [List.filter_cons_of_pos (by simpa using h)]
      simp only [List.filter_nil, List.length_cons, List.length_nil]
      omega
    · rw [List.filter_cons_of_neg (by simpa using h)]
      simp only [List.filter_nil, List.length_nil]
      omega
theorem wrow_cnt {a : Int} (ha : 0 ≤ a) (n : Nat) : wcnt (wrow a (n + 1)) = min (n + 1) 1024 := by
  unfold wcnt
  rw [wrow_top ha, wrow_filter]
  omega
theorem wrow_nx {a : Int} (ha : 0 ≤ a) (n : Nat) {last : Int} (h1 : a ≤ last - 1) (h2 : last ≤ a + n) (h3 : a + n - 1024 < last - 1) : wnx (wrow a (n + 1)) last = last - 1 := by
  have hge := wnx_ge (L := wrow a (n + 1)) (last := last) (x := last - 1) (wrow_mem.2 ⟨h1, by omega⟩) (by omega) (by rw [wrow_top ha]; exact h3)
  have := (wnx_mem (L := wrow a (n + 1)) (last := last) (by omega)).2.1
  omega
theorem wrow_end {a : Int} (ha : 0 ≤ a) (n : Nat) {last : Int} (h : last ≤ a ∨ last - 1 ≤ a + n - 1024) : wnx (wrow a (n + 1)) last < 0 := Decidable.byContradiction fun hn => by
  obtain ⟨m1, m2, m3⟩ := wnx_mem hn
  rw [wrow_top ha] at m3
  have := (wrow_mem.1 m1).1
  omega
theorem wrow_bl {a : Int} (ha : 0 ≤ a) (n : Nat) (e : Int) (he : e = max a (a + n - 1023)) : ∀ (k : Nat) (last : Int), e ≤ last → last ≤ a + n → (last - e).toNat < k → wbl (wrow a (n + 1)) 3 k [(last, a + n)] last = [(e, a + n)]
  | 0, _, _, _, h => absurd h (Nat.not_lt_zero _)
  | k + 1, last, h1, h2, h3 => by
    unfold wbl
    by_cases hl : last = e
    · rw [if_pos (wrow_end ha n (by omega)), hl]
    · have hx := wrow_nx ha n (last := last) (by omega) h2 (by omega)
      rw [if_neg (by omega), hx]
      have hq : wput 3 (last - 1) [(last, a + n)] = some [(last - 1, a + n)] := by unfold wput; simp only; rw [if_pos (by omega)]
      rw [hq]
      exact wrow_bl ha n e he k (last - 1) (by omega) (by omega) (by omega)
theorem wrow_bel {a : Int} (ha : 0 ≤ a) (n : Nat) : wbel (wrow a (n + 2)) 3 = [(max a (a + (n + 1 : Nat) - 1023), a + (n + 1 : Nat))] := by
  unfold wbel
  rw [wrow_len, wrow_top ha]
  show wbl _ 3 ((n + 2) + 1) [] _ = _
  unfold wbl
  have hx : wnx (wrow a (n + 2)) (a + (n + 1 : Nat)) = a + (n + 1 : Nat) - 1 := wrow_nx ha (n + 1) (last := a + (n + 1 : Nat)) (by omega) (Int.le_refl _) (by omega)
  rw [if_neg (by omega), hx]
  have hq : wput 3 (a + (n + 1 : Nat) - 1) [] = some [(a + (n + 1 : Nat) - 1, a + (n + 1 : Nat) - 1 + 1)] := by unfold wput; simp only; rw [if_neg (by decide)]
  rw [hq]
  simp only
  rw [show a + ((n + 1 : Nat) : Int) - 1 + 1 = a + ((n + 1 : Nat) : Int) by omega]
  exact wrow_bl ha (n + 1) _ rfl (n + 2) _ (by omega) (by omega) (by omega)
theorem wchk_old {L : List Int} {n : Int} (h : ¬ (n < 0 ∨ 281474976710655 < n)) (h2 : n ≤ wtop L - 1024 ∨ n ∈ L) : wchk L n = 140 := by unfold wchk; rw [if_neg h, if_pos h2]
def wrc : List (Int × Int) → List Value
  | [] => []
  | p :: l => .int .i64 p.1 :: .int .i64 p.2 :: wrc l
theorem wrc_len : ∀ l : List (Int × Int), (wrc l).length = l.length * 2
  | [] => rfl
  | _ :: l => by show (wrc l).length + 1 + 1 = (l.length + 1) * 2; rw [wrc_len l]; omega
theorem wrc_one : ∀ (l : List (Int × Int)), ∀ u ∈ wrc l, u.oneCell' = true
  | [], _, h => by cases h
  | p :: l, u, h => by
    rcases List.mem_cons.1 h with rfl | h
    · rfl
    rcases List.mem_cons.1 h with rfl | h
    · rfl
    exact wrc_one l u h
theorem manyW : Many Try.prog 36 (.agg #[.int .i64 0, .int .i64 0]) 16 2 := ⟨by kernel_rfl⟩
theorem Mm.ofRow {w0 w : World} {l : List (Nat × List Value)} (h : Mm w0 l w) {base : Nat} {e : TypeId} {size n : Nat} {xs : List Value} {v : Value} {g : Nat} (hr : w.ownsRow base e size v n xs) (hg : v.ownBlock = some g) (h0 : w0.heap.size ≤ base) (hne : ∀ p ∈ l, p.1 ≠ g) : Mm w0 ((g, xs) :: l) w := by
  have hlt := World.ownsRow.lt hr g hg
  refine ⟨fun p hp => ?_, List.pairwise_cons.2 ⟨fun p hp => (hne p hp).symm, h.apart⟩, h.below⟩
  rcases List.mem_cons.1 hp with rfl | hp
  · refine ⟨fun j hj => ⟨?_, ?_⟩, by simp only; omega, hlt.2⟩
    · have := World.ownsRow.cells hr hg j _ (List.getElem?_eq_getElem hj)
      rw [Addr.add_mid, Nat.zero_add] at this
      rw [this, List.getElem?_eq_getElem hj]
    · rcases hr.2 with ⟨rfl, _⟩ | ⟨g', cap, cur, rfl, _, hgg, _⟩
      · cases hg
      · obtain rfl : g' = g := by simpa [Value.ownBlock] using hg
        unfold World.frozen?
        simp only
        rw [hgg]
        simp
  · exact h.rows p hp
theorem row_lit (w : World) (base : Nat) (a b : Int) (hb : base ≤ w.heap.size) : (w.alloc (.cells #[.int .i64 a, .int .i64 b] 36)).ownsRow base 36 2 (.slice (some ⟨w.heap.size, 0, none⟩) 1 1) 1 [.int .i64 a, .int .i64 b] :=
  ⟨rfl, .inr ⟨w.heap.size, 1, _, rfl, hb, heap_alloc_new w _, Nat.le_refl _, by unfold maxLen; omega, rfl, rfl⟩⟩
theorem idxSm {P : Program} {o : Oper} {a : Act} (t e : TypeId) (len cap m : Nat) (k : IntKind) (ad : Addr) (i : Nat) (x y : Operand) (hu : P.underlying t = some (.slice e)) (hsz : ∀ w, (sizeOf e).run P w = .ok m w) (hi : i < len) (ho : o.op = .indexAddr t x y) (hx : a.eval x = .slice (some ad) len cap) (hy : a.eval y = .int k (i : Int)) (w : World) :
    (execOp a.eval o).run P w = .ok (.value (.pointer (some (ad.add (i * m))))) w := by
  have e1 : (Instr.indexAt t (.slice (some ad) len cap) (.int k (i : Int))).run P w = .ok (.pointer (some (ad.add (i * m)))) w := by
    simp [Instr.indexAt, run_underlying hu, asIntOf, hsz]
    intro hf
    omega
  unfold execOp
  simp only [ho, hx, hy, Sem.run_bind, e1, Result.andThen_ok, Sem.run_pure]
theorem row_slice {w : World} {base : Nat} {e : TypeId} {size n : Nat} {xs : List Value} {v : Value} (h : w.ownsRow base e size v n xs) (hn : 0 < n) : ∃ g cap, v = .slice (some ⟨g, 0, none⟩) n cap ∧ n ≤ cap := by
  rcases h.2 with ⟨rfl, h0⟩ | ⟨g, cap, cur, rfl, _, _, hc, _⟩
  · omega
  · exact ⟨g, cap, rfl, hc⟩
def NewW (w : World) (base : Nat) (l : List (Int × Int)) (v : Value) : Prop := ∃ sp cap, v = .slice sp l.length cap ∧ l.length ≤ cap ∧ (sp = none → cap = 0) ∧ (∀ j u, (wrc l)[j]? = some u → ∃ ad, sp = some ad ∧ w.cell? (ad.add j) = some u) ∧ ∀ a, sp = some a → base ≤ a.block ∧ a.block < w.heap.size
theorem wbl_stop {L : List Int} {most : Int} {k : Nat} {l : List (Int × Int)} {last : Int} (h : wnx L last < 0) : wbl L most k l last = l := by
  cases k with
  | zero => rfl
  | succ k => unfold wbl; rw [if_pos h]
theorem wbl_full {L : List Int} {most : Int} {k : Nat} {l : List (Int × Int)} {last : Int} (h : ¬ wnx L last < 0) (hp : wput most (wnx L last) l = none) : wbl L most (k + 1) l last = l := by unfold wbl; rw [if_neg h, hp]
theorem wbl_more {L : List Int} {most : Int} {k : Nat} {l l' : List (Int × Int)} {last : Int} (h : ¬ wnx L last < 0) (hp : wput most (wnx L last) l = some l') : wbl L most (k + 1) l last = wbl L most k l' (wnx L last) := by rw [wbl, if_neg h, hp]
theorem wput_wide {most nx a b : Int} {t : List (Int × Int)} (h : a = nx + 1) : wput most nx ((a, b) :: t) = some ((nx, b) :: t) := if_pos h
theorem wput_new {most nx a b : Int} {t : List (Int × Int)} (h : ¬ a = nx + 1) (hm : ¬ most ≤ (((a, b) :: t).length : Int)) : wput most nx ((a, b) :: t) = some ((nx, nx + 1) :: (a, b) :: t) := by unfold wput; simp only; rw [if_neg h, if_neg hm]
theorem wput_full {most nx a b : Int} {t : List (Int × Int)} (h : ¬ a = nx + 1) (hm : most ≤ (((a, b) :: t).length : Int)) : wput most nx ((a, b) :: t) = none := by unfold wput; simp only; rw [if_neg h, if_pos hm]
theorem wput_nil {most nx : Int} (hm : ¬ most ≤ 0) : wput most nx [] = some [(nx, nx + 1)] := if_neg hm
theorem wput_nilfull {most nx : Int} (hm : most ≤ 0) : wput most nx [] = none := if_pos hm
section
section
variable {w0 w : World} {g x t : List (Nat × List Value)}
theorem Mm.lts (h : Mm w0 (g ++ t) w) : ∀ b ∈ g.map Prod.fst, b < w.heap.size := fun b hb => by
  obtain ⟨p, hp, rfl⟩ := List.mem_map.1 hb
  exact (h.rows p (List.mem_append_left _ hp)).2.2
end
section
variable {α : Type} (x a b c g t : List α)
theorem pull0 : (x ++ (g ++ t)).Perm (g ++ (x ++ t)) := by
  rw [← List.append_assoc, ← List.append_assoc]
  exact List.perm_append_comm.append_right t
end
end
structure WinOK (I : Value → List Int → List (Nat × List Value) → Prop) : Prop where
  ptr : ∀ v L bs, I v L bs → ∃ R, v = .pointer (some ⟨R, 0, none⟩)
  new : ∀ (w0 w : World) (l : List (Nat × List Value)), Mm w0 l w →
    Calls Try.prog 8 #[] w fun e w' => ∃ v bs, e = .returned v ∧ I v [] bs ∧ Mm w0 (bs ++ l) w' ∧ Below w.heap.size w w'
  chk : ∀ (w0 w : World) (v : Value) (L : List Int) (bs l : List (Nat × List Value)) (n : Int), WinL L → i64 n → I v L bs → Mm w0 (bs ++ l) w →
    Calls Try.prog 13 #[v, .int .i64 n] w fun e w' => e = .returned (.int .i64 (wchk L n)) ∧ Below w.heap.size w w'
  mrk : ∀ (w0 w : World) (v : Value) (L : List Int) (bs l : List (Nat × List Value)) (n : Int), WinL L → L.length < 1000000 → i64 n → I v L bs → Mm w0 (bs ++ l) w →
    Calls Try.prog 11 #[v, .int .i64 n] w fun e w' => e = .returned (.int .i64 (wchk L n)) ∧ ∃ bs', I v (wmk L n) bs' ∧ (∀ p ∈ bs', p.1 ∈ bs.map Prod.fst ∨ w.heap.size ≤ p.1) ∧ Mm w0 (bs' ++ l) w' ∧ Off (bs.map Prod.fst) w w'
  top : ∀ (w0 w : World) (v : Value) (L : List Int) (bs l : List (Nat × List Value)), WinL L → I v L bs → Mm w0 (bs ++ l) w →
    Calls Try.prog 15 #[v] w fun e w' => e = .returned (.int .i64 (wtop L)) ∧ Below w.heap.size w w'
  cnt : ∀ (w0 w : World) (v : Value) (L : List Int) (bs l : List (Nat × List Value)), WinL L → I v L bs → Mm w0 (bs ++ l) w →
    Calls Try.prog 17 #[v] w fun e w' => e = .returned (.int .i64 ((wcnt L : Nat) : Int)) ∧ Below w.heap.size w w'
  bel : ∀ (w0 w : World) (v : Value) (L : List Int) (bs l : List (Nat × List Value)) (most : Int), WinL L → i64 most → I v L bs → Mm w0 (bs ++ l) w →
    Calls Try.prog 19 #[v, .int .i64 most] w fun e w' => (∃ u, e = .returned u ∧ NewW w' w.heap.size (wbel L most) u) ∧ Below w.heap.size w w'
theorem NewW.off {w w' : World} {base : Nat} {l : List (Int × Int)} {v : Value} {X : List Nat} (h : NewW w base l v) (o : Off X w w') (hX : ∀ b ∈ X, b < base) : NewW w' base l v := by
  obtain ⟨sp, cap, hv, hc, hn, hs, ha⟩ := h
  have hsz := o.size
  refine ⟨sp, cap, hv, hc, hn, fun j u hu => ?_, fun a e => ⟨(ha a e).1, by have := (ha a e).2; omega⟩⟩
  obtain ⟨p, hp, hcell⟩ := hs j u hu
  exact ⟨p, hp, o.cell hcell (by rw [add_block]; exact fun hm => by have := hX _ hm; have := (ha p hp).1; omega)⟩
theorem NewW.below {w w' : World} {base : Nat} {l : List (Int × Int)} {v : Value} (h : NewW w base l v) (b : Below w.heap.size w w') : NewW w' base l v := h.off (X := []) (Off.of_below b) (fun _ hb => by cases hb)
theorem NewW.slice {w : World} {base : Nat} {l : List (Int × Int)} {v : Value} (h : NewW w base l v) : ∃ sp cap, v = .slice sp l.length cap ∧ l.length ≤ cap := by
  obtain ⟨sp, cap, hv, hc, _⟩ := h
  exact ⟨sp, cap, hv, hc⟩
theorem wrc_get : ∀ (l : List (Int × Int)) (i : Nat) (p : Int × Int), l[i]? = some p → (wrc l)[i * 2]? = some (.int .i64 p.1) ∧ (wrc l)[i * 2 + 1]? = some (.int .i64 p.2)
  | [], _, _, h => by cases h
  | q :: l, 0, p, h => by
    obtain rfl : q = p := by simpa using h
    exact ⟨rfl, rfl⟩
  | q :: l, i + 1, p, h => by
    have := wrc_get l i p (by simpa using h)
    rw [show (i + 1) * 2 = i * 2 + 1 + 1 by omega]
    exact this
theorem NewW.at {w : World} {base : Nat} {l : List (Int × Int)} {sp : Option Addr} {cap : Nat} (h : NewW w base l (.slice sp l.length cap)) {i : Nat} {p : Int × Int} (hi : l[i]? = some p) : ∃ ad, sp = some ad ∧ w.cell? ((ad.add (i * 2)).add 0) = some (.int .i64 p.1) ∧ w.cell? ((ad.add (i * 2)).add 1) = some (.int .i64 p.2) := by
  obtain ⟨sp', cap', hv, _, _, hs, _⟩ := h
  injection hv with h1 _ _
  subst h1
  obtain ⟨g1, g2⟩ := wrc_get l i p hi
  obtain ⟨ad, rfl, c1⟩ := hs _ _ g1
  obtain ⟨ad', e, c2⟩ := hs _ _ g2
  injection e with e
  subst e
  exact ⟨ad, rfl, by rw [Addr.add_add, Nat.add_zero]; exact c1, by rw [Addr.add_add]; exact c2⟩
theorem idxR2 (ad : Addr) (len cap i : Nat) (hi : i < len) {o : Oper} {a : Act} (x y : Operand) (ho : o.op = .indexAddr 33 x y) (hx : a.eval x = .slice (some ad) len cap) (hy : a.eval y = .int .i64 (i : Int)) (w : World) : (execOp a.eval o).run Try.prog w = .ok (.value (.pointer (some (ad.add (i * 2))))) w :=
  idxSm 33 36 len cap 2 .i64 ad i x y Try.underlying33 (fun _ => by kernel_rfl) hi ho hx hy w
theorem range_n : (Try.prog.fieldsOf 36).toList.map Field.name = ["From", "To"] := by kernel_rfl
theorem range_t : (Try.prog.fieldsOf 36).toList.map Field.type = [3, 3] := by kernel_rfl
theorem range_o : (Try.prog.fieldsOf 36).toList.map Field.offset = [0, 1] := by kernel_rfl
theorem two_of14 {l : List Field} {n1 n2 : String} {t1 t2 : TypeId} {o1 o2 : Nat} (hn : l.map Field.name = [n1, n2]) (ht : l.map Field.type = [t1, t2]) (ho : l.map Field.offset = [o1, o2]) : ∃ a b : Field, l = [a, b] ∧ a.name = n1 ∧ b.name = n2 ∧ a.type = t1 ∧ b.type = t2 ∧ a.offset = o1 ∧ b.offset = o2 := by
  rcases l with _ | ⟨a, _ | ⟨b, _ | ⟨c, l⟩⟩⟩
  · simp at hn
  · simp at hn
  · simp only [List.map_cons, List.map_nil, List.cons.injEq, and_true] at hn ht ho
    exact ⟨a, b, rfl, hn.1, hn.2, ht.1, ht.2, ho.1, ho.2⟩
  · simp at hn
theorem eqRange (x y : Int) (w : World) : (Op.equalIn (9999 + 1) 36 (.agg #[.int .i64 x, .int .i64 y]) (.agg #[.int .i64 x, .int .i64 y])).run Try.prog w = .ok true w := by
  rw [run_equalIn_struct w 9999 36 _ _ (by kernel_rfl) (by kernel_rfl)]
  obtain ⟨a, b, e, n1, n2, t1, t2, o1, o2⟩ := two_of14 range_n range_t range_o
  rw [e]
  have p1 : (part 3 #[.int .i64 x, .int .i64 y] 0).run Try.prog w = .ok (.int .i64 x) w := by kernel_rfl
  have p2 : (part 3 #[.int .i64 x, .int .i64 y] 1).run Try.prog w = .ok (.int .i64 y) w := by kernel_rfl
  have q : ∀ z : Int, (Op.equalIn (9998 + 1) 3 (.int .i64 z) (.int .i64 z)).run Try.prog w = .ok true w := fun z => by rw [run_equalIn_int w 9998 3 .i64 .i64 z z Try.underlying3, beq_self_eq_true]
  have m1 : a.name ≠ "_" := by rw [n1]; decide
  have m2 : b.name ≠ "_" := by rw [n2]; decide
  have q1 := q x
  have q2 := q y
  simp only [Op.eqFields, m1, m2, t1, t2, o1, o2, ne_eq, not_false_eq_true, if_true, Sem.run_bind, p1, p2, q1, q2, Result.andThen_ok, Bool.not_true, Bool.false_eq_true, if_false, Sem.run_pure]
theorem eqlRg {o : Oper} {a : Act} (f g f' g' : Int) (x y : Operand) (ho : o.op = .binOp .eql 36 x y 36) (hx : a.eval x = .agg #[.int .i64 f, .int .i64 g]) (hy : a.eval y = .agg #[.int .i64 f', .int .i64 g']) (h1 : f = f') (h2 : g = g') (w : World) :
    (execOp a.eval o).run Try.prog w = .ok (.value (.bool true)) w := by
  subst h1 h2
  have e1 : (binOp .eql 36 (.agg #[.int .i64 f, .int .i64 g]) (.agg #[.int .i64 f, .int .i64 g])).run Try.prog w = .ok (.bool true) w := by
    rw [run_eql_struct, eqRange]
    rfl
  unfold execOp
  simp only [ho, hx, hy, Sem.run_bind, run_eqGuard_agg (P := Try.prog) w .eql 36 x y _ _ (by kernel_rfl), Result.andThen_ok, e1, Sem.run_pure]
theorem shown14_any {I : Value → List Int → List (Nat × List Value) → Prop} (hK : WinOK I) (w0 : World) :
    Calls Try.prog 7 #[] w0 fun e w' => e = .returned (.bool true) ∧ Below w0.heap.size w0 w' := by
  have M := Mm.init w0
  go_enter Try.func7, Try.ntmps7
  go_upto_region 0 with fail
  refine wp_region_list ?_
  refine readL (.bool false) rfl (by kernel_rfl) ?_
  simp only [aP, lI, l0]
  first | show Exit.then _ _ _ _ _ | show Exit.inBlock _ _ _ _ _
  go_upto_region 1 with fail
  refine wp_region_list ?_
  have key := hK.new w0 _ _ M
  refine callL rfl (fun _ => by kernel_rfl) key ?_
  clear key
  rintro e w1 ⟨v_, ba0, rfl, hIa, M', l⟩
  obtain ⟨Ra, rfl⟩ := hK.ptr _ _ _ hIa
  clear M
  have M := M'.perm (pull0 ([] : List (Nat × List Value)) ba0 ([] : List (Nat × List Value))).symm
  clear M'
  clear l
  replace M : Mm w0 ((ba0 ++ ([] : List (Nat × List Value)))) w1 := M
  refine ⟨_, rfl, ?_⟩
  simp only [aP, lI, l0, lS]
  refine readL (.pointer (some ⟨Ra, 0, none⟩)) rfl (by kernel_rfl) ?_
  simp only [aP, lI, l0, lS]
  first | show Exit.then _ _ _ _ _ | show Exit.inBlock _ _ _ _ _
  go_upto_region 2 with fail
  refine wp_region_list ?_
  refine readL (.pointer (some ⟨Ra, 0, none⟩)) rfl (by kernel_rfl) ?_
  simp only [aP, lI, l0, lS]
  refine readL (.bool false) rfl (by kernel_rfl) ?_
  simp only [aP, lI, l0, lS]
  first | show Exit.then _ _ _ _ _ | show Exit.inBlock _ _ _ _ _
  go_upto_region 4 with fail
  refine wp_region_list ?_
  refine readL (.pointer (some ⟨Ra, 0, none⟩)) rfl (by kernel_rfl) ?_
  simp only [aP, lI, l0, lS]
  have Mp := M.perm (pull0 ([] : List (Nat × List Value)) ba0 ([] : List (Nat × List Value)))
  have key := hK.top w0 _ _ ([]) ba0 _ winL_nil hIa Mp
  clear Mp
  rw [show wtop [] = (-1) by decide] at key
  refine callL rfl (fun _ => by kernel_rfl) key ?_
  clear key
  rintro e w2 ⟨rfl, l⟩
  replace M := M.call l
  clear l
  refine ⟨_, rfl, ?_⟩
  simp only [aP, lI, l0, lS]
  refine readL (.int .i64 (-1)) rfl (by kernel_rfl) ?_
  simp only [aP, lI, l0, lS]
  first | show Exit.then _ _ _ _ _ | show Exit.inBlock _ _ _ _ _
  go_upto_region 5 with fail
  refine wp_region_list ?_
  refine readL (.pointer (some ⟨Ra, 0, none⟩)) rfl (by kernel_rfl) ?_
  simp only [aP, lI, l0, lS]
  have Mp := M.perm (pull0 ([] : List (Nat × List Value)) ba0 ([] : List (Nat × List Value)))
  have key := hK.mrk w0 _ _ ([]) ba0 _ 5 winL_nil (by decide) (by unfold i64; decide) hIa Mp
  rw [show wchk [] 5 = 0 by decide, show wmk [] 5 = [5] by decide] at key
  refine callL rfl (fun _ => by kernel_rfl) key ?_
  clear key
  rintro e w3 ⟨rfl, ba1, hI_, hsub, M', o1⟩
  clear o1 hsub Mp M hIa
  have hIa := hI_
  clear hI_
  have M : Mm w0 ((ba1 ++ ([] : List (Nat × List Value)))) w3 := M'.perm (pull0 ([] : List (Nat × List Value)) ba1 ([] : List (Nat × List Value))).symm
  clear M'
  refine ⟨_, rfl, ?_⟩
  simp only [aP, lI, l0, lS]
  refine readL (.int .i64 0) rfl (by kernel_rfl) ?_
  simp only [aP, lI, l0, lS]
  first | show Exit.then _ _ _ _ _ | show Exit.inBlock _ _ _ _ _
  go_upto_region 6 with fail
  refine wp_region_list ?_
  refine readL (.pointer (some ⟨Ra, 0, none⟩)) rfl (by kernel_rfl) ?_
  simp only [aP, lI, l0, lS]
  have Mp := M.perm (pull0 ([] : List (Nat × List Value)) ba1 ([] : List (Nat × List Value)))
  have key := hK.mrk w0 _ _ ([5]) ba1 _ 5 (wmk_w winL_nil 5) (by decide) (by unfold i64; decide) hIa Mp
  rw [show wchk [5] 5 = 140 by decide, show wmk [5] 5 = [5] by decide] at key
  refine callL rfl (fun _ => by kernel_rfl) key ?_
  clear key
  rintro e w4 ⟨rfl, ba2, hI_, hsub, M', o1⟩
  clear o1 hsub Mp M hIa
  have hIa := hI_
  clear hI_
  have M : Mm w0 ((ba2 ++ ([] : List (Nat × List Value)))) w4 := M'.perm (pull0 ([] : List (Nat × List Value)) ba2 ([] : List (Nat × List Value))).symm
  clear M'
  refine ⟨_, rfl, ?_⟩
  simp only [aP, lI, l0, lS]
  refine readL (.int .i64 140) rfl (by kernel_rfl) ?_
  simp only [aP, lI, l0, lS]
  first | show Exit.then _ _ _ _ _ | show Exit.inBlock _ _ _ _ _
  go_upto_region 7 with fail
  refine wp_region_list ?_
  refine readL (.pointer (some ⟨Ra, 0, none⟩)) rfl (by kernel_rfl) ?_
  simp only [aP, lI, l0, lS]
  have Mp := M.perm (pull0 ([] : List (Nat × List Value)) ba2 ([] : List (Nat × List Value)))
  have key := hK.mrk w0 _ _ ([5]) ba2 _ 3 (wmk_w winL_nil 5) (by decide) (by unfold i64; decide) hIa Mp
  rw [show wchk [5] 3 = 0 by decide, show wmk [5] 3 = [5, 3] by decide] at key
  refine callL rfl (fun _ => by kernel_rfl) key ?_
  clear key
  rintro e w5 ⟨rfl, ba3, hI_, hsub, M', o1⟩
  clear o1 hsub Mp M hIa
  have hIa := hI_
  clear hI_
  have M : Mm w0 ((ba3 ++ ([] : List (Nat × List Value)))) w5 := M'.perm (pull0 ([] : List (Nat × List Value)) ba3 ([] : List (Nat × List Value))).symm
  clear M'
  refine ⟨_, rfl, ?_⟩
  simp only [aP, lI, l0, lS]
  refine readL (.int .i64 0) rfl (by kernel_rfl) ?_
  simp only [aP, lI, l0, lS]
  first | show Exit.then _ _ _ _ _ | show Exit.inBlock _ _ _ _ _
  go_upto_region 8 with fail
  refine wp_region_list ?_
  refine readL (.pointer (some ⟨Ra, 0, none⟩)) rfl (by kernel_rfl) ?_
  simp only [aP, lI, l0, lS]
  have Mp := M.perm (pull0 ([] : List (Nat × List Value)) ba3 ([] : List (Nat × List Value)))
  have hq_6_a := Mp.lts
  have key := hK.bel w0 _ _ ([5, 3]) ba3 _ 8 (wmk_w (wmk_w winL_nil 5) 3) (by unfold i64; decide) hIa Mp
  clear Mp
  rw [show wbel [5, 3] 8 = [(3, 4)] by decide] at key
  refine callL rfl (fun _ => by kernel_rfl) key ?_
  clear key
  rintro e w6 ⟨⟨v_, rfl, N_6⟩, l⟩
  replace M := M.call l
  clear l
  obtain ⟨p6, c6, rfl, hcc_6⟩ := NewW.slice N_6
  refine ⟨_, rfl, ?_⟩
  simp only [aP, lI, l0, lS]
  refine readL (.slice p6 (([(3, 4)] : List (Int × Int)).length) c6) rfl (by kernel_rfl) ?_
  simp only [aP, lI, l0, lS]
  first | show Exit.then _ _ _ _ _ | show Exit.inBlock _ _ _ _ _
  go_upto_region 9 with fail
  refine wp_region_list ?_
  refine readL (.pointer (some ⟨Ra, 0, none⟩)) rfl (by kernel_rfl) ?_
  simp only [aP, lI, l0, lS]
  have Mp := M.perm (pull0 ([] : List (Nat × List Value)) ba3 ([] : List (Nat × List Value)))
  have key := hK.top w0 _ _ ([5, 3]) ba3 _ (wmk_w (wmk_w winL_nil 5) 3) hIa Mp
  clear Mp
  rw [show wtop [5, 3] = 5 by decide] at key
  refine callL rfl (fun _ => by kernel_rfl) key ?_
  clear key
  rintro e w7 ⟨rfl, l⟩
  replace M := M.call l
  replace N_6 := NewW.below N_6 l
  clear l
  refine ⟨_, rfl, ?_⟩
  simp only [aP, lI, l0, lS]
  refine readL (.int .i64 5) rfl (by kernel_rfl) ?_
  simp only [aP, lI, l0, lS]
  first | show Exit.then _ _ _ _ _ | show Exit.inBlock _ _ _ _ _
  go_upto_region 10 with fail
  refine wp_region_list ?_
  refine readL (.pointer (some ⟨Ra, 0, none⟩)) rfl (by kernel_rfl) ?_
  simp only [aP, lI, l0, lS]
  have Mp := M.perm (pull0 ([] : List (Nat × List Value)) ba3 ([] : List (Nat × List Value)))
  have key := hK.cnt w0 _ _ ([5, 3]) ba3 _ (wmk_w (wmk_w winL_nil 5) 3) hIa Mp
  clear Mp
  rw [show wcnt [5, 3] = 2 by decide] at key
  refine callL rfl (fun _ => by kernel_rfl) key ?_
  clear key
  rintro e w8 ⟨rfl, l⟩
  replace M := M.call l
  replace N_6 := NewW.below N_6 l
  clear l
  refine ⟨_, rfl, ?_⟩
  simp only [aP, lI, l0, lS]
  refine readL (.int .i64 ((2 : Nat) : Int)) rfl (by kernel_rfl) ?_
  simp only [aP, lI, l0, lS]
  first | show Exit.then _ _ _ _ _ | show Exit.inBlock _ _ _ _ _
  go_upto_region 11 with fail
  refine wp_region_list ?_
  refine readL (.pointer (some ⟨Ra, 0, none⟩)) rfl (by kernel_rfl) ?_
  simp only [aP, lI, l0, lS]
  have Mp := M.perm (pull0 ([] : List (Nat × List Value)) ba3 ([] : List (Nat × List Value)))
  have key := hK.mrk w0 _ _ ([5, 3]) ba3 _ 1029 (wmk_w (wmk_w winL_nil 5) 3) (by decide) (by unfold i64; decide) hIa Mp
  rw [show wchk [5, 3] 1029 = 0 by decide, show wmk [5, 3] 1029 = [5, 3, 1029] by decide] at key
  refine callL rfl (fun _ => by kernel_rfl) key ?_
  clear key
  rintro e w9 ⟨rfl, ba4, hI_, hsub, M', o1⟩
  replace N_6 := NewW.off N_6 o1 hq_6_a
  clear o1 hsub Mp M hIa
  have hIa := hI_
  clear hI_
  have M : Mm w0 ((ba4 ++ ([] : List (Nat × List Value)))) w9 := M'.perm (pull0 ([] : List (Nat × List Value)) ba4 ([] : List (Nat × List Value))).symm
  clear M'
  refine ⟨_, rfl, ?_⟩
  simp only [aP, lI, l0, lS]
  refine readL (.int .i64 0) rfl (by kernel_rfl) ?_
  simp only [aP, lI, l0, lS]
  first | show Exit.then _ _ _ _ _ | show Exit.inBlock _ _ _ _ _
  go_upto_region 12 with fail
  refine wp_region_list ?_
  refine readL (.int .i64 (-1)) rfl (by kernel_rfl) ?_
  simp only [aP, lI, l0, lS]
  refine readL (.bool true) rfl (eqlI .i64 _ _ _ _ _ _ rfl rfl rfl true (by decide) _) ?_
  simp only [aP, lI, l0, lS]
  refine readL (.bool true) rfl (by kernel_rfl) ?_
  simp only [aP, lI, l0, lS]
  refine readL (.int .i64 0) rfl (by kernel_rfl) ?_
  simp only [aP, lI, l0, lS]
  refine readL (.bool true) rfl (eqlI .i64 _ _ _ _ _ _ rfl rfl rfl true (by decide) _) ?_
  simp only [aP, lI, l0, lS]
  refine readL (.bool true) rfl (by kernel_rfl) ?_
  simp only [aP, lI, l0, lS]
  refine readL (.bool true) rfl (by kernel_rfl) ?_
  simp only [aP, lI, l0, lS]
  refine readL (.int .i64 140) rfl (by kernel_rfl) ?_
  simp only [aP, lI, l0, lS]
  refine readL (.bool true) rfl (eqlI .i64 _ _ _ _ _ _ rfl rfl rfl true (by decide) _) ?_
  simp only [aP, lI, l0, lS]
  refine readL (.bool true) rfl (by kernel_rfl) ?_
  simp only [aP, lI, l0, lS]
  refine readL (.bool true) rfl (by kernel_rfl) ?_
  simp only [aP, lI, l0, lS]
  refine readL (.int .i64 0) rfl (by kernel_rfl) ?_
  simp only [aP, lI, l0, lS]
  refine readL (.bool true) rfl (eqlI .i64 _ _ _ _ _ _ rfl rfl rfl true (by decide) _) ?_
  simp only [aP, lI, l0, lS]
  refine readL (.bool true) rfl (by kernel_rfl) ?_
  simp only [aP, lI, l0, lS]
  refine readL (.bool true) rfl (by kernel_rfl) ?_
  simp only [aP, lI, l0, lS]
  refine readL (.int .i64 5) rfl (by kernel_rfl) ?_
  simp only [aP, lI, l0, lS]
  refine readL (.bool true) rfl (eqlI .i64 _ _ _ _ _ _ rfl rfl rfl true (by decide) _) ?_
  simp only [aP, lI, l0, lS]
  refine readL (.bool true) rfl (by kernel_rfl) ?_
  simp only [aP, lI, l0, lS]
  refine readL (.bool true) rfl (by kernel_rfl) ?_
  simp only [aP, lI, l0, lS]
  refine readL (.int .i64 ((2 : Nat) : Int)) rfl (by kernel_rfl) ?_
  simp only [aP, lI, l0, lS]
  refine readL (.bool true) rfl (eqlI .i64 _ _ _ _ _ _ rfl rfl rfl true (by decide) _) ?_
  simp only [aP, lI, l0, lS]
  refine readL (.bool true) rfl (by kernel_rfl) ?_
  simp only [aP, lI, l0, lS]
  refine readL (.bool true) rfl (by kernel_rfl) ?_
  simp only [aP, lI, l0, lS]
  refine readL (.slice p6 (([(3, 4)] : List (Int × Int)).length) c6) rfl (by kernel_rfl) ?_
  simp only [aP, lI, l0, lS]
  refine readL (.int .i64 ((([(3, 4)] : List (Int × Int)).length : Nat) : Int)) rfl (lenS _ 33 36 p6 (([(3, 4)] : List (Int × Int)).length) c6 rfl Try.underlying33 rfl _) ?_
  simp only [aP, lI, l0, lS]
  refine readL (.bool true) rfl (eqlI .i64 _ _ _ _ _ _ rfl rfl rfl true (by decide) _) ?_
  simp only [aP, lI, l0, lS]
  refine readL (.bool true) rfl (by kernel_rfl) ?_
  simp only [aP, lI, l0, lS]
  refine readL (.bool true) rfl (by kernel_rfl) ?_
  simp only [aP, lI, l0, lS]
  refine readL (.slice p6 (([(3, 4)] : List (Int × Int)).length) c6) rfl (by kernel_rfl) ?_
  simp only [aP, lI, l0, lS]
  obtain ⟨ad, rfl, hc0, hc1⟩ := NewW.at (i := 0) (p := (3, 4)) N_6 rfl
  refine readL (.pointer (some (ad.add (0 * 2)))) rfl (idxR2 ad _ _ 0 (by decide) _ _ rfl rfl rfl _) ?_
  simp only [aP, lI, l0, lS]
  refine readL (.agg #[.int .i64 3, .int .i64 4]) rfl (loadN 36 _ (ad.add (0 * 2)) [.int .i64 3, .int .i64 4] rfl rfl (fun _ => by kernel_rfl) (fun _ => by kernel_rfl) (fun j u hu => by rcases j with _ | _ | j <;> simp at hu; all_goals (subst hu; assumption))) ?_
  simp only [aP, lI, l0, lS]
  refine readL (.agg #[.int .i64 3, .int .i64 4]) rfl (by kernel_rfl) ?_
  simp only [aP, lI, l0, lS]
  refine readL (.bool true) rfl (eqlRg _ _ _ _ _ _ rfl rfl rfl rfl rfl _) ?_
  simp only [aP, lI, l0, lS]
  refine readL (.bool true) rfl (by kernel_rfl) ?_
  simp only [aP, lI, l0, lS]
  refine readL (.bool true) rfl (by kernel_rfl) ?_
  simp only [aP, lI, l0, lS]
  refine readL (.int .i64 0) rfl (by kernel_rfl) ?_
  simp only [aP, lI, l0, lS]
  refine readL (.bool true) rfl (eqlI .i64 _ _ _ _ _ _ rfl rfl rfl true (by decide) _) ?_
  simp only [aP, lI, l0, lS]
  refine readL (.bool true) rfl (by kernel_rfl) ?_
  simp only [aP, lI, l0, lS]
  refine readL (.bool true) rfl (by kernel_rfl) ?_
  simp only [aP, lI, l0, lS]
  refine readL (.pointer (some ⟨Ra, 0, none⟩)) rfl (by kernel_rfl) ?_
  simp only [aP, lI, l0, lS]
  have Mp := M.perm (pull0 ([] : List (Nat × List Value)) ba4 ([] : List (Nat × List Value)))
  have key := hK.chk w0 _ _ ([5, 3, 1029]) ba4 _ 5 (wmk_w (wmk_w (wmk_w winL_nil 5) 3) 1029) (by unfold i64; decide) hIa Mp
  clear Mp
  rw [show wchk [5, 3, 1029] 5 = 140 by decide] at key
  refine callL rfl (fun _ => by kernel_rfl) key ?_
  clear key
  rintro e w10 ⟨rfl, l⟩
  replace M := M.call l
  replace N_6 := NewW.below N_6 l
  clear l
  refine ⟨_, rfl, ?_⟩
  simp only [aP, lI, l0, lS]
  refine readL (.bool true) rfl (eqlI .i64 _ _ _ _ _ _ rfl rfl rfl true (by decide) _) ?_
  simp only [aP, lI, l0, lS]
  refine readL (.bool true) rfl (by kernel_rfl) ?_
  simp only [aP, lI, l0, lS]
  refine readL (.bool true) rfl (by kernel_rfl) ?_
  simp only [aP, lI, l0, lS]
  refine readL (.pointer (some ⟨Ra, 0, none⟩)) rfl (by kernel_rfl) ?_
  simp only [aP, lI, l0, lS]
  have Mp := M.perm (pull0 ([] : List (Nat × List Value)) ba4 ([] : List (Nat × List Value)))
  have key := hK.chk w0 _ _ ([5, 3, 1029]) ba4 _ 6 (wmk_w (wmk_w (wmk_w winL_nil 5) 3) 1029) (by unfold i64; decide) hIa Mp
  clear Mp
  rw [show wchk [5, 3, 1029] 6 = 0 by decide] at key
  refine callL rfl (fun _ => by kernel_rfl) key ?_
  clear key
  rintro e w11 ⟨rfl, l⟩
  replace M := M.call l
  replace N_6 := NewW.below N_6 l
  clear l
  refine ⟨_, rfl, ?_⟩
  simp only [aP, lI, l0, lS]
  refine readL (.bool true) rfl (eqlI .i64 _ _ _ _ _ _ rfl rfl rfl true (by decide) _) ?_
  simp only [aP, lI, l0, lS]
  refine readL (.bool true) rfl (by kernel_rfl) ?_
  simp only [aP, lI, l0, lS]
  refine readL (.bool true) rfl (by kernel_rfl) ?_
  simp only [aP, lI, l0, lS]
  refine readL (.pointer (some ⟨Ra, 0, none⟩)) rfl (by kernel_rfl) ?_
  simp only [aP, lI, l0, lS]
  have Mp := M.perm (pull0 ([] : List (Nat × List Value)) ba4 ([] : List (Nat × List Value)))
  have key := hK.chk w0 _ _ ([5, 3, 1029]) ba4 _ (-1) (wmk_w (wmk_w (wmk_w winL_nil 5) 3) 1029) (by unfold i64; decide) hIa Mp
  clear Mp
  rw [show wchk [5, 3, 1029] (-1) = 1 by decide] at key
  refine callL rfl (fun _ => by kernel_rfl) key ?_
  clear key
  rintro e w12 ⟨rfl, l⟩
  replace M := M.call l
  replace N_6 := NewW.below N_6 l
  clear l
  refine ⟨_, rfl, ?_⟩
  simp only [aP, lI, l0, lS]
  refine readL (.bool true) rfl (eqlI .i64 _ _ _ _ _ _ rfl rfl rfl true (by decide) _) ?_
  simp only [aP, lI, l0, lS]
  refine readL (.bool true) rfl (by kernel_rfl) ?_
  simp only [aP, lI, l0, lS]
  refine readL (.bool true) rfl (by kernel_rfl) ?_
  simp only [aP, lI, l0]
  first | show Exit.then _ _ _ _ _ | show Exit.inBlock _ _ _ _ _
  have hbel := M.below
  clear M N_6
  go_wp2
  go_ret
  exact ⟨rfl, hbel⟩
end Go.Proofs.Ytglnmmajgedinaa
