/- Texts of Base Step Hold Float Jz Gn Ar Ow Om Jl Vl Mx My Ob Oc Qa Oa Oi Fa Fb Fc, joined. -/
import Derived.WalkKit
import Derived.WalkSpells
import Derived.Deep.RegionHeld3
import Derived.RowKit3
import Derived.Stop.BytesEq
import Derived.KernelRfl
import Derived.Deep.QuietTactic
import Derived.Lib.SlBytesConst
import Derived.Laws.BytesArg
import Derived.Laws.Concat
import Derived.Laws.AppendOwn
import Derived.Laws.OwnMore
import Derived.Test.YtglnmmajgedinaaProg
import Derived.Laws.MakeOwn
import Derived.Laws.StructEq
import Derived.Laws.Small
import Derived.Lib.ConvBytes
import Derived.Laws.Bits128
import Derived.Laws.Cells
import Derived.Defers
import Derived.Recover
import Derived.Deep.Cut
set_option maxRecDepth 20000
set_option maxHeartbeats 64000000
namespace Go.Proofs.Ytglnmmajgedinaa
open Go.RowKit
theorem aP (a : Act) (d : Tmp) (v : Value) : a.put (some d) v = { a with tmps := a.tmps.setIfInBounds d v } := rfl
theorem lI (l : List Value) (i : Nat) (v : Value) : l.toArray.setIfInBounds i v = (l.set i v).toArray := List.setIfInBounds_toArray l i v
theorem l0 (x v : Value) (l : List Value) : (x :: l).set 0 v = v :: l := rfl
theorem lS (x v : Value) (l : List Value) (n : Nat) : (x :: l).set (n + 1) v = x :: l.set n v := rfl
theorem mS {α : Type} {a : α} {l : List α} : a ∈ a :: l := List.mem_cons_self
theorem mT {α : Type} (y : α) {a : α} {l : List α} (h : a ∈ l) : a ∈ y :: l := List.mem_cons_of_mem y h
abbrev zu64_16 : Array Value := #[.int .u64 0, .int .u64 0, .int .u64 0, .int .u64 0, .int .u64 0, .int .u64 0, .int .u64 0, .int .u64 0, .int .u64 0, .int .u64 0, .int .u64 0, .int .u64 0, .int .u64 0, .int .u64 0, .int .u64 0, .int .u64 0]
def row (k : IntKind) (n : Nat) (f : Nat → Int) : List Value := (List.range n).map fun j => .int k (f j)
theorem row_length (k : IntKind) (n : Nat) (f : Nat → Int) : (row k n f).length = n := by simp [row]
theorem row_get (k : IntKind) (n : Nat) (f : Nat → Int) (j : Nat) (h : j < n) : (row k n f)[j]? = some (.int k (f j)) := by simp [row, h]
theorem row_get_some {k : IntKind} {n : Nat} {f : Nat → Int} {j : Nat} {v : Value} (h : (row k n f)[j]? = some v) : j < n ∧ v = .int k (f j) := by
  have hj : j < n := by
    have := (List.getElem?_eq_some_iff.1 h).1
    rw [row_length] at this; exact this
  rw [row_get k n f j hj] at h
  exact ⟨hj, (Option.some.inj h).symm⟩
theorem row_congr (k : IntKind) (n : Nat) {f g : Nat → Int} (h : ∀ j, j < n → f j = g j) : row k n f = row k n g := by
  unfold row
  refine List.map_congr_left fun j hj => ?_
  rw [h j (List.mem_range.1 hj)]
theorem row_one (k : IntKind) (n : Nat) (f : Nat → Int) : ∀ v ∈ row k n f, v.oneCell' = true := by
  intro v hv
  obtain ⟨j, _, rfl⟩ := List.mem_map.1 hv
  rfl
structure Has (w : World) (b : Nat) (k : IntKind) (n : Nat) (f : Nat → Int) : Prop where
  cell : ∀ j, j < n → w.cell? ⟨b, j, none⟩ = some (.int k (f j))
  free : ∀ j, j < n → w.frozen? ⟨b, j, none⟩ = false
theorem below_setAll {B : Nat} {w w' : World} (h : Below B w w') (b : Nat) (hb : B ≤ b) : ∀ (o : Nat) (vs : List Value), Below B w (w'.setCells b o vs)
  | _, [] => h
  | o, v :: vs => by
    rw [World.setCells]
    exact below_setAll (h.setCell (by simpa using hb) v) b hb (o + 1) vs
theorem size_setAll (b : Nat) : ∀ (o : Nat) (vs : List Value) (w : World), (w.setCells b o vs).heap.size = w.heap.size
  | _, [], _ => rfl
  | o, v :: vs, w => by rw [World.setCells, size_setAll b (o + 1) vs]; simp
section
section
variable {P : Program} {ops : Array Oper} {Q : Exit → Act → World → Prop} {md : Region.Mode} {S : World → Prop}
theorem callH {i : Nat} {oi : Oper} (dst : Option Tmp) (hdst : oi.dst = dst) {f : FuncId} {args : Array Value} {R : Ending → World → Prop} {fuel : Nat} {listed : Array Bool} {a : Act} {w : World} (hr : Region.ready md ops listed = [i]) (hi : ops[i]? = some oi)
    (hw : Region.wanted oi (yielded ops a.tmps) = true) (he : ∀ w, (execOp a.eval oi).run P w = .ok (.enter f args) w) (hc : Calls P f args w R)
    (hK : ∀ e w', R e w' → ∃ v, e = .returned v ∧ S w' ∧ wpAnyH P md ops Q S fuel (listed.setIfInBounds i true) (a.put dst v) w') : wpAnyH P md ops Q S (fuel + 1) listed a w :=
  ⟨fun h0 => (by rw [h0] at hr; cases hr), fun j hj => by
    rw [hr] at hj
    obtain rfl := List.mem_singleton.1 hj
    unfold wpOp
    simp only [hi, hw, if_true]
    refine .inl ?_
    unfold Oper.wp
    rw [he w]
    exact hc.mono fun e w' hR => by
      obtain ⟨v, rfl, h⟩ := hK e w' hR
      subst hdst
      exact h⟩
theorem doesH {i : Nat} {oi : Oper} (dst : Option Tmp) (hdst : oi.dst = dst) {fuel : Nat} {listed : Array Bool} {a : Act} {w w' : World} (hr : Region.ready md ops listed = [i]) (hi : ops[i]? = some oi)
    (hw : Region.wanted oi (yielded ops a.tmps) = true) (he : (execOp a.eval oi).run P w = .ok .skip w') (hS : S w')
    (h : wpAnyH P md ops Q S fuel (listed.setIfInBounds i true) (a.put dst undef) w') : wpAnyH P md ops Q S (fuel + 1) listed a w :=
  ⟨fun h0 => (by rw [h0] at hr; cases hr), fun j hj => by
    rw [hr] at hj
    obtain rfl := List.mem_singleton.1 hj
    unfold wpOp
    simp only [hi, hw, if_true]
    refine .inl ?_
    unfold Oper.wp
    rw [he]
    subst hdst
    exact ⟨hS, h⟩⟩
/-! The same at a list of operations, whose order is the text's. -/
theorem callL {o : Oper} {f : FuncId} {args : Array Value} {R : Ending → World → Prop} {rest : List Oper} {a : Act} {w : World} (hw : Region.wanted o (yielded ops a.tmps) = true)
    (he : ∀ w, (execOp a.eval o).run P w = .ok (.enter f args) w) (hc : Calls P f args w R) (hK : ∀ e w', R e w' → ∃ v, e = .returned v ∧ wpList P ops Q rest (a.put o.dst v) w') : wpList P ops Q (o :: rest) a w := by
  unfold wpList
  rw [if_pos hw]
  refine .inl ?_
  unfold Oper.wp
  rw [he w]
  exact hc.mono fun e w' hR => by
    obtain ⟨v, rfl, h⟩ := hK e w' hR
    exact h
end
/-! What stands through calls: blocks with rows of 32 bytes in them. -/
/-! Two rows of bytes, held against each other. -/
open Extern.Stop (cell)
end
section
section
variable {P : Program} {ops : Array Oper} {Q : Exit → Act → World → Prop} {md : Region.Mode} {S : World → Prop} {c : Nat}
def wpAnyC (P : Program) (md : Region.Mode) (ops : Array Oper) (Q : Exit → Act → World → Prop) (S : World → Prop) (c : Nat) : Nat → Array Bool → Act → World → Prop
  | 0, l, a, w => Region.ready md ops l = [] ∧ Q .normal a w
  | n + 1, l, a, w => (Region.ready md ops l = [] → Q .normal a w) ∧
    ∀ i ∈ Region.ready md ops l, wpOp P ops Q i (fun a' w' => ((l.setIfInBounds i true).getD c true = false → S w') ∧ wpAnyC P md ops Q S c n (l.setIfInBounds i true) a' w') a w
theorem wpAny_of_C : ∀ (n : Nat) (l : Array Bool) (a : Act) (w : World), wpAnyC P md ops Q S c n l a w → wpAny P md ops Q n l a w
  | 0, _, _, _, h => h
  | n + 1, _, _, _, h => ⟨h.1, fun i hi => wpOp_mono (fun a' w' h' => wpAny_of_C n _ a' w' h'.2) (h.2 i hi)⟩
theorem listed_set {l : Array Bool} {i : Nat} (h : l.getD c true = true) : (l.setIfInBounds i true).getD c true = true := by
  by_cases e : i = c
  · subst e
    rw [Array.getD_eq_getD_getElem?]
    by_cases hb : i < l.size
    · rw [Array.getElem?_setIfInBounds_self_of_lt hb]; rfl
    · rw [Array.getElem?_eq_none (by simp; omega)]; rfl
  · rw [getD_set_ne true e]; exact h
theorem wpAnyC_rest : ∀ (n : Nat) (l : Array Bool) (a : Act) (w : World), l.getD c true = true → wpAny P md ops Q n l a w → wpAnyC P md ops Q S c n l a w
  | 0, _, _, _, _, h => h
  | n + 1, _, _, _, hc, h => ⟨h.1, fun i hi => wpOp_mono (fun a' w' h' => ⟨fun hf => (by rw [listed_set hc] at hf; cases hf), wpAnyC_rest n _ a' w' (listed_set hc) h'⟩) (h.2 i hi)⟩
theorem not_both {l : Array Bool} {i : Nat} (h0 : l.getD i true = false) (h1 : l.getD i false = true) : False := by
  rw [Array.getD_eq_getD_getElem?] at h0 h1
  cases e : l[i]? with
  | none => rw [e] at h0; cases h0
  | some b => rw [e] at h0 h1; simp only [Option.getD_some] at h0 h1; rw [h0] at h1; cases h1
theorem wpAnyC_first {i : Nat} {oi oc : Oper} {v : Value} (hi : ops[i]? = some oi) (hc : ops[c]? = some oc) (hwait : ∃ e ∈ oc.after, Region.binds md e = true ∧ e.on = i) (hsel : ∀ (j : Nat) (o : Oper) cs b, ops[j]? = some o → o.op ≠ .select cs b)
    (hQ : ∀ p a w, Q (.panic p) (a.put oi.dst v) w → Q (.panic p) a w) : ∀ (n : Nat) (l : Array Bool) (a : Act) (w : World),
      (∀ j oj, ops[j]? = some oj → j ≠ i → l.getD j true = false → (∀ e ∈ oj.after, Region.binds md e = true → e.on ≠ i) → oi.apart ops oj = true) →
      l.getD c true = false → i ∈ Region.ready md ops l → YieldsIf P ops S oi v a → S w →
      wpAnyC P md ops Q S c n (l.setIfInBounds i true) (a.put oi.dst v) w → wpAnyC P md ops Q S c (n + 1) l a w := by
  have waits : ∀ (l : Array Bool) (j : Nat), i ∈ Region.ready md ops l → j ∈ Region.ready md ops l → j ≠ c := fun l j hr hj e => by
    subst e
    obtain ⟨_, o, ho, hall⟩ := mem_ready.1 hj
    obtain rfl : o = oc := Option.some.inj (ho.symm.trans hc)
    obtain ⟨e, he, hb, rfl⟩ := hwait
    exact not_both (mem_ready.1 hr).1 (hall e he hb)
  intro n
  induction n with
  | zero =>
    intro l a w _ _ hr hy hS H
    refine ⟨fun h => (by rw [h] at hr; cases hr), fun j hj => ?_⟩
    by_cases hji : j = i
    · subst hji; exact hy.wpOp hi hS ⟨fun _ => hS, H⟩
    · have := ready_mono hj hji
      rw [H.1] at this
      cases this
  | succ n ih =>
    intro l a w hfree hlc hr hy hS H
    refine ⟨fun h => (by rw [h] at hr; cases hr), fun j hj => ?_⟩
    by_cases hji : j = i
    · subst hji; exact hy.wpOp hi hS ⟨fun _ => hS, H⟩
    · have hjc := waits l j hr hj
      have hic := waits l i hr hr
      obtain ⟨hjun, oj, hoj, hall⟩ := mem_ready.1 hj
      have hnot : ∀ e ∈ oj.after, Region.binds md e = true → e.on ≠ i := fun e he hb heq => not_both (mem_ready.1 hr).1 (by rw [← heq]; exact hall e he hb)
      have h2 := wpOp_putIf hoj (hfree j oj hoj hji hjun hnot) (fun cs b => hsel i oi cs b hi) (fun cs b => hsel j oj cs b hoj) hQ hy (H.2 j (ready_mono hj hji))
      have hfree' : ∀ k ok, ops[k]? = some ok → k ≠ i → (l.setIfInBounds j true).getD k true = false → (∀ e ∈ ok.after, Region.binds md e = true → e.on ≠ i) → oi.apart ops ok = true := fun k ok hk hki hun hno => by
        refine hfree k ok hk hki ?_ hno
        by_cases hjk : j = k
        · subst hjk; exact hjun
        · rw [getD_set_ne true hjk] at hun; exact hun
      refine wpOp_mono (fun a' w' h3 => ?_) h2
      have hS' : S w' := h3.2.1 (by rw [getD_set_ne true hjc, getD_set_ne true hic]; exact hlc)
      refine ⟨fun _ => hS', ih (l.setIfInBounds j true) a' w' hfree' (by rw [getD_set_ne true hjc]; exact hlc) (ready_mono hr (Ne.symm hji)) h3.1 hS' ?_⟩
      rw [Array.setIfInBounds_comm _ _ hji]
      exact h3.2.2
theorem wpAnyC_take {i : Nat} {oi oc : Oper} {v : Value} {n : Nat} {l : Array Bool} {a : Act} {w : World} (hi : ops[i]? = some oi) (hc : ops[c]? = some oc) (hwait : (oc.after.any fun e => Region.binds md e && e.on == i) = true)
    (hs : Region.noSelect ops = true) (hf : Region.free md ops l i = true) (hl : l.getD c true = false) (hr : (Region.ready md ops l).contains i = true)
    (hQ : ∀ p a w, Q (.panic p) (a.put oi.dst v) w → Q (.panic p) a w) (hy : YieldsIf P ops S oi v a) (hS : S w)
    (h : wpAnyC P md ops Q S c n (l.setIfInBounds i true) (a.put oi.dst v) w) : wpAnyC P md ops Q S c (n + 1) l a w := by
  refine wpAnyC_first hi hc ?_ (Region.noSelect_spec hs) hQ n l a w (Region.free_spec hi hf) hl (by simpa using hr) hy hS h
  obtain ⟨e, he, hb⟩ := Array.any_eq_true'.1 hwait
  simp only [Bool.and_eq_true, beq_iff_eq] at hb
  exact ⟨e, he, hb.1, hb.2⟩
theorem wpAnyC_pure {i : Nat} {oi : Oper} {v : Value} (hi : ops[i]? = some oi) (hic : i ≠ c) (hsel : ∀ (j : Nat) (o : Oper) cs b, ops[j]? = some o → o.op ≠ .select cs b)
    (hQ : ∀ p a w, Q (.panic p) (a.put oi.dst v) w → Q (.panic p) a w) : ∀ (n : Nat) (l : Array Bool) (a : Act) (w : World),
      (∀ j oj, ops[j]? = some oj → j ≠ i → l.getD j true = false → (∀ e ∈ oj.after, Region.binds md e = true → e.on ≠ i) → oi.apart ops oj = true) →
      i ∈ Region.ready md ops l → YieldsIf P ops (fun _ => True) oi v a → (l.getD c true = false → S w) →
      wpAnyC P md ops Q S c n (l.setIfInBounds i true) (a.put oi.dst v) w → wpAnyC P md ops Q S c (n + 1) l a w := by
  intro n
  induction n with
  | zero =>
    intro l a w _ hr hy hS H
    refine ⟨fun h => (by rw [h] at hr; cases hr), fun j hj => ?_⟩
    by_cases hji : j = i
    · subst hji; exact hy.wpOp hi trivial ⟨fun h => hS (by rw [getD_set_ne true hic] at h; exact h), H⟩
    · have := ready_mono hj hji
      rw [H.1] at this
      cases this
  | succ n ih =>
    intro l a w hfree hr hy hS H
    refine ⟨fun h => (by rw [h] at hr; cases hr), fun j hj => ?_⟩
    by_cases hji : j = i
    · subst hji; exact hy.wpOp hi trivial ⟨fun h => hS (by rw [getD_set_ne true hic] at h; exact h), H⟩
    · obtain ⟨hjun, oj, hoj, hall⟩ := mem_ready.1 hj
      have hnot : ∀ e ∈ oj.after, Region.binds md e = true → e.on ≠ i := fun e he hb heq => not_both (mem_ready.1 hr).1 (by rw [← heq]; exact hall e he hb)
      have h2 := wpOp_putIf hoj (hfree j oj hoj hji hjun hnot) (fun cs b => hsel i oi cs b hi) (fun cs b => hsel j oj cs b hoj) hQ hy (H.2 j (ready_mono hj hji))
      have hfree' : ∀ k ok, ops[k]? = some ok → k ≠ i → (l.setIfInBounds j true).getD k true = false → (∀ e ∈ ok.after, Region.binds md e = true → e.on ≠ i) → oi.apart ops ok = true := fun k ok hk hki hun hno => by
        refine hfree k ok hk hki ?_ hno
        by_cases hjk : j = k
        · subst hjk; exact hjun
        · rw [getD_set_ne true hjk] at hun; exact hun
      refine wpOp_mono (fun a' w' h3 => ?_) h2
      have hS' : (l.setIfInBounds j true).getD c true = false → S w' := fun hf => h3.2.1 (by rw [Array.setIfInBounds_comm _ _ (Ne.symm hji), getD_set_ne true hic]; exact hf)
      refine ⟨hS', ih (l.setIfInBounds j true) a' w' hfree' (ready_mono hr (Ne.symm hji)) h3.1 hS' ?_⟩
      rw [Array.setIfInBounds_comm _ _ hji]
      exact h3.2.2
theorem wp_region_C (c : Nat) {id : Nat} {a : Act} {w : World} (hm : P.follows .mixedOrders = true) (hS : S w.drew)
    (h : S w.drew → wpAnyC P .any ops Q S c ops.size (Array.replicate ops.size false) a w.drew) : (Code.region id ops true).wp P Q a w :=
  wp_region_any hm (wpAny_of_C _ _ _ _ (h hS))
end
section
variable {P : Program} {ops : Array Oper} {Q : Exit → Act → World → Prop} {md : Region.Mode} {S S2 : World → Prop} {c : Nat}
theorem pureC {i : Nat} {oi : Oper} (dst : Option Tmp) (hdst : oi.dst = dst) {n : Nat} {l : Array Bool} {a : Act} {w : World} (v : Value) (hi : ops[i]? = some oi) (hic : i ≠ c) (hw : Region.wanted oi (yielded ops a.tmps) = true)
    (hv : ∀ w, (execOp a.eval oi).run P w = .ok (.value v) w)
    (hs : Region.noSelect ops = true) (hf : Region.free md ops l i = true) (hr : (Region.ready md ops l).contains i = true)
    (hQ : ∀ p a w, Q (.panic p) (a.put dst v) w → Q (.panic p) a w) (hS : S w)
    (h : wpAnyC P md ops Q S c n (l.setIfInBounds i true) (a.put dst v) w) : wpAnyC P md ops Q S c (n + 1) l a w := by
  subst hdst
  exact wpAnyC_pure hi hic (Region.noSelect_spec hs) hQ n l a w (Region.free_spec hi hf) (by simpa using hr) (.inl ⟨hw, fun w _ => hv w⟩) (fun _ => hS) h
theorem pureCg {i : Nat} {oi : Oper} (dst : Option Tmp) (hdst : oi.dst = dst) {n : Nat} {l : Array Bool} {a : Act} {w : World} (v : Value) (hi : ops[i]? = some oi) (hic : i ≠ c) (hw : Region.wanted oi (yielded ops a.tmps) = true) (hv : ∀ w, (execOp a.eval oi).run P w = .ok (.value v) w) (hS : S w)
    (h : wpAnyC P md ops Q S c n (l.setIfInBounds i true) (a.put dst v) w) (hg : (Region.noSelect ops && (Region.free md ops l i && (Region.ready md ops l).contains i)) = true := by kernel_rfl) (hQ : ∀ c a w, Q (.panic c) (a.put dst v) w → Q (.panic c) a w := by exact fun _ _ _ h => h) : wpAnyC P md ops Q S c (n + 1) l a w := by
  rw [Bool.and_eq_true, Bool.and_eq_true] at hg
  exact pureC dst hdst v hi hic hw hv hg.1 hg.2.1 hg.2.2 hQ hS h
theorem idxArr {o : Oper} {a : Act} (t e : TypeId) (n : Nat) (k : IntKind) (b off i : Nat) (x y : Operand) (hu : P.underlying t = some (.array n e)) (hsz : ∀ w, (sizeOf e).run P w = .ok 1 w) (hi : i < n) (ho : o.op = .indexAddr t x y) (hx : a.eval x = .pointer (some ⟨b, off, none⟩)) (hy : a.eval y = .int k (i : Int)) (w : World) :
    (execOp a.eval o).run P w = .ok (.value (.pointer (some ⟨b, off + i, none⟩))) w := by
  have e1 : (Instr.indexAt t (.pointer (some ⟨b, off, none⟩)) (.int k (i : Int))).run P w = .ok (.pointer (some ⟨b, off + i, none⟩)) w := by
    simp [Instr.indexAt, run_underlying hu, Instr.sureAddr, asIntOf, hsz, Addr.add_mid]
    intro hf
    omega
  unfold execOp
  simp only [ho, hx, hy, Sem.run_bind, e1, Result.andThen_ok, Sem.run_pure]
theorem idxSl {o : Oper} {a : Act} (t e : TypeId) (len cap : Nat) (k : IntKind) (ad : Addr) (i : Nat) (x y : Operand) (hu : P.underlying t = some (.slice e)) (hsz : ∀ w, (sizeOf e).run P w = .ok 1 w) (hi : i < len) (ho : o.op = .indexAddr t x y) (hx : a.eval x = .slice (some ad) len cap) (hy : a.eval y = .int k (i : Int)) (w : World) :
    (execOp a.eval o).run P w = .ok (.value (.pointer (some (ad.add i)))) w := by
  have e1 : (Instr.indexAt t (.slice (some ad) len cap) (.int k (i : Int))).run P w = .ok (.pointer (some (ad.add i))) w := by
    simp [Instr.indexAt, run_underlying hu, asIntOf, hsz]
    intro hf
    omega
  unfold execOp
  simp only [ho, hx, hy, Sem.run_bind, e1, Result.andThen_ok, Sem.run_pure]
end
end
section
section
variable {P : Program} {ops : Array Oper} {Q : Exit → Act → World → Prop} {md : Region.Mode} {S : World → Prop}
theorem actL {o : Oper} {rest : List Oper} {a : Act} {w w' : World} (v : Value) (hw : Region.wanted o (yielded ops a.tmps) = true) (he : (execOp a.eval o).run P w = .ok (.value v) w')
    (h : wpList P ops Q rest (a.put o.dst v) w') : wpList P ops Q (o :: rest) a w := by
  unfold wpList
  rw [if_pos hw]
  refine .inl ?_
  unfold Oper.wp
  rw [he]
  exact h
end
end
def zs (s : ByteArray) : Nat → Int := fun j => ((s.data.toList.getD j 0).toNat : Int)
def bl (l : List Int) : Nat → Int := fun j => l.getD j 0
theorem eqlI {P : Program} {o : Oper} {a : Act} (k : IntKind) (n n' : Int) (t t' : TypeId) (x y : Operand) (ho : o.op = .binOp .eql t x y t') (hx : a.eval x = .int k n) (hy : a.eval y = .int k n') (r : Bool) (hr : (n == n') = r) (w : World) :
    (execOp a.eval o).run P w = .ok (.value (.bool r)) w := by
  unfold execOp
  simp only [ho, hx, hy, Sem.run_bind, eqGuard_at_int, binOp_eql, Sem.run_pure, Result.andThen_ok, hr]
theorem leqI {P : Program} {o : Oper} {a : Act} (k : IntKind) (n n' : Int) (t t' : TypeId) (x y : Operand) (ho : o.op = .binOp .leq t x y t') (hx : a.eval x = .int k n) (hy : a.eval y = .int k n') (r : Bool) (hr : decide (n ≤ n') = r) (w : World) :
    (execOp a.eval o).run P w = .ok (.value (.bool r)) w := by
  unfold execOp
  simp only [ho, hx, hy, Sem.run_bind, eqGuard_at_int, binOp_leq, Sem.run_pure, Result.andThen_ok, hr]
section
section
variable {P : Program} {o : Oper} {a : Act}
theorem addI (k : IntKind) (n n' r : Int) (t t' : TypeId) (x y : Operand) (ho : o.op = .binOp .add t x y t') (hx : a.eval x = .int k n) (hy : a.eval y = .int k n') (hr : k.wrap (n + n') = r) (w : World) : (execOp a.eval o).run P w = .ok (.value (.int k r)) w := by
  unfold execOp
  simp only [ho, hx, hy, Sem.run_bind, eqGuard_at_int, binOp_add, Op.intArith, Sem.run_pure, Result.andThen_ok, hr]
theorem subI (k : IntKind) (n n' r : Int) (t t' : TypeId) (x y : Operand) (ho : o.op = .binOp .sub t x y t') (hx : a.eval x = .int k n) (hy : a.eval y = .int k n') (hr : k.wrap (n - n') = r) (w : World) : (execOp a.eval o).run P w = .ok (.value (.int k r)) w := by
  unfold execOp
  simp only [ho, hx, hy, Sem.run_bind, eqGuard_at_int, binOp_sub, Op.intArith, Sem.run_pure, Result.andThen_ok, hr]
theorem remI (k : IntKind) (n n' r : Int) (t t' : TypeId) (x y : Operand) (ho : o.op = .binOp .rem t x y t') (hx : a.eval x = .int k n) (hy : a.eval y = .int k n') (h0 : n' ≠ 0) (hr : n.tmod n' = r) (w : World) : (execOp a.eval o).run P w = .ok (.value (.int k r)) w := by
  unfold execOp
  simp only [ho, hx, hy, Sem.run_bind, eqGuard_at_int, binOp_rem, Op.intDiv, if_neg h0, Sem.run_pure, Result.andThen_ok, hr]
theorem quoI (k : IntKind) (n n' r : Int) (t t' : TypeId) (x y : Operand) (ho : o.op = .binOp .quo t x y t') (hx : a.eval x = .int k n) (hy : a.eval y = .int k n') (h0 : n' ≠ 0) (hr : k.wrap (n.tdiv n') = r) (w : World) : (execOp a.eval o).run P w = .ok (.value (.int k r)) w := by
  unfold execOp
  simp only [ho, hx, hy, Sem.run_bind, eqGuard_at_int, binOp_quo, Op.intDiv, if_neg h0, Sem.run_pure, Result.andThen_ok, hr]
theorem shrI (k yk : IntKind) (n y r : Int) (t t' : TypeId) (x x' : Operand) (ho : o.op = .binOp .shr t x x' t') (hx : a.eval x = .int k n) (hy : a.eval x' = .int yk y) (h0 : 0 ≤ y) (hr : n / 2 ^ min y.toNat k.bits = r) (w : World) : (execOp a.eval o).run P w = .ok (.value (.int k r)) w := by
  unfold execOp
  simp only [ho, hx, hy, Sem.run_bind, eqGuard_at_int, binOp_shr, shift_shr_any k yk n y h0, Sem.run_pure, Result.andThen_ok, hr]
theorem convI (k k' : IntKind) (n r : Int) (t t' : TypeId) (x : Operand) (ho : o.op = .convert t t' x) (ht : (P.underlying t).isSome = true) (ht' : P.underlying t' = some (.int k')) (hk : P.intKind t' = k') (hx : a.eval x = .int k n) (hr : k'.wrap n = r) (w : World) : (execOp a.eval o).run P w = .ok (.value (.int k' r)) w := by
  subst hk
  unfold execOp
  simp only [ho, hx, Sem.run_bind, run_convert_int w t t' k n ht ht', Sem.run_pure, Result.andThen_ok, hr]
theorem lssI (k : IntKind) (n n' : Int) (t t' : TypeId) (x y : Operand) (ho : o.op = .binOp .lss t x y t') (hx : a.eval x = .int k n) (hy : a.eval y = .int k n') (r : Bool) (hr : decide (n < n') = r) (w : World) : (execOp a.eval o).run P w = .ok (.value (.bool r)) w := by
  unfold execOp
  simp only [ho, hx, hy, Sem.run_bind, eqGuard_at_int, binOp_lss, Sem.run_pure, Result.andThen_ok, hr]
theorem neqI (k : IntKind) (n n' : Int) (t t' : TypeId) (x y : Operand) (ho : o.op = .binOp .neq t x y t') (hx : a.eval x = .int k n) (hy : a.eval y = .int k n') (r : Bool) (hr : (n != n') = r) (w : World) : (execOp a.eval o).run P w = .ok (.value (.bool r)) w := by
  unfold execOp
  simp only [ho, hx, hy, Sem.run_bind, eqGuard_at_int, binOp_neq, Sem.run_pure, Result.andThen_ok, hr]
theorem lenS (x : Operand) (t e : TypeId) (sp : Option Addr) (n c : Nat) (ho : o.op = .call { callee := .builtin .len, args := #[x], argTypes := #[t] }) (ht : P.underlying t = some (.slice e)) (hx : a.eval x = .slice sp n c) (w : World) : (execOp a.eval o).run P w = .ok (.value (.int .i64 (n : Int))) w := by
  simp [execOp, ho, resolve, invoke, builtin, hx, Builtin.len_, run_underlying ht, goInt]
end
section
variable {P : Program} {ops : Array Oper} {Q : Exit → Act → World → Prop} {md : Region.Mode} {S : World → Prop}
theorem readH {i : Nat} {oi : Oper} (dst : Option Tmp) (hdst : oi.dst = dst) {fuel : Nat} {listed : Array Bool} {a : Act} {w : World} (v : Value) (hi : ops[i]? = some oi) (hw : Region.wanted oi (yielded ops a.tmps) = true)
    (hv : ∀ w, S w → (execOp a.eval oi).run P w = .ok (.value v) w)
    (hs : Region.noSelect ops = true) (hf : Region.free md ops listed i = true) (hr : (Region.ready md ops listed).contains i = true)
    (hQ : ∀ c a w, Q (.panic c) (a.put dst v) w → Q (.panic c) a w) (hS : S w)
    (h : wpAnyH P md ops Q S fuel (listed.setIfInBounds i true) (a.put dst v) w) : wpAnyH P md ops Q S (fuel + 1) listed a w := by
  subst hdst
  exact wpAnyH_take hi hs hf hr hQ (Or.inl ⟨hw, hv⟩) hS h
theorem readHg {i : Nat} {oi : Oper} (dst : Option Tmp) (hdst : oi.dst = dst) {n : Nat} {l : Array Bool} {a : Act} {w : World} (v : Value) (hi : ops[i]? = some oi) (hw : Region.wanted oi (yielded ops a.tmps) = true) (hv : ∀ w, S w → (execOp a.eval oi).run P w = .ok (.value v) w) (hS : S w)
    (h : wpAnyH P md ops Q S n (l.setIfInBounds i true) (a.put dst v) w) (hg : (Region.noSelect ops && (Region.free md ops l i && (Region.ready md ops l).contains i)) = true := by kernel_rfl) (hQ : ∀ c a w, Q (.panic c) (a.put dst v) w → Q (.panic c) a w := by exact fun _ _ _ h => h) : wpAnyH P md ops Q S (n + 1) l a w := by
  rw [Bool.and_eq_true, Bool.and_eq_true] at hg
  exact readH dst hdst v hi hw hv hg.1 hg.2.1 hg.2.2 hQ hS h
theorem readL {o : Oper} {rest : List Oper} {a : Act} {w : World} (v : Value) (hw : Region.wanted o (yielded ops a.tmps) = true) (hv : (execOp a.eval o).run P w = .ok (.value v) w)
    (h : wpList P ops Q rest (a.put o.dst v) w) : wpList P ops Q (o :: rest) a w := by
  unfold wpList
  rw [if_pos hw]
  refine .inl ?_
  unfold Oper.wp
  rw [hv]
  exact h
end
end
section
def Own (w : World) (base : Nat) (e : TypeId) (k : IntKind) (n : Nat) (f : Nat → Int) (v : Value) : Prop := w.ownsRow base e 1 v n (row k n f)
def app (f : Nat → Int) (n : Nat) (h : Nat → Int) : Nat → Int := fun j => if j < n then f j else h (j - n)
theorem row_app (k : IntKind) (n m : Nat) (f h : Nat → Int) : row k n f ++ row k m h = row k (n + m) (app f n h) := by
  unfold row
  rw [List.range_add, List.map_append, List.map_map]
  congr 1
  · refine List.map_congr_left fun j hj => ?_
    unfold app; rw [if_pos (List.mem_range.1 hj)]
  · refine List.map_congr_left fun j hj => ?_
    simp [app]
    omega
theorem Own.congr {w : World} {base : Nat} {e : TypeId} {k : IntKind} {n : Nat} {f g : Nat → Int} {v : Value} (h : Own w base e k n f v) (he : ∀ j, j < n → f j = g j) : Own w base e k n g v := by
  unfold Own at *
  rw [← row_congr k n he]; exact h
theorem grown_of_below {w w' : World} (l : Below w.heap.size w w') : w.grownBy w' none := ⟨l.os, l.tape, l.output, l.size, fun j hj _ => l.block j hj⟩
theorem Own.below {w w' : World} {base : Nat} {e : TypeId} {k : IntKind} {n : Nat} {f : Nat → Int} {v : Value} (h : Own w base e k n f v) (l : Below w.heap.size w w') : Own w' base e k n f v :=
  World.ownsRow.kept h (grown_of_below l) (by cases hv : v.ownBlock <;> simp)
theorem Own.lit (w : World) (base : Nat) (e : TypeId) (k : IntKind) (n : Nat) (f : Nat → Int) (hb : base ≤ w.heap.size) (hn : n ≤ maxLen) : Own (w.alloc (.cells (row k n f).toArray e)) base e k n f (.slice (some ⟨w.heap.size, 0, none⟩) n n) :=
  ⟨by rw [row_length, Nat.mul_one], .inr ⟨w.heap.size, n, _, rfl, hb, heap_alloc_new w _, Nat.le_refl _, hn, by rw [List.size_toArray, row_length, Nat.mul_one], by rw [Nat.mul_one]; exact List.take_of_length_le (by rw [row_length]; exact Nat.le_refl _)⟩⟩
theorem Own.has {w : World} {base : Nat} {e : TypeId} {k : IntKind} {n : Nat} {f : Nat → Int} {v : Value} (h : Own w base e k n f v) (hn : 0 < n) : ∃ g cap, v = .slice (some ⟨g, 0, none⟩) n cap ∧ base ≤ g ∧ g < w.heap.size ∧ Has w g k n f := by
  have hc := h
  rcases h.2 with ⟨rfl, h0⟩ | ⟨g, cap, cur, rfl, hb, hg, _⟩
  · omega
  · refine ⟨g, cap, rfl, hb, (Array.getElem?_eq_some_iff.1 hg).1, fun j hj => ?_, fun j _ => ?_⟩
    · have := World.ownsRow.cells hc (g := g) rfl j _ (row_get k n f j hj)
      rw [Addr.add_mid, Nat.zero_add] at this
      exact this
    · unfold World.frozen?
      rw [hg]
      simp
theorem Own.isSlice {w : World} {base : Nat} {e : TypeId} {k : IntKind} {n : Nat} {f : Nat → Int} {v : Value} (h : Own w base e k n f v) : ∃ sp cap, v = .slice sp n cap ∧ (sp = none → n = 0) ∧ ∀ j, j < n → ∃ ad, sp = some ad ∧ w.cell? (ad.add j) = some (.int k (f j)) := by
  rcases Nat.eq_zero_or_pos n with h0 | h0
  · subst h0
    rcases h.2 with ⟨rfl, _⟩ | ⟨g, cap, cur, rfl, _⟩
    · exact ⟨_, _, rfl, fun _ => rfl, fun j hj => by omega⟩
    · exact ⟨_, _, rfl, fun _ => rfl, fun j hj => by omega⟩
  · obtain ⟨g, cap, rfl, _, _, hh⟩ := h.has h0
    exact ⟨_, _, rfl, fun e => (by cases e), fun j hj => ⟨_, rfl, by rw [Addr.add_mid, Nat.zero_add]; exact hh.cell j hj⟩⟩
section
variable {P : Program}
structure One (P : Program) (e : TypeId) (k : IntKind) (bytes : Nat) : Prop where
  info : (P.info? e).map (fun i => (i.zero, i.bytes, i.size)) = some (some (.int k 0), bytes, 1)
theorem run_append_Own {w : World} {base : Nat} {t ty e : TypeId} {k : IntKind} {bytes n : Nat} {f : Nat → Int} {v : Value} (ht : P.underlying t = some (.slice e)) (he : One P e k bytes) (h : Own w base e k n f v)
    (sp : Option Addr) (m c : Nat) (hv : Nat → Int) (hs : ∀ j, j < m → ∃ ad, sp = some ad ∧ w.cell? (ad.add j) = some (.int k (hv j))) (hz : sp = none → c = 0) (h63 : n + m ≤ maxLen) (hb : (n + m) * bytes ≤ 140737488355328) (hbase : base ≤ w.heap.size) :
    ∃ v' w', (Builtin.append_ #[t, t] ty #[v, .slice sp m c]).run P w = .ok v' w' ∧ Own w' base e k (n + m) (app f n hv) v' ∧ w.grownBy w' v.ownBlock ∧ (∀ g, v'.ownBlock = some g → v.ownBlock = some g ∨ g = w.heap.size) := by
  obtain ⟨i, hi, hq⟩ := Option.map_eq_some_iff.1 he.info
  simp only [Prod.mk.injEq] at hq
  obtain ⟨h1, h2, h3⟩ := hq
  cases sp with
  | none =>
    have hm : m = 0 := by
      rcases Nat.eq_zero_or_pos m with h0 | h0
      · exact h0
      · obtain ⟨ad, e, _⟩ := hs 0 h0; cases e
    subst hm
    obtain rfl := hz rfl
    refine ⟨v, w, run_append_owned_none (P := P) (w := w) base t ty e i 1 ht hi v n _ h, h.congr fun j hj => by unfold app; rw [if_pos hj], ⟨rfl, rfl, rfl, Nat.le_refl _, fun _ _ _ => rfl⟩, fun g hg => .inl hg⟩
  | some ad =>
    obtain ⟨v', w', hr, ho, hg, _⟩ := run_append_own (P := P) w base t ty e i (.int k 0) 1 bytes ht hi h1 h3 h2 rfl (by decide) v n _ h ad m c (row k m hv) (by rw [row_length, Nat.mul_one]) (fun j u hu => by
      obtain ⟨hj, rfl⟩ := row_get_some hu
      obtain ⟨ad', e', hc⟩ := hs j hj
      injection e' with e'
      subst e'
      exact hc) (row_one k m hv) h63 hb hbase
    rw [row_app] at ho
    refine ⟨v', w', hr, ho, hg, ?_⟩
    have hnews : ∀ j u, (row k m hv)[j]? = some u → w.cell? (ad.add j) = some u := fun j u hu => by
      obtain ⟨hj, rfl⟩ := row_get_some hu
      obtain ⟨ad', e', hc⟩ := hs j hj
      injection e' with e'
      subst e'
      exact hc
    have hml : (row k m hv).length = m * i.size := by rw [row_length, h3, Nat.mul_one]
    rcases h.2 with ⟨rfl, rfl⟩ | ⟨g, cap, cur, rfl, hbg, hgg, hnc, hcm, hcs, htake⟩
    · by_cases hm : m = 0
      · subst hm
        have hr2 : (Builtin.append_ #[t, t] ty #[.slice none 0 0, .slice (some ad) 0 c]).run P w = .ok (.slice none 0 0) w := by
          simp [Builtin.append_, run_underlying ht, sizeOf, typeInfo, hi, Builtin.lenOf, Builtin.firstCells, loadCells, loadCellsFrom]
        rw [hr] at hr2
        injection hr2 with hv' _
        rw [hv']
        intro g hg'
        cases hg'
      · have hr2 := run_append_nil (P := P) w t ty e i (.int k 0) ht hi h1 ad m c (row k m hv) hml hnews (by omega) (by unfold maxLen at h63; omega) (by rw [h2]; have := hb; simp only [Nat.zero_add] at this; omega)
        rw [hr] at hr2
        injection hr2 with hv' _
        rw [hv']
        intro g hg'
        injection hg' with hg'
        exact .inr hg'.symm
    · by_cases hroom : n + m ≤ cap
      · have hr2 := run_append_room (P := P) w t ty e i ht hi g n cap cur hgg ad m c (row k m hv) hml hnews (row_one k m hv) hroom (by rw [hml, hcs, h3]; omega)
        rw [hr] at hr2
        injection hr2 with hv' _
        rw [hv']
        intro g' hg'
        exact .inl hg'
      · have hr2 := run_append_grow (P := P) w t ty e i (.int k 0) ht hi h1 ⟨g, 0, none⟩ n cap (row k n f) (by rw [row_length, h3, Nat.mul_one]) (World.ownsRow.cells h (g := g) rfl) ad m c (row k m hv) hml hnews (by omega) (by unfold maxLen at h63; omega) (by rw [h2]; exact growslice_fits (by omega) hb)
        rw [hr] at hr2
        injection hr2 with hv' _
        rw [hv']
        intro g' hg'
        injection hg' with hg'
        exact .inr hg'.symm
theorem appendOp {o : Oper} {a : Act} {w w' : World} (s x : Operand) (t : TypeId) (v u r : Value) (ho : o.op = .call { callee := .builtin .append, args := #[s, x], argTypes := #[t, t] }) (hs : a.eval s = v) (hx : a.eval x = u) (hr : (Builtin.append_ #[t, t] o.type #[v, u]).run P w = .ok r w') :
    (execOp a.eval o).run P w = .ok (.value r) w' := by
  unfold execOp
  simp only [ho, resolve, invoke, builtin, Sem.run_bind, Sem.run_pure, Result.andThen_ok, List.map_toArray, List.map_cons, List.map_nil, hs, hx, hr]
end
end
theorem Below.grown {B : Nat} {w w1 w2 : World} (l : Below B w w1) {r : Option Nat} (g : w1.grownBy w2 r) (hB : B ≤ w1.heap.size) (hr : ∀ b, r = some b → B ≤ b) : Below B w w2 :=
  ⟨g.os.trans l.os, g.tape.trans l.tape, g.output.trans l.output, Nat.le_trans l.size g.size, fun j hj => (g.block j (Nat.lt_of_lt_of_le hj hB) (fun e => by have := hr j e.symm; omega)).trans (l.block j hj)⟩
theorem Own.nilCap {w : World} {base : Nat} {e : TypeId} {k : IntKind} {n : Nat} {f : Nat → Int} {sp : Option Addr} {c : Nat} (h : Own w base e k n f (.slice sp n c)) : sp = none → c = 0 := fun e => by
  rcases h.2 with ⟨hv, _⟩ | ⟨g, cap, cur, hv, _⟩
  · injection hv
  · injection hv with hv _ _
    rw [e] at hv
    cases hv
section
section
variable {P : Program} {ops : Array Oper} {Q : Exit → Act → World → Prop} {md : Region.Mode} {S : World → Prop}
theorem skipL {o : Oper} {rest : List Oper} {a : Act} {w : World} (hw : Region.wanted o (yielded ops a.tmps) = false) (h : wpList P ops Q rest (a.put o.dst undef) w) : wpList P ops Q (o :: rest) a w := by
  unfold wpList
  rw [if_neg (by rw [hw]; decide)]
  exact h
end
end
section
section
variable {P : Program} {o : Oper} {a : Act}
theorem shlI (k yk : IntKind) (n y r : Int) (t t' : TypeId) (x x' : Operand) (ho : o.op = .binOp .shl t x x' t') (hx : a.eval x = .int k n) (hy : a.eval x' = .int yk y) (h0 : 0 ≤ y) (hr : k.wrap (n * 2 ^ min y.toNat k.bits) = r) (w : World) : (execOp a.eval o).run P w = .ok (.value (.int k r)) w := by
  unfold execOp
  simp only [ho, hx, hy, Sem.run_bind, eqGuard_at_int, binOp_shl, shift_shl_any k yk n y h0, Sem.run_pure, Result.andThen_ok, hr]
theorem vandI (k : IntKind) (n n' r : Int) (t t' : TypeId) (x y : Operand) (ho : o.op = .binOp .and t x y t') (hx : a.eval x = .int k n) (hy : a.eval y = .int k n') (hr : bits .and k n n' = r) (w : World) : (execOp a.eval o).run P w = .ok (.value (.int k r)) w := by
  unfold execOp
  simp only [ho, hx, hy, Sem.run_bind, eqGuard_at_int, binOp_and, intBits_and, Sem.run_pure, Result.andThen_ok, hr]
theorem vorI (k : IntKind) (n n' r : Int) (t t' : TypeId) (x y : Operand) (ho : o.op = .binOp .or t x y t') (hx : a.eval x = .int k n) (hy : a.eval y = .int k n') (hr : bits .or k n n' = r) (w : World) : (execOp a.eval o).run P w = .ok (.value (.int k r)) w := by
  unfold execOp
  simp only [ho, hx, hy, Sem.run_bind, eqGuard_at_int, binOp_or, intBits_or, Sem.run_pure, Result.andThen_ok, hr]
theorem gtrI (k : IntKind) (n n' : Int) (t t' : TypeId) (x y : Operand) (ho : o.op = .binOp .gtr t x y t') (hx : a.eval x = .int k n) (hy : a.eval y = .int k n') (r : Bool) (hr : decide (n > n') = r) (w : World) : (execOp a.eval o).run P w = .ok (.value (.bool r)) w := by
  unfold execOp
  simp only [ho, hx, hy, Sem.run_bind, eqGuard_at_int, binOp_gtr, Sem.run_pure, Result.andThen_ok, hr]
theorem geqI (k : IntKind) (n n' : Int) (t t' : TypeId) (x y : Operand) (ho : o.op = .binOp .geq t x y t') (hx : a.eval x = .int k n) (hy : a.eval y = .int k n') (r : Bool) (hr : decide (n ≥ n') = r) (w : World) : (execOp a.eval o).run P w = .ok (.value (.bool r)) w := by
  unfold execOp
  simp only [ho, hx, hy, Sem.run_bind, eqGuard_at_int, binOp_geq, Sem.run_pure, Result.andThen_ok, hr]
end
end
section
section
variable {P : Program} {ops : Array Oper} {Q : Exit → Act → World → Prop} {md : Region.Mode} {S : World → Prop}
theorem mayL {o : Oper} {rest : List Oper} {a : Act} {w : World} (c : Bool) (v x : Value) (hc : Region.wanted o (yielded ops a.tmps) = c) (hx : x = (bif c then v else undef)) (hv : c = true → (execOp a.eval o).run P w = .ok (.value v) w)
    (h : wpList P ops Q rest (a.put o.dst x) w) : wpList P ops Q (o :: rest) a w := by
  subst hx
  unfold wpList
  rw [hc]
  cases c with
  | true =>
    rw [if_pos rfl]
    refine .inl ?_
    unfold Oper.wp
    rw [hv rfl]
    exact h
  | false =>
    rw [if_neg (by decide)]
    exact h
theorem mayH {i : Nat} {oi : Oper} (dst : Option Tmp) (hdst : oi.dst = dst) {fuel : Nat} {listed : Array Bool} {a : Act} {w : World} (c : Bool) (v x : Value) (hi : ops[i]? = some oi) (hc : Region.wanted oi (yielded ops a.tmps) = c) (hx : x = (bif c then v else undef))
    (hv : c = true → ∀ w, S w → (execOp a.eval oi).run P w = .ok (.value v) w)
    (hs : Region.noSelect ops = true) (hf : Region.free md ops listed i = true) (hr : (Region.ready md ops listed).contains i = true)
    (hQ : ∀ c a w, Q (.panic c) (a.put dst x) w → Q (.panic c) a w) (hS : S w)
    (h : wpAnyH P md ops Q S fuel (listed.setIfInBounds i true) (a.put dst x) w) : wpAnyH P md ops Q S (fuel + 1) listed a w := by
  subst hdst
  refine wpAnyH_take hi hs hf hr hQ ?_ hS h
  subst hx
  cases c with
  | true => exact .inl ⟨hc, hv rfl⟩
  | false => exact .inr ⟨hc, rfl⟩
theorem storeAny {o : Oper} {a : Act} {w : World} (v : Value) (b j : Nat) (ty : TypeId) (x y : Operand) (ho : o.op = .store ty x y) (hx : a.eval x = .pointer (some ⟨b, j, none⟩)) (hy : a.eval y = v) (hv : v.cells = #[v]) (h1 : v.oneCell' = true)
    (hc : (w.cell? ⟨b, j, none⟩).isSome = true) (hf : w.frozen? ⟨b, j, none⟩ = false) (hz : (P.info? ty).map (·.size) = some 1) : (execOp a.eval o).run P w = .ok .skip (w.setCell ⟨b, j, none⟩ v) := by
  have h0 : ∀ k : Nat, k < [v].length → k = 0 := fun k hk => by simpa using hk
  have hst := run_storeCells_cells (P := P) b j [v] 0 w (fun k hk => by rw [h0 k hk]; simpa using hc) (fun k hk => by rw [h0 k hk]; simpa using hf) (fun u hu => by simp at hu; subst hu; exact h1)
  cases hq : P.info? ty with
  | none => simp [hq] at hz
  | some i =>
    have hs : i.size = 1 := by simp [hq] at hz; omega
    simp only [Nat.add_zero] at hst
    have e : (storeVar ty ⟨b, j, none⟩ v).run P w = .ok () (w.setCell ⟨b, j, none⟩ v) := by
      simp [storeVar, sizeOf, typeInfo, hq, hv, hs, hst, World.setCells]
    unfold execOp
    simp only [ho, hx, hy, Instr.storeAt, Instr.sureAddr, Sem.run_bind, Sem.run_pure, Result.andThen_ok, e]
theorem skipOpL {o : Oper} {rest : List Oper} {a : Act} {w w' : World} (hw : Region.wanted o (yielded ops a.tmps) = true) (he : (execOp a.eval o).run P w = .ok .skip w') (h : wpList P ops Q rest (a.put o.dst undef) w') : wpList P ops Q (o :: rest) a w := by
  unfold wpList
  rw [if_pos hw]
  refine .inl ?_
  unfold Oper.wp
  rw [he]
  exact h
theorem load1 {o : Oper} {a : Act} {w : World} (ty : TypeId) (x : Operand) (p : Addr) (v : Value) (ho : o.op = .load ty x) (hx : a.eval x = .pointer (some p)) (hagg : ∀ w, (isAgg ty).run P w = .ok false w) (hc : w.cell? p = some v) : (execOp a.eval o).run P w = .ok (.value v) w := by
  have e : (loadVar ty p).run P w = .ok v w := by simp [loadVar, Sem.run_bind, hagg, hc]
  unfold execOp
  simp only [ho, hx, Instr.loadAt, Instr.sureAddr, Sem.run_bind, Sem.run_pure, Result.andThen_ok, e]
theorem loadN {o : Oper} {a : Act} {w : World} (ty : TypeId) (x : Operand) (p : Addr) (cs : List Value) (ho : o.op = .load ty x) (hx : a.eval x = .pointer (some p)) (hagg : ∀ w, (isAgg ty).run P w = .ok true w) (hz : ∀ w, (sizeOf ty).run P w = .ok cs.length w)
    (hc : ∀ j v, cs[j]? = some v → w.cell? (p.add j) = some v) : (execOp a.eval o).run P w = .ok (.value (.agg cs.toArray)) w := by
  have e : (loadVar ty p).run P w = .ok (.agg cs.toArray) w := by simp [loadVar, Sem.run_bind, hagg, hz, run_loadCells_list w p cs hc]
  unfold execOp
  simp only [ho, hx, Instr.loadAt, Instr.sureAddr, Sem.run_bind, Sem.run_pure, Result.andThen_ok, e]
end
structure Mm (w0 : World) (l : List (Nat × List Value)) (w : World) : Prop where
  rows : ∀ p ∈ l, (∀ j, j < p.2.length → w.cell? ⟨p.1, j, none⟩ = p.2[j]? ∧ w.frozen? ⟨p.1, j, none⟩ = false) ∧ w0.heap.size ≤ p.1 ∧ p.1 < w.heap.size
  apart : l.Pairwise fun p q => p.1 ≠ q.1
  below : Below w0.heap.size w0 w
section
variable {w0 w w' : World} {l : List (Nat × List Value)}
theorem Mm.init (w : World) : Mm w [] w := ⟨fun _ h => (by cases h), List.Pairwise.nil, Below.refl _ _⟩
theorem Mm.of (b : Below w0.heap.size w0 w) : Mm w0 [] w := ⟨fun _ h => (by cases h), List.Pairwise.nil, b⟩
theorem Mm.call (h : Mm w0 l w) (b : Below w.heap.size w w') : Mm w0 l w' :=
  ⟨fun p hp => ⟨fun j hj => by
    have hlt := (h.rows p hp).2.2
    rw [b.cell (p := ⟨p.1, j, none⟩) hlt, b.frozen (p := ⟨p.1, j, none⟩) hlt]
    exact (h.rows p hp).1 j hj, (h.rows p hp).2.1, Nat.lt_of_lt_of_le (h.rows p hp).2.2 b.size⟩, h.apart, h.below.trans (b.mono h.below.size)⟩
theorem Mm.drew (h : Mm w0 l w) : Mm w0 l w.drew := h.call (Below.refl _ _).drew
theorem Mm.sub (h : Mm w0 l w) (l' : List (Nat × List Value)) (hl : l'.Sublist l) : Mm w0 l' w := ⟨fun p hp => h.rows p (hl.subset hp), h.apart.sublist hl, h.below⟩
theorem Mm.box (h : Mm w0 l w) (c : Array Value) (t : TypeId) (b : Nat) (hb : b = w.heap.size) : Mm w0 ((b, c.toList) :: l) (w.alloc (.cells c t)) := by
  subst hb
  have hc := h.call ((Below.refl w.heap.size w).alloc (Nat.le_refl _) (.cells c t))
  refine ⟨fun p hp => ?_, List.pairwise_cons.2 ⟨fun q hq e => ?_, h.apart⟩, hc.below⟩
  · rcases List.mem_cons.1 hp with rfl | hp
    · refine ⟨fun j hj => ⟨?_, World.frozen?_alloc_at _ _ _ _ rfl⟩, h.below.size, by simp⟩
      rw [World.cell?_alloc_at _ _ _ _ rfl]
      simp
    · exact hc.rows p hp
  · have := (h.rows q hq).2.2
    simp only at e
    omega
theorem Mm.get (h : Mm w0 l w) {b : Nat} {cs : List Value} (hp : (b, cs) ∈ l) (j : Nat) (v : Value) (hv : cs[j]? = some v) : w.cell? ⟨b, j, none⟩ = some v := by
  have hj : j < cs.length := by
    rcases Nat.lt_or_ge j cs.length with h' | h'
    · exact h'
    · rw [List.getElem?_eq_none h'] at hv; cases hv
  rw [((h.rows _ hp).1 j hj).1, hv]
theorem Mm.isSome (h : Mm w0 l w) {b : Nat} {cs : List Value} (hp : (b, cs) ∈ l) (j : Nat) (hj : j < cs.length) : (w.cell? ⟨b, j, none⟩).isSome = true := by
  rw [((h.rows _ hp).1 j hj).1, List.getElem?_eq_getElem hj]
  rfl
theorem Mm.free (h : Mm w0 l w) {b : Nat} {cs : List Value} (hp : (b, cs) ∈ l) (j : Nat) (hj : j < cs.length) : w.frozen? ⟨b, j, none⟩ = false := ((h.rows _ hp).1 j hj).2
theorem Mm.rangeAt (h : Mm w0 l w) {b : Nat} {cs : List Value} (hp : (b, cs) ∈ l) : ∀ j v, cs[j]? = some v → w.cell? ((⟨b, 0, none⟩ : Addr).add j) = some v := fun j v hv => by
  rw [Addr.add_mid, Nat.zero_add]
  exact h.get hp j v hv
theorem Mm.part (h : Mm w0 l w) {b : Nat} {cs : List Value} (hp : (b, cs) ∈ l) (o : Nat) (ds : List Value) (hd : (cs.drop o).take ds.length = ds) : ∀ j v, ds[j]? = some v → w.cell? ((⟨b, o, none⟩ : Addr).add j) = some v := fun j v hv => by
  rw [Addr.add_mid]
  refine h.get hp (o + j) v ?_
  have hj : j < ds.length := by
    rcases Nat.lt_or_ge j ds.length with h' | h'
    · exact h'
    · rw [List.getElem?_eq_none h'] at hv; cases hv
  rw [← hd, List.getElem?_take, if_pos hj, List.getElem?_drop] at hv
  exact hv
theorem size_setCell (w : World) (p : Addr) (v : Value) : (w.setCell p v).heap.size = w.heap.size := by simp
theorem Mm.set {b : Nat} {cs : List Value} (h : Mm w0 ((b, cs) :: l) w) (j : Nat) (hj : j < cs.length) (v : Value) : Mm w0 ((b, cs.set j v) :: l) (w.setCell ⟨b, j, none⟩ v) := by
  have hb := h.rows _ mS
  have hne := (List.pairwise_cons.1 h.apart).1
  refine ⟨fun p hp => ?_, List.pairwise_cons.2 ⟨hne, (List.pairwise_cons.1 h.apart).2⟩, below_setAll h.below b hb.2.1 j [v]⟩
  rcases List.mem_cons.1 hp with rfl | hp
  · refine ⟨fun i hi => ⟨?_, by rw [World.frozen?_setCell]; exact (hb.1 i (by simpa using hi)).2⟩, hb.2.1, by rw [size_setCell]; exact hb.2.2⟩
    simp only [List.length_set] at hi
    by_cases e : i = j
    · subst e
      rw [World.cell?_setCell_same' _ _ _ (h.isSome mS i hj), List.getElem?_set_self hj]
    · have e2 := World.cell?_setCell_other (w := w) (v := v) (a := ⟨b, j, none⟩) (b := ⟨b, i, none⟩) (by intro e'; injection e' with _ e'; exact e e'.symm)
      simp only
      rw [e2, List.getElem?_set_ne (Ne.symm e)]
      exact (hb.1 i hi).1
  · have h2 := h.rows p (mT _ hp)
    refine ⟨fun i hi => ⟨?_, by rw [World.frozen?_setCell]; exact (h2.1 i hi).2⟩, h2.2.1, by rw [size_setCell]; exact h2.2.2⟩
    rw [World.cell?_setCell_far _ _ _ _ (hne p hp)]
    exact (h2.1 i hi).1
theorem Mm.swap {p q : Nat × List Value} (h : Mm w0 (p :: q :: l) w) : Mm w0 (q :: p :: l) w := by
  obtain ⟨h1, h2⟩ := List.pairwise_cons.1 h.apart
  obtain ⟨h3, h4⟩ := List.pairwise_cons.1 h2
  refine ⟨fun x hx => h.rows x ?_, List.pairwise_cons.2 ⟨fun x hx => ?_, List.pairwise_cons.2 ⟨fun x hx => h1 x (mT _ hx), h4⟩⟩, h.below⟩
  · rcases List.mem_cons.1 hx with rfl | hx
    · exact mT _ mS
    · rcases List.mem_cons.1 hx with rfl | hx
      · exact mS
      · exact mT _ (mT _ hx)
  · rcases List.mem_cons.1 hx with rfl | hx
    · exact (h1 q mS).symm
    · exact h3 x hx
theorem Mm.grown (h : Mm w0 l w) {r : Option Nat} (g : w.grownBy w' r) (m : Nat) (hm : ∀ p ∈ l, p.1 < m) (h0 : w0.heap.size ≤ m) (hz : m ≤ w.heap.size) (hr : ∀ b, r = some b → m ≤ b) : Mm w0 l w' := by
  have hb : Below m w w' := ⟨g.os, g.tape, g.output, g.size, fun j hj => g.block j (Nat.lt_of_lt_of_le hj hz) (fun e => by have := hr j e.symm; omega)⟩
  exact ⟨fun p hp => ⟨fun j hj => by
    rw [hb.cell (p := ⟨p.1, j, none⟩) (hm p hp), hb.frozen (p := ⟨p.1, j, none⟩) (hm p hp)]
    exact (h.rows p hp).1 j hj, (h.rows p hp).2.1, Nat.lt_of_lt_of_le (h.rows p hp).2.2 g.size⟩, h.apart, h.below.trans (hb.mono h0)⟩
theorem Mm.lt (h : Mm w0 l w) {b : Nat} {cs : List Value} (hp : (b, cs) ∈ l) : b < w.heap.size := (h.rows _ hp).2.2
theorem Mm.lo (h : Mm w0 l w) {b : Nat} {cs : List Value} (hp : (b, cs) ∈ l) : w0.heap.size ≤ b := (h.rows _ hp).2.1
end
end
section
def i64 (n : Int) : Prop := -9223372036854775808 ≤ n ∧ n < 9223372036854775808
structure Off (X : List Nat) (w w' : World) : Prop where
  size : w.heap.size ≤ w'.heap.size
  blk : ∀ b, b < w.heap.size → b ∉ X → w'.heap[b]? = w.heap[b]?
section
variable {X Y : List Nat} {w w1 w2 : World}
theorem Off.refl (X : List Nat) (w : World) : Off X w w := ⟨Nat.le_refl _, fun _ _ _ => rfl⟩
theorem Off.trans (h : Off X w w1) (g : Off X w1 w2) : Off X w w2 := ⟨Nat.le_trans h.size g.size, fun b hb hX => (g.blk b (Nat.lt_of_lt_of_le hb h.size) hX).trans (h.blk b hb hX)⟩
theorem Off.of_below (l : Below w.heap.size w w1) : Off X w w1 := ⟨l.size, fun b hb _ => l.block b hb⟩
theorem Off.below (h : Off X w w1) (l : Below w1.heap.size w1 w2) : Off X w w2 := h.trans (.of_below l)
theorem Off.set (h : Off X w w1) {b : Nat} (hb : b ∈ X) (j : Nat) (v : Value) : Off X w (w1.setCell ⟨b, j, none⟩ v) :=
  h.trans ⟨by simp, fun c _ hX => by
    have : c ≠ b := fun e => hX (e ▸ hb)
    simp [World.setCell, Array.getElem?_modify, Ne.symm this]⟩
theorem Off.grown (h : Off X w w1) {r : Option Nat} (g : w1.grownBy w2 r) (hr : ∀ b, r = some b → b ∈ X ∨ w.heap.size ≤ b) : Off X w w2 :=
  ⟨Nat.le_trans h.size g.size, fun b hb hX => by
    rw [g.block b (Nat.lt_of_lt_of_le hb h.size) (fun e => by
      rcases hr b e.symm with h' | h'
      · exact hX h'
      · omega)]
    exact h.blk b hb hX⟩
theorem Off.cell (h : Off X w w1) {p : Addr} {v : Value} (hc : w.cell? p = some v) (hX : p.block ∉ X) : w1.cell? p = some v := by
  rw [World.cell?_of_block (h.blk p.block (World.block_lt_of_cell? w p hc) hX)]
  exact hc
end
theorem add_block (p : Addr) (j : Nat) : (p.add j).block = p.block := by unfold Addr.add; split <;> rfl
theorem ownsRow_off {X : List Nat} {w w' : World} {base size n : Nat} {e : TypeId} {v : Value} {xs : List Value} (h : w.ownsRow base e size v n xs) (o : Off X w w') (hX : ∀ b ∈ X, v.ownBlock ≠ some b) : w'.ownsRow base e size v n xs := by
  refine ⟨h.1, ?_⟩
  rcases h.2 with h0 | ⟨g, cap, cur, hv, hb, hg, h5, h6, h7, h8⟩
  · exact .inl h0
  · refine .inr ⟨g, cap, cur, hv, hb, ?_, h5, h6, h7, h8⟩
    have hlt : g < w.heap.size := by
      rcases Nat.lt_or_ge g w.heap.size with h' | h'
      · exact h'
      · rw [Array.getElem?_eq_none h'] at hg; cases hg
    rw [o.blk g hlt (fun hm => hX g hm (by rw [hv]; rfl))]
    exact hg
theorem ownsRow_low {X : List Nat} {w w' : World} {base size n : Nat} {e : TypeId} {v : Value} {xs : List Value} (h : w.ownsRow base e size v n xs) (o : Off X w w') (hX : ∀ b ∈ X, b < base) : w'.ownsRow base e size v n xs :=
  ownsRow_off h o fun b hb e => by
    have h1 := (World.ownsRow.lt h b e).1
    have h2 := hX b hb
    omega
section
variable {P : Program}
structure Many (P : Program) (e : TypeId) (z : Value) (bytes size : Nat) : Prop where
  info : (P.info? e).map (fun i => (i.zero, i.bytes, i.size)) = some (some z, bytes, size)
theorem run_append_OwnV {w : World} {base : Nat} {t ty e : TypeId} {z : Value} {bytes size n : Nat} {xs : List Value} {v : Value} (ht : P.underlying t = some (.slice e)) (he : Many P e z bytes size) (hzs : z.cells.size = size) (hs0 : 0 < size) (h : w.ownsRow base e size v n xs)
    (ad : Addr) (m c : Nat) (news : List Value) (hl : news.length = m * size) (hnews : ∀ j u, news[j]? = some u → w.cell? (ad.add j) = some u) (h1c : ∀ u ∈ news, u.oneCell' = true) (h63 : n + m ≤ maxLen) (hb : (n + m) * bytes ≤ 140737488355328) (hbase : base ≤ w.heap.size) :
    ∃ v' w', (Builtin.append_ #[t, t] ty #[v, .slice (some ad) m c]).run P w = .ok v' w' ∧ w'.ownsRow base e size v' (n + m) (xs ++ news) ∧ w.grownBy w' v.ownBlock ∧ (∀ g, v'.ownBlock = some g → v.ownBlock = some g ∨ g = w.heap.size) := by
  obtain ⟨i, hi, hq⟩ := Option.map_eq_some_iff.1 he.info
  simp only [Prod.mk.injEq] at hq
  obtain ⟨h1, h2, h3⟩ := hq
  obtain ⟨v', w', hr, ho, hg, _⟩ := run_append_own (P := P) w base t ty e i z size bytes ht hi h1 h3 h2 hzs hs0 v n _ h ad m c news hl hnews h1c h63 hb hbase
  refine ⟨v', w', hr, ho, hg, ?_⟩
  have hml : news.length = m * i.size := by rw [h3]; exact hl
  rcases h.2 with ⟨rfl, rfl⟩ | ⟨g, cap, cur, rfl, hbg, hgg, hnc, hcm, hcs, htake⟩
  · by_cases hm : m = 0
    · subst hm
      have hr2 : (Builtin.append_ #[t, t] ty #[.slice none 0 0, .slice (some ad) 0 c]).run P w = .ok (.slice none 0 0) w := by
        simp [Builtin.append_, run_underlying ht, sizeOf, typeInfo, hi, Builtin.lenOf, Builtin.firstCells, loadCells, loadCellsFrom]
      rw [hr] at hr2
      injection hr2 with hv' _
      rw [hv']
      intro g hg'
      cases hg'
    · have hr2 := run_append_nil (P := P) w t ty e i z ht hi h1 ad m c news hml hnews (by omega) (by unfold maxLen at h63; omega) (by rw [h2]; have := hb; simp only [Nat.zero_add] at this; omega)
      rw [hr] at hr2
      injection hr2 with hv' _
      rw [hv']
      intro g hg'
      injection hg' with hg'
      exact .inr hg'.symm
  · by_cases hroom : n + m ≤ cap
    · have hr2 := run_append_room (P := P) w t ty e i ht hi g n cap cur hgg ad m c news hml hnews h1c hroom (by rw [hml, hcs, h3]; exact (by rw [← Nat.add_mul]; exact Nat.mul_le_mul_right size hroom))
      rw [hr] at hr2
      injection hr2 with hv' _
      rw [hv']
      intro g' hg'
      exact .inl hg'
    · have hr2 := run_append_grow (P := P) w t ty e i z ht hi h1 ⟨g, 0, none⟩ n cap xs (by rw [h.1, h3]) (World.ownsRow.cells h (g := g) rfl) ad m c news hml hnews (by omega) (by unfold maxLen at h63; omega) (by rw [h2]; exact growslice_fits (by omega) hb)
      rw [hr] at hr2
      injection hr2 with hv' _
      rw [hv']
      intro g' hg'
      injection hg' with hg'
      exact .inr hg'.symm
end
theorem Mm.off {w0 w w' : World} {l : List (Nat × List Value)} (h : Mm w0 l w) {X : List Nat} (o : Off X w w') (hX : ∀ b ∈ X, w0.heap.size ≤ b) (hl : ∀ p ∈ l, p.1 ∉ X) (hos : w'.os = w.os ∧ w'.tape = w.tape ∧ w'.output = w.output) : Mm w0 l w' :=
  ⟨fun p hp => ⟨fun j hj => by
    have e := o.blk p.1 (h.rows p hp).2.2 (hl p hp)
    rw [World.cell?_of_block (a := ⟨p.1, j, none⟩) e, World.frozen?_of_block (a := ⟨p.1, j, none⟩) e]
    exact (h.rows p hp).1 j hj, (h.rows p hp).2.1, Nat.lt_of_lt_of_le (h.rows p hp).2.2 o.size⟩, h.apart,
   ⟨hos.1.trans h.below.os, hos.2.1.trans h.below.tape, hos.2.2.trans h.below.output, Nat.le_trans h.below.size o.size, fun b hb => (o.blk b (Nat.lt_of_lt_of_le hb h.below.size) (fun hm => by have := hX b hm; omega)).trans (h.below.block b hb)⟩⟩
end
theorem Mm.setAll {w0 w : World} {l : List (Nat × List Value)} {b : Nat} {cs : List Value} (h : Mm w0 ((b, cs) :: l) w) (ds : List Value) (hd : ds.length = cs.length) : Mm w0 ((b, ds) :: l) (w.setCells b 0 ds) := by
  have hb := h.rows _ mS
  have hne := (List.pairwise_cons.1 h.apart).1
  have hall : ∀ j, j < ds.length → (w.cell? ⟨b, 0 + j, none⟩).isSome = true := fun j hj => by rw [Nat.zero_add]; exact h.isSome mS j (by omega)
  refine ⟨fun p hp => ?_, List.pairwise_cons.2 ⟨hne, (List.pairwise_cons.1 h.apart).2⟩, below_setAll h.below b hb.2.1 0 ds⟩
  rcases List.mem_cons.1 hp with rfl | hp
  · refine ⟨fun j hj => ⟨?_, by rw [World.frozen?_setCells]; exact (hb.1 j (by have hj' : j < ds.length := hj; show j < cs.length; omega)).2⟩, hb.2.1, by rw [size_setAll]; exact hb.2.2⟩
    simp only at hj ⊢
    have e := World.cell?_setCells_in b ds 0 w hall j hj
    rw [Nat.zero_add] at e
    rw [e, List.getElem?_eq_getElem hj]
  · have h2 := h.rows p (mT _ hp)
    refine ⟨fun j hj => ⟨?_, by rw [World.frozen?_setCells]; exact (h2.1 j hj).2⟩, h2.2.1, by rw [size_setAll]; exact h2.2.2⟩
    rw [World.cell?_setCells_out b ds 0 w ⟨p.1, j, none⟩ (fun e _ => absurd e.symm (hne p hp))]
    exact (h2.1 j hj).1
theorem Off.setAll {X : List Nat} {w w1 : World} (h : Off X w w1) {b : Nat} (hb : b ∈ X) : ∀ (o : Nat) (vs : List Value), Off X w (w1.setCells b o vs)
  | _, [] => h
  | o, v :: vs => (h.set hb o v).setAll hb (o + 1) vs
section
theorem storeP {P : Program} {o : Oper} {a : Act} {w : World} (cs : List Value) (b off : Nat) (ty : TypeId) (x y : Operand) (ho : o.op = .store ty x y) (hx : a.eval x = .pointer (some ⟨b, off, none⟩)) (hy : a.eval y = .agg cs.toArray) (ht : w.there b off cs.toArray.size) (hz : (P.info? ty).map (·.size) = some cs.toArray.size) (h1 : ∀ u ∈ cs, u.oneCell' = true) :
    (execOp a.eval o).run P w = .ok .skip (w.setCells b off cs) := by
  unfold execOp
  simp only [ho, hx, hy]
  have e := run_storeAt_mid (P := P) w b off ty cs.toArray ht hz (all_oneCell_toArray h1)
  simp only [Sem.run_bind, e, Result.andThen_ok, Sem.run_pure]
def setL (cs : List Value) : Nat → List Value → List Value
  | _, [] => cs
  | o, v :: vs => setL (cs.set o v) (o + 1) vs
section
variable {w0 w : World} {l : List (Nat × List Value)} {b : Nat} {cs : List Value}
theorem Mm.thereP (h : Mm w0 l w) (hp : (b, cs) ∈ l) (o n : Nat) (hn : o + n ≤ cs.length) : w.there b o n := fun j hj => ⟨h.isSome hp (o + j) (by omega), h.free hp (o + j) (by omega)⟩
theorem Mm.setPartG : ∀ (ds : List Value) (o : Nat) (cs : List Value) (w : World), o + ds.length ≤ cs.length → Mm w0 ((b, cs) :: l) w → Mm w0 ((b, setL cs o ds) :: l) (w.setCells b o ds)
  | [], _, _, _, _, h => h
  | v :: vs, o, cs, w, hl, h => by
    rw [List.length_cons] at hl
    exact Mm.setPartG vs (o + 1) (cs.set o v) _ (by rw [List.length_set]; omega) (h.set o (by omega) v)
theorem Mm.setPart (h : Mm w0 ((b, cs) :: l) w) (ds : List Value) (o : Nat) (hl : o + ds.length ≤ cs.length) : Mm w0 ((b, setL cs o ds) :: l) (w.setCells b o ds) := Mm.setPartG ds o cs w hl h
theorem Mm.perm {l' : List (Nat × List Value)} (h : Mm w0 l w) (hp : l.Perm l') : Mm w0 l' w :=
  ⟨fun p hq => h.rows p (hp.mem_iff.2 hq), hp.pairwise h.apart (fun e => Ne.symm e), h.below⟩
end
theorem Mm.drop2 {w0 w : World} {l : List (Nat × List Value)} {p q : Nat × List Value} (h : Mm w0 (p :: q :: l) w) : Mm w0 (p :: l) w := h.sub _ (List.cons_sublist_cons.2 (List.sublist_cons_self q l))
theorem Off.and1 {X : List Nat} {w w1 w2 : World} {b : Nat} (h : Off X w w1) (g : Off [b] w1 w2) (hb : b ∈ X ∨ w.heap.size ≤ b) : Off X w w2 :=
  ⟨Nat.le_trans h.size g.size, fun c hc hX => (g.blk c (Nat.lt_of_lt_of_le hc h.size) (fun e => by
    obtain rfl := List.mem_singleton.1 e
    rcases hb with h' | h'
    · exact hX h'
    · omega)).trans (h.blk c hc hX)⟩
end
theorem bl_app (a b : List Int) (j : Nat) : bl (a ++ b) j = if j < a.length then bl a j else bl b (j - a.length) := by
  unfold bl
  simp only [List.getD_eq_getElem?_getD, List.getElem?_append]
  split <;> rfl
theorem bl_take (b : List Int) (n j : Nat) (h : j < n) : bl (b.take n) j = bl b j := by
  unfold bl
  simp [h]
theorem bl_app' (a b : List Int) (j : Nat) : app (bl a) a.length (bl b) j = bl (a ++ b) j := by
  rw [bl_app]
  rfl
section
def SrcI (w : World) (sp : Option Addr) (n : Nat) (f : Nat → Int) : Prop := ∀ j, j < n → ∃ ad, sp = some ad ∧ w.cell? (ad.add j) = some (.int .i64 (f j))
theorem SrcI.below {w w' : World} {sp : Option Addr} {n : Nat} {f : Nat → Int} (h : SrcI w sp n f) {B : Nat} (b : Below B w w') (hB : w.heap.size ≤ B) : SrcI w' sp n f := fun j hj => by
  obtain ⟨ad, e, hc⟩ := h j hj
  exact ⟨ad, e, by rw [b.cell (Nat.lt_of_lt_of_le (World.block_lt_of_cell? w _ hc) hB)]; exact hc⟩
theorem SrcI.at {w : World} {ad : Addr} {n : Nat} {f : Nat → Int} (h : SrcI w (some ad) n f) (j : Nat) (hj : j < n) : w.cell? (ad.add j) = some (.int .i64 (f j)) := by
  obtain ⟨ad', e, hc⟩ := h j hj
  injection e with e
  subst e
  exact hc
abbrev OwnI (w : World) (base : Nat) (l : List Int) (v : Value) : Prop := Own w base 3 .i64 l.length (bl l) v
theorem OwnI.app {w : World} {base : Nat} {a b : List Int} {v : Value} (h : Own w base 3 .i64 (a.length + b.length) (Go.Proofs.Ytglnmmajgedinaa.app (bl a) a.length (bl b)) v) : OwnI w base (a ++ b) v := by
  unfold OwnI
  rw [List.length_append]
  exact h.congr fun j _ => bl_app' a b j
theorem OwnI.slice {w : World} {base : Nat} {l : List Int} {v : Value} (h : OwnI w base l v) : ∃ sp c, v = .slice sp l.length c ∧ SrcI w sp l.length (bl l) := by
  obtain ⟨sp, c, e, _, hs⟩ := h.isSlice
  exact ⟨sp, c, e, hs⟩
theorem SrcI.lit (w : World) (l : List Int) (hl : l.length ≤ 16) : SrcI (w.alloc (.cells (row .i64 l.length (bl l)).toArray 3)) (some ⟨w.heap.size, 0, none⟩) l.length (bl l) := by
  have h := Own.lit w w.heap.size 3 .i64 l.length (bl l) (Nat.le_refl _) (by unfold maxLen; omega)
  obtain ⟨sp, c, e, _, hs⟩ := h.isSlice
  injection e with e _ _
  subst e
  exact hs
theorem one64 : One Try.prog 3 .i64 8 := ⟨by kernel_rfl⟩
section
variable {P : Program} {o : Oper} {a : Act}
theorem maxI (k k' : IntKind) (n n' r : Int) (x y : Operand) (t t' : TypeId) (ho : o.op = .call { callee := .builtin .max, args := #[x, y], argTypes := #[t, t'] }) (hx : a.eval x = .int k n) (hy : a.eval y = .int k' n') (hr : (if n < n' then n' else n) = r) (w : World) : (execOp a.eval o).run P w = .ok (.value (.int k r)) w := by
  simp [execOp, ho, resolve, invoke, builtin, hx, hy, run_max_int2, hr]
end
theorem Mm.grownN {w0 w w' : World} {l : List (Nat × List Value)} (h : Mm w0 l w) {r : Option Nat} (g : w.grownBy w' r) (hr : ∀ b, r = some b → w0.heap.size ≤ b ∧ ∀ p ∈ l, p.1 ≠ b) : Mm w0 l w' :=
  ⟨fun p hp => ⟨fun j hj => by
    have e : w'.heap[p.1]? = w.heap[p.1]? := g.block p.1 (h.rows p hp).2.2 (fun e => (hr p.1 e.symm).2 p hp rfl)
    rw [World.cell?_of_block (a := ⟨p.1, j, none⟩) e, World.frozen?_of_block (a := ⟨p.1, j, none⟩) e]
    exact (h.rows p hp).1 j hj, (h.rows p hp).2.1, Nat.lt_of_lt_of_le (h.rows p hp).2.2 g.size⟩, h.apart,
   ⟨g.os.trans h.below.os, g.tape.trans h.below.tape, g.output.trans h.below.output, Nat.le_trans h.below.size g.size, fun b hb => (g.block b (Nat.lt_of_lt_of_le hb h.below.size) (fun e => by have := (hr b e.symm).1; omega)).trans (h.below.block b hb)⟩⟩
end
def wtop (L : List Int) : Int := L.foldl max (-1)
def wchk (L : List Int) (n : Int) : Int := if n < 0 ∨ 281474976710655 < n then 1 else if n ≤ wtop L - 1024 ∨ n ∈ L then 140 else 0
def wmk (L : List Int) (n : Int) : List Int := if wchk L n = 0 then L ++ [n] else L
def wcnt (L : List Int) : Nat := (L.filter (fun x => decide (wtop L - 1024 < x))).length
def wnx (L : List Int) (last : Int) : Int := L.foldl (fun nx x => if x < last ∧ nx < x ∧ wtop L - 1024 < x then x else nx) (-1)
def wput (most : Int) (nx : Int) (l : List (Int × Int)) : Option (List (Int × Int)) :=
  match l with
  | (a, b) :: t => if a = nx + 1 then some ((nx, b) :: t) else if most ≤ (l.length : Int) then none else some ((nx, nx + 1) :: l)
  | [] => if most ≤ 0 then none else some [(nx, nx + 1)]
def wbl (L : List Int) (most : Int) : Nat → List (Int × Int) → Int → List (Int × Int)
  | 0, l, _ => l
  | k + 1, l, last => if wnx L last < 0 then l else match wput most (wnx L last) l with
    | none => l
    | some l' => wbl L most k l' (wnx L last)
def wbel (L : List Int) (most : Int) : List (Int × Int) := wbl L most (L.length + 1) [] (wtop L)
structure WinL (L : List Int) : Prop where
  ge : ∀ x ∈ L, 0 ≤ x
  le : ∀ x ∈ L, x ≤ 281474976710655
  nd : L.Nodup
theorem foldl_max_ge : ∀ (L : List Int) (t : Int), t ≤ L.foldl max t ∧ ∀ x ∈ L, x ≤ L.foldl max t
  | [], t => ⟨Int.le_refl _, fun _ h => by cases h⟩
  | y :: L, t => by
    have h := foldl_max_ge L (max t y)
    refine ⟨Int.le_trans (Int.le_max_left _ _) h.1, fun x hx => ?_⟩
    rcases List.mem_cons.1 hx with rfl | hx
    · exact Int.le_trans (Int.le_max_right _ _) h.1
    · exact h.2 x hx
theorem foldl_max_mem : ∀ (L : List Int) (t : Int), L.foldl max t = t ∨ L.foldl max t ∈ L
  | [], _ => .inl rfl
  | y :: L, t => by
    rcases foldl_max_mem L (max t y) with h | h
    · show L.foldl max (max t y) = t ∨ L.foldl max (max t y) ∈ y :: L
      rw [h]
      rcases Int.le_total t y with h' | h'
      · rw [Int.max_eq_right h']; exact .inr mS
      · rw [Int.max_eq_left h']; exact .inl rfl
    · exact .inr (mT _ h)
theorem wtop_ge (L : List Int) : -1 ≤ wtop L := (foldl_max_ge L (-1)).1
theorem wtop_le {L : List Int} {x : Int} (h : x ∈ L) : x ≤ wtop L := (foldl_max_ge L (-1)).2 x h
theorem wtop_mem (L : List Int) : wtop L = -1 ∨ wtop L ∈ L := foldl_max_mem L (-1)
theorem wtop_app (L : List Int) (n : Int) : wtop (L ++ [n]) = max (wtop L) n := by unfold wtop; rw [List.foldl_append]; rfl
theorem wtop_max {L : List Int} (h : WinL L) : wtop L ≤ 281474976710655 := by
  rcases wtop_mem L with e | e
  · omega
  · exact h.le _ e
theorem wchk_ok {L : List Int} {n : Int} (h : wchk L n = 0) : 0 ≤ n ∧ n ≤ 281474976710655 ∧ wtop L - 1024 < n ∧ n ∉ L := by
  unfold wchk at h
  by_cases h1 : n < 0 ∨ 281474976710655 < n
  · rw [if_pos h1] at h; cases h
  rw [if_neg h1] at h
  by_cases h2 : n ≤ wtop L - 1024 ∨ n ∈ L
  · rw [if_pos h2] at h; cases h
  exact ⟨by omega, by omega, by have := not_or.1 h2; omega, (not_or.1 h2).2⟩
theorem wmk_ok {L : List Int} {n : Int} (h : wchk L n = 0) : wmk L n = L ++ [n] := if_pos h
theorem wmk_err {L : List Int} {n : Int} (h : ¬ wchk L n = 0) : wmk L n = L := if_neg h
theorem wmk_w {L : List Int} (h : WinL L) (n : Int) : WinL (wmk L n) := by
  by_cases hc : wchk L n = 0
  · obtain ⟨h0, h1, _, h3⟩ := wchk_ok hc
    rw [wmk_ok hc]
    refine ⟨fun x hx => ?_, fun x hx => ?_, ?_⟩
    · rcases List.mem_append.1 hx with hx | hx
      · exact h.ge x hx
      · rw [List.mem_singleton.1 hx]; exact h0
    · rcases List.mem_append.1 hx with hx | hx
      · exact h.le x hx
      · rw [List.mem_singleton.1 hx]; exact h1
    · rw [List.nodup_append]
      exact ⟨h.nd, List.nodup_cons.2 ⟨List.not_mem_nil, List.nodup_nil⟩, fun a ha b hb => by rw [List.mem_singleton.1 hb]; exact fun e => h3 (e ▸ ha)⟩
  · rw [wmk_err hc]; exact h
theorem wmk_len (L : List Int) (n : Int) : (wmk L n).length ≤ L.length + 1 := by
  unfold wmk
  split
  · rw [List.length_append]; exact Nat.le_refl _
  · omega
theorem winL_nil : WinL [] := ⟨fun _ h => (by cases h), fun _ h => (by cases h), List.nodup_nil⟩
theorem wnx_fold (L0 : List Int) (last : Int) : ∀ (L : List Int) (nx : Int), (L.foldl (fun nx x => if x < last ∧ nx < x ∧ wtop L0 - 1024 < x then x else nx) nx = nx ∨ (L.foldl (fun nx x => if x < last ∧ nx < x ∧ wtop L0 - 1024 < x then x else nx) nx ∈ L ∧ L.foldl (fun nx x => if x < last ∧ nx < x ∧ wtop L0 - 1024 < x then x else nx) nx < last ∧ wtop L0 - 1024 < L.foldl (fun nx x => if x < last ∧ nx < x ∧ wtop L0 - 1024 < x then x else nx) nx)) ∧ nx ≤ L.foldl (fun nx x => if x < last ∧ nx < x ∧ wtop L0 - 1024 < x then x else nx) nx ∧ ∀ x ∈ L, x < last → wtop L0 - 1024 < x → x ≤ L.foldl (fun nx x => if x < last ∧ nx < x ∧ wtop L0 - 1024 < x then x else nx) nx
  | [], nx => ⟨.inl rfl, Int.le_refl _, fun _ h => by cases h⟩
  | y :: L, nx => by
    rw [List.foldl_cons]
    by_cases hy : y < last ∧ nx < y ∧ wtop L0 - 1024 < y
    · rw [if_pos hy]
      obtain ⟨h1, h2, h3⟩ := wnx_fold L0 last L y
      refine ⟨.inr ?_, by omega, fun x hx hl hw => ?_⟩
      · rcases h1 with h1 | h1
        · rw [h1]; exact ⟨mS, hy.1, hy.2.2⟩
        · exact ⟨mT _ h1.1, h1.2⟩
      · rcases List.mem_cons.1 hx with rfl | hx
        · exact h2
        · exact h3 x hx hl hw
    · rw [if_neg hy]
      obtain ⟨h1, h2, h3⟩ := wnx_fold L0 last L nx
      refine ⟨?_, h2, fun x hx hl hw => ?_⟩
      · rcases h1 with h1 | h1
        · exact .inl h1
        · exact .inr ⟨mT _ h1.1, h1.2⟩
      · rcases List.mem_cons.1 hx with rfl | hx
        · have : ¬ nx < x := fun h => hy ⟨hl, h, hw⟩
          omega
        · exact h3 x hx hl hw
theorem wnx_mem {L : List Int} {last : Int} (h : ¬ wnx L last < 0) : wnx L last ∈ L ∧ wnx L last < last ∧ wtop L - 1024 < wnx L last := by
  obtain ⟨h1, _, _⟩ := wnx_fold L last L (-1)
  rcases h1 with h1 | h1
  · exact absurd (show wnx L last < 0 by unfold wnx; rw [h1]; decide) h
  · exact h1
theorem wnx_ge {L : List Int} {last x : Int} (hx : x ∈ L) (hl : x < last) (hw : wtop L - 1024 < x) : x ≤ wnx L last := (wnx_fold L last L (-1)).2.2 x hx hl hw
theorem wnx_lo (L : List Int) (last : Int) : -1 ≤ wnx L last := (wnx_fold L last L (-1)).2.1
def wlt (L : List Int) (c : Int) : Nat := (L.filter (fun x => decide (x < c))).length
theorem wlt_mono {a b : Int} (h : a ≤ b) : ∀ L : List Int, wlt L a ≤ wlt L b
  | [] => Nat.le_refl _
  | y :: L => by
    have ih := wlt_mono h L
    unfold wlt at ih ⊢
    rw [List.filter_cons, List.filter_cons]
    by_cases h1 : y < a
    · rw [if_pos (decide_eq_true h1), if_pos (decide_eq_true (show y < b by omega))]
      simpa using ih
    · rw [if_neg (by simpa using h1)]
      split
      · rw [List.length_cons]; omega
      · exact ih
theorem wlt_lt {nx last : Int} (hl : nx < last) : ∀ {L : List Int}, nx ∈ L → wlt L nx < wlt L last
  | y :: L, hm => by
    have mono := wlt_mono (Int.le_of_lt hl) L
    unfold wlt at mono ⊢
    rw [List.filter_cons, List.filter_cons]
    by_cases e : y = nx
    · subst e
      rw [if_neg (by simp), if_pos (decide_eq_true hl), List.length_cons]
      omega
    · have hm' : nx ∈ L := (List.mem_cons.1 hm).resolve_left (fun h => e h.symm)
      have ih := wlt_lt hl hm'
      unfold wlt at ih
      by_cases h1 : y < nx
      · rw [if_pos (decide_eq_true h1), if_pos (decide_eq_true (show y < last by omega)), List.length_cons, List.length_cons]
        omega
      · rw [if_neg (by simpa using h1)]
        split
        · rw [List.length_cons]; omega
        · exact ih
theorem wlt_same {nx last : Int} (hl : nx < last) : ∀ {L : List Int}, nx ∉ L → (∀ x ∈ L, x < last → x ≤ nx) → wlt L last = wlt L nx
  | [], _, _ => rfl
  | y :: L, hn, hg => by
    have ih := wlt_same hl (L := L) (fun h => hn (mT _ h)) (fun x hx => hg x (mT _ hx))
    unfold wlt at ih ⊢
    have hy : y ≠ nx := fun e => hn (e ▸ mS)
    have hi : (y < last) ↔ (y < nx) := ⟨fun h => by have := hg y mS h; omega, fun h => by omega⟩
    rw [List.filter_cons, List.filter_cons, show decide (y < last) = decide (y < nx) from decide_eq_decide.2 hi]
    split
    · rw [List.length_cons, List.length_cons, ih]
    · exact ih
theorem wlt_step {nx last : Int} (hl : nx < last) : ∀ {L : List Int}, L.Nodup → nx ∈ L → (∀ x ∈ L, x < last → x ≤ nx) → wlt L last = wlt L nx + 1
  | y :: L, hd, hm, hg => by
    obtain ⟨hy, hd'⟩ := List.nodup_cons.1 hd
    by_cases e : y = nx
    · subst e
      have := wlt_same hl hy (fun x hx => hg x (mT _ hx))
      unfold wlt at this ⊢
      rw [List.filter_cons, List.filter_cons, if_pos (decide_eq_true hl), if_neg (by simp), List.length_cons, this]
    · have hm' : nx ∈ L := (List.mem_cons.1 hm).resolve_left (fun h => e h.symm)
      have ih := wlt_step hl hd' hm' (fun x hx => hg x (mT _ hx))
      have hi : (y < last) ↔ (y < nx) := ⟨fun h => by have := hg y mS h; omega, fun h => by omega⟩
      unfold wlt at ih ⊢
      rw [List.filter_cons, List.filter_cons, show decide (y < last) = decide (y < nx) from decide_eq_decide.2 hi]
      split
      · rw [List.length_cons, List.length_cons, ih]
      · exact ih
theorem wlt_le (L : List Int) (c : Int) : wlt L c ≤ L.length := List.length_filter_le _ _
theorem wnx_lt {L : List Int} {last : Int} (h : ¬ wnx L last < 0) : wlt L (wnx L last) < wlt L last := wlt_lt (wnx_mem h).2.1 (wnx_mem h).1
def rsum (l : List (Int × Int)) : Int := (l.map (fun p => p.2 - p.1)).sum
theorem wput_some {most nx : Int} {l l' : List (Int × Int)} (h : wput most nx l = some l') : rsum l' = rsum l + 1 ∧ ((∃ a b t, l = (a, b) :: t ∧ a = nx + 1 ∧ l' = (nx, b) :: t) ∨ l' = (nx, nx + 1) :: l) := by
  unfold wput at h
  split at h
  · rename_i a b t
    split at h
    · rename_i e
      injection h with h
      subst h
      refine ⟨?_, .inl ⟨a, b, t, rfl, e, rfl⟩⟩
      unfold rsum
      simp only [List.map_cons, List.sum_cons]
      omega
    · split at h
      · cases h
      · injection h with h
        subst h
        refine ⟨?_, .inr rfl⟩
        unfold rsum
        simp only [List.map_cons, List.sum_cons]
        omega
  · split at h
    · cases h
    · injection h with h
      subst h
      exact ⟨by unfold rsum; simp only [List.map_cons, List.map_nil, List.sum_cons, List.sum_nil]; omega, .inr rfl⟩
theorem wput_len {most nx : Int} {l l' : List (Int × Int)} (h : wput most nx l = some l') : l'.length ≤ l.length + 1 := by
  rcases (wput_some h).2 with ⟨a, b, t, rfl, _, rfl⟩ | rfl
  · exact Nat.le_succ _
  · exact Nat.le_refl _
theorem take_bl {L : List Int} {j : Nat} (h : j < L.length) : L.take (j + 1) = L.take j ++ [bl L j] := by
  rw [List.take_add_one, List.getElem?_eq_getElem h]
  unfold bl
  rw [List.getD_eq_getElem?_getD, List.getElem?_eq_getElem h]
  rfl
theorem wtop_take {L : List Int} {j : Nat} (h : j < L.length) : (if wtop (L.take j) < bl L j then bl L j else wtop (L.take j)) = wtop (L.take (j + 1)) := by
  rw [take_bl h, wtop_app]
  split <;> omega
theorem bl_mem {L : List Int} {j : Nat} (h : j < L.length) : bl L j ∈ L := by
  unfold bl
  rw [List.getD_eq_getElem?_getD, List.getElem?_eq_getElem h]
  exact List.getElem_mem h
theorem mem_take {L : List Int} {j : Nat} {n : Int} (h : j < L.length) (hn : n ∉ L.take j) (he : ¬ bl L j = n) : n ∉ L.take (j + 1) := by
  rw [take_bl h]
  intro hm
  rcases List.mem_append.1 hm with hm | hm
  · exact hn hm
  · exact he (List.mem_singleton.1 hm).symm
structure WinI (w : World) (sp : Option Addr) (L : List Int) : Prop where
  src : SrcI w sp L.length (bl L)
  len : L.length ≤ 1099511627776
  win : WinL L
theorem WinI.below {w w' : World} {sp : Option Addr} {L : List Int} (h : WinI w sp L) (l : Below w.heap.size w w') : WinI w' sp L := ⟨h.src.below l (Nat.le_refl _), h.len, h.win⟩
theorem rtop_any (w0 w : World) (R : Nat) (l : List (Nat × List Value)) (L : List Int) (sp : Option Addr) (cap : Nat) (hI : WinI w sp L) (M : Mm w0 ((R, [.slice sp L.length cap]) :: l) w) :
    Calls Try.prog 16 #[.pointer (some ⟨R, 0, none⟩)] w fun e w' => e = .returned (.int .i64 (wtop L)) ∧ Below w.heap.size w w' := by
  have hLn := hI.len
  go_enter Try.func16, Try.ntmps16
  go_upto_region 0 with fail
  refine wp_region_list ?_
  refine readL (.int .i64 0) rfl (by kernel_rfl) ?_
  simp only [aP, lI, l0, lS]
  first | show Exit.then _ _ _ _ _ | show Exit.inBlock _ _ _ _ _
  go_upto_region 1 with fail
  refine wp_region_list ?_
  refine readL (.int .i64 (-1)) rfl (by kernel_rfl) ?_
  simp only [aP, lI, l0, lS]
  first | show Exit.then _ _ _ _ _ | show Exit.inBlock _ _ _ _ _
  go_upto_region 2 with fail
  refine wp_region_list ?_
  refine readL (.int .i64 0) rfl (by kernel_rfl) ?_
  simp only [aP, lI, l0, lS]
  first | show Exit.then _ _ _ _ _ | show Exit.inBlock _ _ _ _ _
  have HI := show Hid _ from M
  clear M
  go_wp2
  go_loopw [3, 4] (fun t i w' => ∃ j : Nat, j ≤ L.length ∧ t = .int .i64 (wtop (L.take j)) ∧ i = .int .i64 (j : Int) ∧ w = w') (fun _ i _ => L.length - (intOf i).toNat)
  case atStart => exact ⟨0, Nat.zero_le _, rfl, rfl, rfl⟩
  case round =>
    obtain ⟨j, hj, rfl, rfl, rfl⟩ := hrel
    have M := HI.out
    clear HI
    by_cases hlt : j < L.length
    · obtain ⟨ad, rfl, _⟩ := hI.src j hlt
      go_upto_region 3 with fail
      refine wp_region_list ?_
      refine readL (.int .i64 (j : Int)) rfl (by kernel_rfl) ?_
      simp only [aP, lI, l0, lS]
      refine readL (.pointer (some ⟨R, 0, none⟩)) rfl (by kernel_rfl) ?_
      simp only [aP, lI, l0, lS]
      refine readL (.pointer (some ⟨R, 0, none⟩)) rfl (by kernel_rfl) ?_
      simp only [aP, lI, l0, lS]
      refine readL (.pointer (some ⟨R, 0, none⟩)) rfl (by kernel_rfl) ?_
      simp only [aP, lI, l0, lS]
      refine readL (.slice (some ad) L.length cap) rfl (load1 22 _ ⟨R, 0, none⟩ _ rfl rfl (fun _ => by kernel_rfl) (M.get mS 0 _ rfl)) ?_
      simp only [aP, lI, l0, lS]
      refine readL (.int .i64 ((L.length : Nat) : Int)) rfl (lenS _ 22 3 (some ad) L.length cap rfl Try.underlying22 rfl _) ?_
      simp only [aP, lI, l0, lS]
      refine readL (.bool true) rfl (lssI .i64 _ _ _ _ _ _ rfl rfl rfl true (decide_eq_true (by omega)) _) ?_
      simp only [aP, lI, l0, lS]
      first | show Exit.then _ _ _ _ _ | show Exit.inBlock _ _ _ _ _
      go_upto_region 5 with fail
      refine wp_region_list ?_
      refine readL (.int .i64 (wtop (L.take j))) rfl (by kernel_rfl) ?_
      simp only [aP, lI, l0, lS]
      refine readL (.pointer (some ⟨R, 0, none⟩)) rfl (by kernel_rfl) ?_
      simp only [aP, lI, l0, lS]
      refine readL (.pointer (some ⟨R, 0, none⟩)) rfl (by kernel_rfl) ?_
      simp only [aP, lI, l0, lS]
      refine readL (.pointer (some ⟨R, 0, none⟩)) rfl (by kernel_rfl) ?_
      simp only [aP, lI, l0, lS]
      refine readL (.slice (some ad) L.length cap) rfl (load1 22 _ ⟨R, 0, none⟩ _ rfl rfl (fun _ => by kernel_rfl) (M.get mS 0 _ rfl)) ?_
      simp only [aP, lI, l0, lS]
      refine readL (.int .i64 (j : Int)) rfl (by kernel_rfl) ?_
      simp only [aP, lI, l0, lS]
      refine readL (.pointer (some (ad.add j))) rfl (idxSl 22 3 L.length cap .i64 ad j _ _ Try.underlying22 (fun _ => by kernel_rfl) hlt rfl rfl rfl _) ?_
      simp only [aP, lI, l0, lS]
      refine readL (.int .i64 (bl L j)) rfl (load1 3 _ (ad.add j) _ rfl rfl (fun _ => by kernel_rfl) ((hI.src.at j hlt))) ?_
      simp only [aP, lI, l0, lS]
      refine readL (.int .i64 (wtop (L.take (j + 1)))) rfl (maxI .i64 .i64 _ _ _ _ _ _ _ rfl rfl rfl (wtop_take hlt) _) ?_
      simp only [aP, lI, l0, lS]
      refine readL (.int .i64 (wtop (L.take (j + 1)))) rfl (by kernel_rfl) ?_
      simp only [aP, lI, l0, lS]
      first | show Exit.then _ _ _ _ _ | show Exit.inBlock _ _ _ _ _
      clear M
      go_wp2
      go_roundw
      case rel => exact ⟨j + 1, by omega, rfl, by go_num, trivial⟩
      case measure => simp [intOf]; omega
    · obtain rfl : j = L.length := by omega
      go_upto_region 3 with fail
      refine wp_region_list ?_
      refine readL (.int .i64 (L.length : Int)) rfl (by kernel_rfl) ?_
      simp only [aP, lI, l0, lS]
      refine readL (.pointer (some ⟨R, 0, none⟩)) rfl (by kernel_rfl) ?_
      simp only [aP, lI, l0, lS]
      refine readL (.pointer (some ⟨R, 0, none⟩)) rfl (by kernel_rfl) ?_
      simp only [aP, lI, l0, lS]
      refine readL (.pointer (some ⟨R, 0, none⟩)) rfl (by kernel_rfl) ?_
      simp only [aP, lI, l0, lS]
      refine readL (.slice sp L.length cap) rfl (load1 22 _ ⟨R, 0, none⟩ _ rfl rfl (fun _ => by kernel_rfl) (M.get mS 0 _ rfl)) ?_
      simp only [aP, lI, l0, lS]
      refine readL (.int .i64 ((L.length : Nat) : Int)) rfl (lenS _ 22 3 sp L.length cap rfl Try.underlying22 rfl _) ?_
      simp only [aP, lI, l0, lS]
      refine readL (.bool false) rfl (lssI .i64 _ _ _ _ _ _ rfl rfl rfl false (decide_eq_false (by omega)) _) ?_
      simp only [aP, lI, l0, lS]
      first | show Exit.then _ _ _ _ _ | show Exit.inBlock _ _ _ _ _
      go_upto_region 6 with fail
      refine wp_region_list ?_
      refine readL (.int .i64 (wtop (L.take L.length))) rfl (by kernel_rfl) ?_
      simp only [aP, lI, l0, lS]
      refine readL (.int .i64 (wtop (L.take L.length))) rfl (by kernel_rfl) ?_
      simp only [aP, lI, l0, lS]
      first | show Exit.then _ _ _ _ _ | show Exit.inBlock _ _ _ _ _
      clear M
      rw [List.take_length]
      go_wp2
      go_ret
      exact ⟨rfl, Below.refl _ _⟩
theorem rhas_any (w0 w : World) (R : Nat) (l : List (Nat × List Value)) (L : List Int) (sp : Option Addr) (cap : Nat) (n : Int) (hI : WinI w sp L) (M : Mm w0 ((R, [.slice sp L.length cap]) :: l) w) :
    Calls Try.prog 24 #[.pointer (some ⟨R, 0, none⟩), .int .i64 n] w fun e w' => e = .returned (.bool (decide (n ∈ L))) ∧ Below w.heap.size w w' := by
  have hLn := hI.len
  go_enter Try.func24, Try.ntmps24
  go_upto_region 0 with fail
  refine wp_region_list ?_
  refine readL (.bool false) rfl (by kernel_rfl) ?_
  simp only [aP, lI, l0, lS]
  first | show Exit.then _ _ _ _ _ | show Exit.inBlock _ _ _ _ _
  go_upto_region 1 with fail
  refine wp_region_list ?_
  refine readL (.int .i64 0) rfl (by kernel_rfl) ?_
  simp only [aP, lI, l0, lS]
  first | show Exit.then _ _ _ _ _ | show Exit.inBlock _ _ _ _ _
  have HI := show Hid _ from M
  clear M
  go_wp2
  go_loopw [5] (fun i w' => ∃ j : Nat, j ≤ L.length ∧ i = .int .i64 (j : Int) ∧ n ∉ L.take j ∧ w = w') (fun i _ => L.length - (intOf i).toNat)
  case atStart => exact ⟨0, Nat.zero_le _, rfl, by simp, rfl⟩
  case round =>
    obtain ⟨j, hj, rfl, hn, rfl⟩ := hrel
    have M := HI.out
    clear HI
    by_cases hlt : j < L.length
    · obtain ⟨ad, rfl, _⟩ := hI.src j hlt
      by_cases he : bl L j = n
      · go_upto_region 2 with fail
        refine wp_region_list ?_
        refine readL (.int .i64 (j : Int)) rfl (by kernel_rfl) ?_
        simp only [aP, lI, l0, lS]
        refine readL (.pointer (some ⟨R, 0, none⟩)) rfl (by kernel_rfl) ?_
        simp only [aP, lI, l0, lS]
        refine readL (.pointer (some ⟨R, 0, none⟩)) rfl (by kernel_rfl) ?_
        simp only [aP, lI, l0, lS]
        refine readL (.pointer (some ⟨R, 0, none⟩)) rfl (by kernel_rfl) ?_
        simp only [aP, lI, l0, lS]
        refine readL (.slice (some ad) L.length cap) rfl (load1 22 _ ⟨R, 0, none⟩ _ rfl rfl (fun _ => by kernel_rfl) (M.get mS 0 _ rfl)) ?_
        simp only [aP, lI, l0, lS]
        refine readL (.int .i64 ((L.length : Nat) : Int)) rfl (lenS _ 22 3 (some ad) L.length cap rfl Try.underlying22 rfl _) ?_
        simp only [aP, lI, l0, lS]
        refine readL (.bool true) rfl (lssI .i64 _ _ _ _ _ _ rfl rfl rfl true (decide_eq_true (by omega)) _) ?_
        simp only [aP, lI, l0, lS]
        first | show Exit.then _ _ _ _ _ | show Exit.inBlock _ _ _ _ _
        go_upto_region 4 with fail
        refine wp_region_list ?_
        refine readL (.pointer (some ⟨R, 0, none⟩)) rfl (by kernel_rfl) ?_
        simp only [aP, lI, l0, lS]
        refine readL (.pointer (some ⟨R, 0, none⟩)) rfl (by kernel_rfl) ?_
        simp only [aP, lI, l0, lS]
        refine readL (.pointer (some ⟨R, 0, none⟩)) rfl (by kernel_rfl) ?_
        simp only [aP, lI, l0, lS]
        refine readL (.slice (some ad) L.length cap) rfl (load1 22 _ ⟨R, 0, none⟩ _ rfl rfl (fun _ => by kernel_rfl) (M.get mS 0 _ rfl)) ?_
        simp only [aP, lI, l0, lS]
        refine readL (.int .i64 (j : Int)) rfl (by kernel_rfl) ?_
        simp only [aP, lI, l0, lS]
        refine readL (.pointer (some (ad.add j))) rfl (idxSl 22 3 L.length cap .i64 ad j _ _ Try.underlying22 (fun _ => by kernel_rfl) hlt rfl rfl rfl _) ?_
        simp only [aP, lI, l0, lS]
        refine readL (.int .i64 (bl L j)) rfl (load1 3 _ (ad.add j) _ rfl rfl (fun _ => by kernel_rfl) ((hI.src.at j hlt))) ?_
        simp only [aP, lI, l0, lS]
        refine readL (.int .i64 n) rfl (by kernel_rfl) ?_
        simp only [aP, lI, l0, lS]
        refine readL (.bool true) rfl (eqlI .i64 _ _ _ _ _ _ rfl rfl rfl true (by rw [he]; exact beq_self_eq_true n) _) ?_
        simp only [aP, lI, l0, lS]
        first | show Exit.then _ _ _ _ _ | show Exit.inBlock _ _ _ _ _
        go_upto_region 5 with fail
        refine wp_region_list ?_
        refine readL (.bool true) rfl (by kernel_rfl) ?_
        simp only [aP, lI, l0, lS]
        first | show Exit.then _ _ _ _ _ | show Exit.inBlock _ _ _ _ _
        have hm := show Hid _ from (decide_eq_true (he ▸ bl_mem hlt : n ∈ L))
        clear M he hn
        go_wp2
        go_ret
        exact ⟨by rw [hm.out]; rfl, Below.refl _ _⟩
      · go_upto_region 2 with fail
        refine wp_region_list ?_
        refine readL (.int .i64 (j : Int)) rfl (by kernel_rfl) ?_
        simp only [aP, lI, l0, lS]
        refine readL (.pointer (some ⟨R, 0, none⟩)) rfl (by kernel_rfl) ?_
        simp only [aP, lI, l0, lS]
        refine readL (.pointer (some ⟨R, 0, none⟩)) rfl (by kernel_rfl) ?_
        simp only [aP, lI, l0, lS]
        refine readL (.pointer (some ⟨R, 0, none⟩)) rfl (by kernel_rfl) ?_
        simp only [aP, lI, l0, lS]
        refine readL (.slice (some ad) L.length cap) rfl (load1 22 _ ⟨R, 0, none⟩ _ rfl rfl (fun _ => by kernel_rfl) (M.get mS 0 _ rfl)) ?_
        simp only [aP, lI, l0, lS]
        refine readL (.int .i64 ((L.length : Nat) : Int)) rfl (lenS _ 22 3 (some ad) L.length cap rfl Try.underlying22 rfl _) ?_
        simp only [aP, lI, l0, lS]
        refine readL (.bool true) rfl (lssI .i64 _ _ _ _ _ _ rfl rfl rfl true (decide_eq_true (by omega)) _) ?_
        simp only [aP, lI, l0, lS]
        first | show Exit.then _ _ _ _ _ | show Exit.inBlock _ _ _ _ _
        go_upto_region 4 with fail
        refine wp_region_list ?_
        refine readL (.pointer (some ⟨R, 0, none⟩)) rfl (by kernel_rfl) ?_
        simp only [aP, lI, l0, lS]
        refine readL (.pointer (some ⟨R, 0, none⟩)) rfl (by kernel_rfl) ?_
        simp only [aP, lI, l0, lS]
        refine readL (.pointer (some ⟨R, 0, none⟩)) rfl (by kernel_rfl) ?_
        simp only [aP, lI, l0, lS]
        refine readL (.slice (some ad) L.length cap) rfl (load1 22 _ ⟨R, 0, none⟩ _ rfl rfl (fun _ => by kernel_rfl) (M.get mS 0 _ rfl)) ?_
        simp only [aP, lI, l0, lS]
        refine readL (.int .i64 (j : Int)) rfl (by kernel_rfl) ?_
        simp only [aP, lI, l0, lS]
        refine readL (.pointer (some (ad.add j))) rfl (idxSl 22 3 L.length cap .i64 ad j _ _ Try.underlying22 (fun _ => by kernel_rfl) hlt rfl rfl rfl _) ?_
        simp only [aP, lI, l0, lS]
        refine readL (.int .i64 (bl L j)) rfl (load1 3 _ (ad.add j) _ rfl rfl (fun _ => by kernel_rfl) ((hI.src.at j hlt))) ?_
        simp only [aP, lI, l0, lS]
        refine readL (.int .i64 n) rfl (by kernel_rfl) ?_
        simp only [aP, lI, l0, lS]
        refine readL (.bool false) rfl (eqlI .i64 _ _ _ _ _ _ rfl rfl rfl false (by rw [beq_eq_false_iff_ne]; exact he) _) ?_
        simp only [aP, lI, l0, lS]
        first | show Exit.then _ _ _ _ _ | show Exit.inBlock _ _ _ _ _
        have hm := show Hid _ from (mem_take hlt hn he)
        clear M he hn
        go_wp2
        go_roundw
        case rel => exact ⟨j + 1, by omega, by go_num, hm.out, trivial⟩
        case measure => simp [intOf]; omega
    · obtain rfl : j = L.length := by omega
      rw [List.take_length] at hn
      go_upto_region 2 with fail
      refine wp_region_list ?_
      refine readL (.int .i64 (L.length : Int)) rfl (by kernel_rfl) ?_
      simp only [aP, lI, l0, lS]
      refine readL (.pointer (some ⟨R, 0, none⟩)) rfl (by kernel_rfl) ?_
      simp only [aP, lI, l0, lS]
      refine readL (.pointer (some ⟨R, 0, none⟩)) rfl (by kernel_rfl) ?_
      simp only [aP, lI, l0, lS]
      refine readL (.pointer (some ⟨R, 0, none⟩)) rfl (by kernel_rfl) ?_
      simp only [aP, lI, l0, lS]
      refine readL (.slice sp L.length cap) rfl (load1 22 _ ⟨R, 0, none⟩ _ rfl rfl (fun _ => by kernel_rfl) (M.get mS 0 _ rfl)) ?_
      simp only [aP, lI, l0, lS]
      refine readL (.int .i64 ((L.length : Nat) : Int)) rfl (lenS _ 22 3 sp L.length cap rfl Try.underlying22 rfl _) ?_
      simp only [aP, lI, l0, lS]
      refine readL (.bool false) rfl (lssI .i64 _ _ _ _ _ _ rfl rfl rfl false (decide_eq_false (by omega)) _) ?_
      simp only [aP, lI, l0, lS]
      first | show Exit.then _ _ _ _ _ | show Exit.inBlock _ _ _ _ _
      go_upto_region 6 with fail
      refine wp_region_list ?_
      refine readL (.bool false) rfl (by kernel_rfl) ?_
      simp only [aP, lI, l0, lS]
      first | show Exit.then _ _ _ _ _ | show Exit.inBlock _ _ _ _ _
      have hm := show Hid _ from (decide_eq_false hn)
      clear M hn
      go_wp2
      go_ret
      exact ⟨by rw [hm.out]; rfl, Below.refl _ _⟩
theorem wchk_arg {L : List Int} {n : Int} (h : n < 0 ∨ 281474976710655 < n) : wchk L n = 1 := if_pos h
theorem wchk_old {L : List Int} {n : Int} (h : ¬ (n < 0 ∨ 281474976710655 < n)) (h2 : n ≤ wtop L - 1024 ∨ n ∈ L) : wchk L n = 140 := by unfold wchk; rw [if_neg h, if_pos h2]
theorem wchk_new {L : List Int} {n : Int} (h : ¬ (n < 0 ∨ 281474976710655 < n)) (h2 : ¬ (n ≤ wtop L - 1024 ∨ n ∈ L)) : wchk L n = 0 := by unfold wchk; rw [if_neg h, if_neg h2]
theorem rcheck14_any (w0 w : World) (R : Nat) (l : List (Nat × List Value)) (L : List Int) (sp : Option Addr) (cap : Nat) (n : Int) (hI : WinI w sp L) (M : Mm w0 ((R, [.slice sp L.length cap]) :: l) w) :
    Calls Try.prog 14 #[.pointer (some ⟨R, 0, none⟩), .int .i64 n] w fun e w' => e = .returned (.int .i64 (wchk L n)) ∧ Below w.heap.size w w' := by
  have hB := Below.refl w.heap.size w
  have hLn := hI.len
  go_enter Try.func14, Try.ntmps14
  have hT1 := wtop_ge L
  have hT2 := wtop_max hI.win
  go_upto_region 0 with fail
  refine wp_region_list ?_
  refine readL (.int .i64 0) rfl (by kernel_rfl) ?_
  simp only [aP, lI, l0, lS]
  first | show Exit.then _ _ _ _ _ | show Exit.inBlock _ _ _ _ _
  by_cases h0 : n < 0
  · go_upto_region 1 with fail
    refine wp_region_list ?_
    refine readL (.int .i64 n) rfl (by kernel_rfl) ?_
    simp only [aP, lI, l0, lS]
    refine readL (.bool true) rfl (lssI .i64 _ _ _ _ _ _ rfl rfl rfl true (decide_eq_true h0) _) ?_
    simp only [aP, lI, l0, lS]
    refine readL (.bool true) rfl (by kernel_rfl) ?_
    simp only [aP, lI, l0, lS]
    with_reducible refine skipL ?_ ?_
    · rfl
    simp only [aP, lI, l0, lS]
    with_reducible refine skipL ?_ ?_
    · rfl
    simp only [aP, lI, l0, lS]
    refine readL (.bool true) rfl (by kernel_rfl) ?_
    simp only [aP, lI, l0, lS]
    first | show Exit.then _ _ _ _ _ | show Exit.inBlock _ _ _ _ _
    go_upto_region 2 with fail
    refine wp_region_list ?_
    refine readL (.int .i64 1) rfl (by kernel_rfl) ?_
    simp only [aP, lI, l0, lS]
    first | show Exit.then _ _ _ _ _ | show Exit.inBlock _ _ _ _ _
    have hE := show Hid _ from (wchk_arg (L := L) (n := n) (.inl h0))
    have HS := show Hid _ from hB
    clear M hB hI
    go_wp2
    go_ret
    exact ⟨by rw [hE.out]; rfl, HS.out⟩
  · by_cases h1 : 281474976710655 < n
    · go_upto_region 1 with fail
      refine wp_region_list ?_
      refine readL (.int .i64 n) rfl (by kernel_rfl) ?_
      simp only [aP, lI, l0, lS]
      refine readL (.bool false) rfl (lssI .i64 _ _ _ _ _ _ rfl rfl rfl false (decide_eq_false h0) _) ?_
      simp only [aP, lI, l0, lS]
      refine readL (.bool false) rfl (by kernel_rfl) ?_
      simp only [aP, lI, l0, lS]
      refine readL (.int .i64 n) rfl (by kernel_rfl) ?_
      simp only [aP, lI, l0, lS]
      refine readL (.bool true) rfl (gtrI .i64 _ _ _ _ _ _ rfl rfl rfl true (decide_eq_true (by omega)) _) ?_
      simp only [aP, lI, l0, lS]
      refine readL (.bool true) rfl (by kernel_rfl) ?_
      simp only [aP, lI, l0, lS]
      first | show Exit.then _ _ _ _ _ | show Exit.inBlock _ _ _ _ _
      go_upto_region 2 with fail
      refine wp_region_list ?_
      refine readL (.int .i64 1) rfl (by kernel_rfl) ?_
      simp only [aP, lI, l0, lS]
      first | show Exit.then _ _ _ _ _ | show Exit.inBlock _ _ _ _ _
      have hE := show Hid _ from (wchk_arg (L := L) (n := n) (.inr h1))
      have HS := show Hid _ from hB
      clear M hB hI
      go_wp2
      go_ret
      exact ⟨by rw [hE.out]; rfl, HS.out⟩
    · go_upto_region 1 with fail
      refine wp_region_list ?_
      refine readL (.int .i64 n) rfl (by kernel_rfl) ?_
      simp only [aP, lI, l0, lS]
      refine readL (.bool false) rfl (lssI .i64 _ _ _ _ _ _ rfl rfl rfl false (decide_eq_false h0) _) ?_
      simp only [aP, lI, l0, lS]
      refine readL (.bool false) rfl (by kernel_rfl) ?_
      simp only [aP, lI, l0, lS]
      refine readL (.int .i64 n) rfl (by kernel_rfl) ?_
      simp only [aP, lI, l0, lS]
      refine readL (.bool false) rfl (gtrI .i64 _ _ _ _ _ _ rfl rfl rfl false (decide_eq_false (by omega)) _) ?_
      simp only [aP, lI, l0, lS]
      refine readL (.bool false) rfl (by kernel_rfl) ?_
      simp only [aP, lI, l0, lS]
      first | show Exit.then _ _ _ _ _ | show Exit.inBlock _ _ _ _ _
      by_cases h2 : n ≤ wtop L - 1024
      · go_upto_region 3 with fail
        refine wp_region_list ?_
        refine readL (.int .i64 n) rfl (by kernel_rfl) ?_
        simp only [aP, lI, l0, lS]
        refine readL (.pointer (some ⟨R, 0, none⟩)) rfl (by kernel_rfl) ?_
        simp only [aP, lI, l0, lS]
        refine callL rfl (fun _ => by kernel_rfl) (rtop_any w0 _ R _ L sp cap hI M) ?_
        rintro e w1 ⟨rfl, l⟩
        replace M := M.call l
        replace hI := hI.below l
        replace hB := hB.trans (l.mono hB.size)
        clear l
        refine ⟨_, rfl, ?_⟩
        simp only [aP, lI, l0, lS]
        refine readL (.int .i64 ((wtop L) - 1024)) rfl (subI .i64 _ _ _ _ _ _ _ rfl rfl rfl (by rw [IntKind.wrap_i64]; omega) _) ?_
        simp only [aP, lI, l0, lS]
        refine readL (.bool true) rfl (leqI .i64 _ _ _ _ _ _ rfl rfl rfl true (decide_eq_true h2) _) ?_
        simp only [aP, lI, l0, lS]
        refine readL (.bool true) rfl (by kernel_rfl) ?_
        simp only [aP, lI, l0, lS]
        with_reducible refine skipL ?_ ?_
        · rfl
        simp only [aP, lI, l0, lS]
        with_reducible refine skipL ?_ ?_
        · rfl
        simp only [aP, lI, l0, lS]
        with_reducible refine skipL ?_ ?_
        · rfl
        simp only [aP, lI, l0, lS]
        refine readL (.bool true) rfl (by kernel_rfl) ?_
        simp only [aP, lI, l0, lS]
        first | show Exit.then _ _ _ _ _ | show Exit.inBlock _ _ _ _ _
        go_upto_region 4 with fail
        refine wp_region_list ?_
        refine readL (.int .i64 140) rfl (by kernel_rfl) ?_
        simp only [aP, lI, l0, lS]
        first | show Exit.then _ _ _ _ _ | show Exit.inBlock _ _ _ _ _
        have hE := show Hid _ from (wchk_old (L := L) (n := n) (by omega) (.inl h2))
        have HS := show Hid _ from hB
        clear M hB hI
        go_wp2
        go_ret
        exact ⟨by rw [hE.out]; rfl, HS.out⟩
      · go_upto_region 3 with fail
        refine wp_region_list ?_
        refine readL (.int .i64 n) rfl (by kernel_rfl) ?_
        simp only [aP, lI, l0, lS]
        refine readL (.pointer (some ⟨R, 0, none⟩)) rfl (by kernel_rfl) ?_
        simp only [aP, lI, l0, lS]
        refine callL rfl (fun _ => by kernel_rfl) (rtop_any w0 _ R _ L sp cap hI M) ?_
        rintro e w2 ⟨rfl, l⟩
        replace M := M.call l
        replace hI := hI.below l
        replace hB := hB.trans (l.mono hB.size)
        clear l
        refine ⟨_, rfl, ?_⟩
        simp only [aP, lI, l0, lS]
        refine readL (.int .i64 ((wtop L) - 1024)) rfl (subI .i64 _ _ _ _ _ _ _ rfl rfl rfl (by rw [IntKind.wrap_i64]; omega) _) ?_
        simp only [aP, lI, l0, lS]
        refine readL (.bool false) rfl (leqI .i64 _ _ _ _ _ _ rfl rfl rfl false (decide_eq_false h2) _) ?_
        simp only [aP, lI, l0, lS]
        refine readL (.bool false) rfl (by kernel_rfl) ?_
        simp only [aP, lI, l0, lS]
        refine readL (.pointer (some ⟨R, 0, none⟩)) rfl (by kernel_rfl) ?_
        simp only [aP, lI, l0, lS]
        refine readL (.int .i64 n) rfl (by kernel_rfl) ?_
        simp only [aP, lI, l0, lS]
        refine callL rfl (fun _ => by kernel_rfl) (rhas_any w0 _ R _ L sp cap n hI M) ?_
        rintro e w3 ⟨rfl, l⟩
        replace M := M.call l
        replace hI := hI.below l
        replace hB := hB.trans (l.mono hB.size)
        clear l
        refine ⟨_, rfl, ?_⟩
        simp only [aP, lI, l0, lS]
        refine readL (.bool (decide (n ∈ L))) rfl (by kernel_rfl) ?_
        simp only [aP, lI, l0, lS]
        first | show Exit.then _ _ _ _ _ | show Exit.inBlock _ _ _ _ _
        by_cases h3 : n ∈ L
        · rw [decide_eq_true h3]
          go_upto_region 4 with fail
          refine wp_region_list ?_
          refine readL (.int .i64 140) rfl (by kernel_rfl) ?_
          simp only [aP, lI, l0, lS]
          first | show Exit.then _ _ _ _ _ | show Exit.inBlock _ _ _ _ _
          have hE := show Hid _ from (wchk_old (L := L) (n := n) (by omega) (.inr h3))
          have HS := show Hid _ from hB
          clear M hB hI
          go_wp2
          go_ret
          exact ⟨by rw [hE.out]; rfl, HS.out⟩
        · rw [decide_eq_false h3]
          go_upto_region 5 with fail
          refine wp_region_list ?_
          refine readL (.int .i64 0) rfl (by kernel_rfl) ?_
          simp only [aP, lI, l0, lS]
          first | show Exit.then _ _ _ _ _ | show Exit.inBlock _ _ _ _ _
          have hE := show Hid _ from (wchk_new (L := L) (n := n) (by omega) (not_or.2 ⟨h2, h3⟩))
          have HS := show Hid _ from hB
          clear M hB hI
          go_wp2
          go_ret
          exact ⟨by rw [hE.out]; rfl, HS.out⟩
end Go.Proofs.Ytglnmmajgedinaa
