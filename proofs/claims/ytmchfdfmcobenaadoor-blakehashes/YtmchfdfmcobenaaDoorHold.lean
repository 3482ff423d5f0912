/- A region whose loads all come ahead of one of its operations: what the loads read must hold till then, and no longer; no program stands in this. -/
import Derived.Test.YtmchfdfmcobenaaDoorKr
namespace Go.Proofs.YtmchfdfmcobenaaDoor
open Go.RowKit

section
variable {P : Program} {ops : Array Oper} {Q : Exit → Act → World → Prop} {md : Region.Mode} {S : World → Prop} {c : Nat}

/-- Whatever order is picked, and S holds behind each operation until number c has come up. -/
def wpAnyC (P : Program) (md : Region.Mode) (ops : Array Oper) (Q : Exit → Act → World → Prop) (S : World → Prop) (c : Nat) : Nat → Array Bool → Act → World → Prop
  | 0, l, a, w => Region.ready md ops l = [] ∧ Q .normal a w
  | n + 1, l, a, w => (Region.ready md ops l = [] → Q .normal a w) ∧
    ∀ i ∈ Region.ready md ops l, wpOp P ops Q i (fun a' w' => ((l.setIfInBounds i true).getD c true = false → S w') ∧ wpAnyC P md ops Q S c n (l.setIfInBounds i true) a' w') a w

theorem wpAny_of_C : ∀ (n : Nat) (l : Array Bool) (a : Act) (w : World), wpAnyC P md ops Q S c n l a w → wpAny P md ops Q n l a w
  | 0, _, _, _, h => h
  | n + 1, _, _, _, h => ⟨h.1, fun i hi => wpOp_mono (fun a' w' h' => wpAny_of_C n _ a' w' h'.2) (h.2 i hi)⟩
theorem listed_set {l : Array Bool} {i : Nat} (h : l.getD c true = true) : (l.setIfInBounds i true).getD c true = true := by
  by_cases e : i = c
  · subst e
    rw [Array.getD_eq_getD_getElem?]
    by_cases hb : i < l.size
    · rw [Array.getElem?_setIfInBounds_self_of_lt hb]; rfl
    · rw [Array.getElem?_eq_none (by simp; omega)]; rfl
  · rw [getD_set_ne true e]; exact h
/-- Number c has come up: nothing more is asked. -/
theorem wpAnyC_rest : ∀ (n : Nat) (l : Array Bool) (a : Act) (w : World), l.getD c true = true → wpAny P md ops Q n l a w → wpAnyC P md ops Q S c n l a w
  | 0, _, _, _, _, h => h
  | n + 1, _, _, _, hc, h => ⟨h.1, fun i hi => wpOp_mono (fun a' w' h' => ⟨fun hf => (by rw [listed_set hc] at hf; cases hf), wpAnyC_rest n _ a' w' (listed_set hc) h'⟩) (h.2 i hi)⟩
theorem not_both {l : Array Bool} {i : Nat} (h0 : l.getD i true = false) (h1 : l.getD i false = true) : False := by
  rw [Array.getD_eq_getD_getElem?] at h0 h1
  cases e : l[i]? with
  | none => rw [e] at h0; cases h0
  | some b => rw [e] at h0 h1; simp only [Option.getD_some] at h0 h1; rw [h0] at h1; cases h1

/-- What number c waits for may be taken first, if it yields its value in every world that meets S. -/
theorem wpAnyC_first {i : Nat} {oi oc : Oper} {v : Value} (hi : ops[i]? = some oi) (hc : ops[c]? = some oc) (hwait : ∃ e ∈ oc.after, Region.binds md e = true ∧ e.on = i) (hsel : ∀ (j : Nat) (o : Oper) cs b, ops[j]? = some o → o.op ≠ .select cs b)
    (hQ : ∀ p a w, Q (.panic p) (a.put oi.dst v) w → Q (.panic p) a w) : ∀ (n : Nat) (l : Array Bool) (a : Act) (w : World),
      (∀ j oj, ops[j]? = some oj → j ≠ i → l.getD j true = false → (∀ e ∈ oj.after, Region.binds md e = true → e.on ≠ i) → oi.apart ops oj = true) →
      l.getD c true = false → i ∈ Region.ready md ops l → YieldsIf P ops S oi v a → S w →
      wpAnyC P md ops Q S c n (l.setIfInBounds i true) (a.put oi.dst v) w → wpAnyC P md ops Q S c (n + 1) l a w := by
  have waits : ∀ (l : Array Bool) (j : Nat), i ∈ Region.ready md ops l → j ∈ Region.ready md ops l → j ≠ c := fun l j hr hj e => by
    subst e
    obtain ⟨_, o, ho, hall⟩ := mem_ready.1 hj
    obtain rfl : o = oc := Option.some.inj (ho.symm.trans hc)
    obtain ⟨e, he, hb, rfl⟩ := hwait
    exact not_both (mem_ready.1 hr).1 (hall e he hb)
  intro n
  induction n with
  | zero =>
    intro l a w _ _ hr hy hS H
    refine ⟨fun h => (by rw [h] at hr; cases hr), fun j hj => ?_⟩
    by_cases hji : j = i
    · subst hji; exact hy.wpOp hi hS ⟨fun _ => hS, H⟩
    · have := ready_mono hj hji
      rw [H.1] at this
      cases this
  | succ n ih =>
    intro l a w hfree hlc hr hy hS H
    refine ⟨fun h => (by rw [h] at hr; cases hr), fun j hj => ?_⟩
    by_cases hji : j = i
    · subst hji; exact hy.wpOp hi hS ⟨fun _ => hS, H⟩
    · have hjc := waits l j hr hj
      have hic := waits l i hr hr
      obtain ⟨hjun, oj, hoj, hall⟩ := mem_ready.1 hj
      have hnot : ∀ e ∈ oj.after, Region.binds md e = true → e.on ≠ i := fun e he hb heq => not_both (mem_ready.1 hr).1 (by rw [← heq]; exact hall e he hb)
      have h2 := wpOp_putIf hoj (hfree j oj hoj hji hjun hnot) (fun cs b => hsel i oi cs b hi) (fun cs b => hsel j oj cs b hoj) hQ hy (H.2 j (ready_mono hj hji))
      have hfree' : ∀ k ok, ops[k]? = some ok → k ≠ i → (l.setIfInBounds j true).getD k true = false → (∀ e ∈ ok.after, Region.binds md e = true → e.on ≠ i) → oi.apart ops ok = true := fun k ok hk hki hun hno => by
        refine hfree k ok hk hki ?_ hno
        by_cases hjk : j = k
        · subst hjk; exact hjun
        · rw [getD_set_ne true hjk] at hun; exact hun
      refine wpOp_mono (fun a' w' h3 => ?_) h2
      have hS' : S w' := h3.2.1 (by rw [getD_set_ne true hjc, getD_set_ne true hic]; exact hlc)
      refine ⟨fun _ => hS', ih (l.setIfInBounds j true) a' w' hfree' (by rw [getD_set_ne true hjc]; exact hlc) (ready_mono hr (Ne.symm hji)) h3.1 hS' ?_⟩
      rw [Array.setIfInBounds_comm _ _ hji]
      exact h3.2.2
theorem wpAnyC_take {i : Nat} {oi oc : Oper} {v : Value} {n : Nat} {l : Array Bool} {a : Act} {w : World} (hi : ops[i]? = some oi) (hc : ops[c]? = some oc) (hwait : (oc.after.any fun e => Region.binds md e && e.on == i) = true)
    (hs : Region.noSelect ops = true) (hf : Region.free md ops l i = true) (hl : l.getD c true = false) (hr : (Region.ready md ops l).contains i = true)
    (hQ : ∀ p a w, Q (.panic p) (a.put oi.dst v) w → Q (.panic p) a w) (hy : YieldsIf P ops S oi v a) (hS : S w)
    (h : wpAnyC P md ops Q S c n (l.setIfInBounds i true) (a.put oi.dst v) w) : wpAnyC P md ops Q S c (n + 1) l a w := by
  refine wpAnyC_first hi hc ?_ (Region.noSelect_spec hs) hQ n l a w (Region.free_spec hi hf) hl (by simpa using hr) hy hS h
  obtain ⟨e, he, hb⟩ := Array.any_eq_true'.1 hwait
  simp only [Bool.and_eq_true, beq_iff_eq] at hb
  exact ⟨e, he, hb.1, hb.2⟩
/-- What yields its value in whatever world may be taken first. -/
theorem wpAnyC_pure {i : Nat} {oi : Oper} {v : Value} (hi : ops[i]? = some oi) (hic : i ≠ c) (hsel : ∀ (j : Nat) (o : Oper) cs b, ops[j]? = some o → o.op ≠ .select cs b)
    (hQ : ∀ p a w, Q (.panic p) (a.put oi.dst v) w → Q (.panic p) a w) : ∀ (n : Nat) (l : Array Bool) (a : Act) (w : World),
      (∀ j oj, ops[j]? = some oj → j ≠ i → l.getD j true = false → (∀ e ∈ oj.after, Region.binds md e = true → e.on ≠ i) → oi.apart ops oj = true) →
      i ∈ Region.ready md ops l → YieldsIf P ops (fun _ => True) oi v a → (l.getD c true = false → S w) →
      wpAnyC P md ops Q S c n (l.setIfInBounds i true) (a.put oi.dst v) w → wpAnyC P md ops Q S c (n + 1) l a w := by
  intro n
  induction n with
  | zero =>
    intro l a w _ hr hy hS H
    refine ⟨fun h => (by rw [h] at hr; cases hr), fun j hj => ?_⟩
    by_cases hji : j = i
    · subst hji; exact hy.wpOp hi trivial ⟨fun h => hS (by rw [getD_set_ne true hic] at h; exact h), H⟩
    · have := ready_mono hj hji
      rw [H.1] at this
      cases this
  | succ n ih =>
    intro l a w hfree hr hy hS H
    refine ⟨fun h => (by rw [h] at hr; cases hr), fun j hj => ?_⟩
    by_cases hji : j = i
    · subst hji; exact hy.wpOp hi trivial ⟨fun h => hS (by rw [getD_set_ne true hic] at h; exact h), H⟩
    · obtain ⟨hjun, oj, hoj, hall⟩ := mem_ready.1 hj
      have hnot : ∀ e ∈ oj.after, Region.binds md e = true → e.on ≠ i := fun e he hb heq => not_both (mem_ready.1 hr).1 (by rw [← heq]; exact hall e he hb)
      have h2 := wpOp_putIf hoj (hfree j oj hoj hji hjun hnot) (fun cs b => hsel i oi cs b hi) (fun cs b => hsel j oj cs b hoj) hQ hy (H.2 j (ready_mono hj hji))
      have hfree' : ∀ k ok, ops[k]? = some ok → k ≠ i → (l.setIfInBounds j true).getD k true = false → (∀ e ∈ ok.after, Region.binds md e = true → e.on ≠ i) → oi.apart ops ok = true := fun k ok hk hki hun hno => by
        refine hfree k ok hk hki ?_ hno
        by_cases hjk : j = k
        · subst hjk; exact hjun
        · rw [getD_set_ne true hjk] at hun; exact hun
      refine wpOp_mono (fun a' w' h3 => ?_) h2
      have hS' : (l.setIfInBounds j true).getD c true = false → S w' := fun hf => h3.2.1 (by rw [Array.setIfInBounds_comm _ _ (Ne.symm hji), getD_set_ne true hic]; exact hf)
      refine ⟨hS', ih (l.setIfInBounds j true) a' w' hfree' (ready_mono hr (Ne.symm hji)) h3.1 hS' ?_⟩
      rw [Array.setIfInBounds_comm _ _ hji]
      exact h3.2.2
theorem wp_region_C (c : Nat) {id : Nat} {a : Act} {w : World} (hm : P.follows .mixedOrders = true) (hS : S w.drew)
    (h : S w.drew → wpAnyC P .any ops Q S c ops.size (Array.replicate ops.size false) a w.drew) : (Code.region id ops true).wp P Q a w :=
  wp_region_any hm (wpAny_of_C _ _ _ _ (h hS))
end

section
variable {P : Program} {ops : Array Oper} {Q : Exit → Act → World → Prop} {md : Region.Mode} {S S2 : World → Prop} {c : Nat}
theorem pureC {i : Nat} {oi : Oper} (dst : Option Tmp) (hdst : oi.dst = dst) {n : Nat} {l : Array Bool} {a : Act} {w : World} (v : Value) (hi : ops[i]? = some oi) (hic : i ≠ c) (hw : Region.wanted oi (yielded ops a.tmps) = true)
    (hv : ∀ w, (execOp a.eval oi).run P w = .ok (.value v) w)
    (hs : Region.noSelect ops = true) (hf : Region.free md ops l i = true) (hr : (Region.ready md ops l).contains i = true)
    (hQ : ∀ p a w, Q (.panic p) (a.put dst v) w → Q (.panic p) a w) (hS : S w)
    (h : wpAnyC P md ops Q S c n (l.setIfInBounds i true) (a.put dst v) w) : wpAnyC P md ops Q S c (n + 1) l a w := by
  subst hdst
  exact wpAnyC_pure hi hic (Region.noSelect_spec hs) hQ n l a w (Region.free_spec hi hf) (by simpa using hr) (.inl ⟨hw, fun w _ => hv w⟩) (fun _ => hS) h
/-- One cell is loaded. -/
theorem cellC {i : Nat} {oi oc : Oper} (dst : Option Tmp) (hdst : oi.dst = dst) {n : Nat} {l : Array Bool} {a : Act} {w : World} (k : IntKind) (v : Value) (b o : Nat) (ty : TypeId) (x : Operand) (hi : ops[i]? = some oi) (hc : ops[c]? = some oc) (hwait : (oc.after.any fun e => Region.binds md e && e.on == i) = true)
    (ho : oi.op = .load ty x) (hx : a.eval x = .pointer (some ⟨b, o, none⟩)) (hw : Region.wanted oi (yielded ops a.tmps) = true)
    (hs : Region.noSelect ops = true) (hf : Region.free md ops l i = true) (hl : l.getD c true = false) (hr : (Region.ready md ops l).contains i = true)
    (hQ : ∀ p a w, Q (.panic p) (a.put dst v) w → Q (.panic p) a w) (hu : P.underlying ty = some (.int k))
    (hS : S w) (hh : ∀ w, S w → w.cell? ⟨b, o, none⟩ = some v)
    (h : wpAnyC P md ops Q S c n (l.setIfInBounds i true) (a.put dst v) w) : wpAnyC P md ops Q S c (n + 1) l a w := by
  subst hdst
  refine wpAnyC_take hi hc hwait hs hf hl hr hQ (.inl ⟨hw, fun w hw' => ?_⟩) hS h
  unfold execOp
  simp only [ho, hx, Instr.loadAt, Instr.sureAddr, Sem.run_bind, Sem.run_pure, Result.andThen_ok, run_loadVar_cell w b o ty k v (hh w hw') hu]
/-- A whole row is loaded. -/
theorem rowC {i : Nat} {oi oc : Oper} (dst : Option Tmp) (hdst : oi.dst = dst) {n : Nat} {l : Array Bool} {a : Act} {w : World} (k : IntKind) (m : Nat) (f : Nat → Int) (b o : Nat) (ty : TypeId) (x : Operand) (d : TypeDesc) (hi : ops[i]? = some oi) (hc : ops[c]? = some oc) (hwait : (oc.after.any fun e => Region.binds md e && e.on == i) = true)
    (ho : oi.op = .load ty x) (hx : a.eval x = .pointer (some ⟨b, o, none⟩)) (hw : Region.wanted oi (yielded ops a.tmps) = true)
    (hs : Region.noSelect ops = true) (hf : Region.free md ops l i = true) (hl : l.getD c true = false) (hr : (Region.ready md ops l).contains i = true)
    (hQ : ∀ p a w, Q (.panic p) (a.put dst (.agg (row k m f).toArray)) w → Q (.panic p) a w)
    (hu : P.underlying ty = some d) (hd : d.isRow = true) (hz : (P.info? ty).map (·.size) = some (row k m f).length) (hS : S w) (hh : ∀ w, S w → w.rangeAt b o (row k m f))
    (h : wpAnyC P md ops Q S c n (l.setIfInBounds i true) (a.put dst (.agg (row k m f).toArray)) w) : wpAnyC P md ops Q S c (n + 1) l a w := by
  subst hdst
  exact wpAnyC_take hi hc hwait hs hf hl hr hQ (yieldsIf_load_mid hw ty x ho b o hx (row k m f) d hh hu hd hz) hS h
/-- Number c stores a whole row, and it alone may come up. -/
theorem storesC (dst : Option Tmp) {oc : Oper} (hdst : oc.dst = dst) {n : Nat} {l : Array Bool} {a : Act} {w : World} (k : IntKind) (m : Nat) (f : Nat → Int) (b : Nat) (ty : TypeId) (x y : Operand) (hr : Region.ready md ops l = [c]) (hi : ops[c]? = some oc)
    (hw : Region.wanted oc (yielded ops a.tmps) = true) (ho : oc.op = .store ty x y) (hx : a.eval x = .pointer (some ⟨b, 0, none⟩)) (hy : a.eval y = .agg (row k m f).toArray) (ht : w.there b 0 (row k m f).toArray.size) (hz : (P.info? ty).map (·.size) = some (row k m f).toArray.size) (hl : (l.setIfInBounds c true).getD c true = true)
    (h : wpAnyH P md ops Q S2 n (l.setIfInBounds c true) (a.put dst undef) (w.setCells b 0 (row k m f))) : wpAnyC P md ops Q S c (n + 1) l a w :=
  ⟨fun h0 => (by rw [h0] at hr; cases hr), fun j hj => by
    rw [hr] at hj
    obtain rfl := List.mem_singleton.1 hj
    have he : (execOp a.eval oc).run P w = .ok .skip (w.setCells b 0 (row k m f)) := by
      unfold execOp
      simp only [ho, hx, hy]
      have e := run_storeAt_mid (P := P) w b 0 ty (row k m f).toArray ht hz (all_oneCell_toArray (row_one k m f))
      simp only [Sem.run_bind, e, Result.andThen_ok, Sem.run_pure]
    unfold wpOp
    simp only [hi, hw, if_true]
    refine .inl ?_
    unfold Oper.wp
    rw [he]
    subst hdst
    exact ⟨fun hf => (by rw [hl] at hf; cases hf), wpAnyC_rest n _ _ _ hl (wpAny_of_held n _ _ _ h)⟩⟩
/-- Number c is a call, and it alone may come up. -/
theorem callC (dst : Option Tmp) {oc : Oper} (hdst : oc.dst = dst) {f : FuncId} {args : Array Value} {R : Ending → World → Prop} {n : Nat} {l : Array Bool} {a : Act} {w : World} (hr : Region.ready md ops l = [c]) (hc : ops[c]? = some oc)
    (hw : Region.wanted oc (yielded ops a.tmps) = true) (he : ∀ w, (execOp a.eval oc).run P w = .ok (.enter f args) w) (hC : Calls P f args w R) (hl : (l.setIfInBounds c true).getD c true = true)
    (hK : ∀ e w', R e w' → ∃ v, e = .returned v ∧ wpAnyH P md ops Q S2 n (l.setIfInBounds c true) (a.put dst v) w') : wpAnyC P md ops Q S c (n + 1) l a w :=
  ⟨fun h0 => (by rw [h0] at hr; cases hr), fun j hj => by
    rw [hr] at hj
    obtain rfl := List.mem_singleton.1 hj
    unfold wpOp
    simp only [hc, hw, if_true]
    refine .inl ?_
    unfold Oper.wp
    rw [he w]
    exact hC.mono fun e w' hR => by
      obtain ⟨v, rfl, h⟩ := hK e w' hR
      subst hdst
      exact ⟨fun hf => (by rw [hl] at hf; cases hf), wpAnyC_rest n _ _ _ hl (wpAny_of_held n _ _ _ h)⟩⟩
/-- A call that alone may come up, ahead of number c. -/
theorem callMC {i : Nat} {oi : Oper} (dst : Option Tmp) (hdst : oi.dst = dst) {f : FuncId} {args : Array Value} {R : Ending → World → Prop} {n : Nat} {l : Array Bool} {a : Act} {w : World} (hr : Region.ready md ops l = [i]) (hi : ops[i]? = some oi)
    (hw : Region.wanted oi (yielded ops a.tmps) = true) (he : ∀ w, (execOp a.eval oi).run P w = .ok (.enter f args) w) (hC : Calls P f args w R)
    (hK : ∀ e w', R e w' → ∃ v, e = .returned v ∧ S w' ∧ wpAnyC P md ops Q S c n (l.setIfInBounds i true) (a.put dst v) w') : wpAnyC P md ops Q S c (n + 1) l a w :=
  ⟨fun h0 => (by rw [h0] at hr; cases hr), fun j hj => by
    rw [hr] at hj
    obtain rfl := List.mem_singleton.1 hj
    unfold wpOp
    simp only [hi, hw, if_true]
    refine .inl ?_
    unfold Oper.wp
    rw [he w]
    exact hC.mono fun e w' hR => by
      obtain ⟨v, rfl, hS, h⟩ := hK e w' hR
      subst hdst
      exact ⟨fun _ => hS, h⟩⟩
/-- One cell is stored. -/
theorem run_storeAt_cell (w : World) (b o : Nat) (ty : TypeId) (k : IntKind) (n : Int) (hx : (w.cell? ⟨b, o, none⟩).isSome = true) (hf : w.frozen? ⟨b, o, none⟩ = false) (hi : (P.info? ty).map (·.size) = some 1) :
    (Instr.storeAt ty (.pointer (some ⟨b, o, none⟩)) (.int k n)).run P w = .ok () (w.setCell ⟨b, o, none⟩ (.int k n)) := by
  have h0 : ∀ j : Nat, j < [Value.int k n].length → j = 0 := fun j hj => by simpa using hj
  have := run_storeCells_cells (P := P) b o [.int k n] 0 w (fun j hj => by rw [h0 j hj]; simpa using hx) (fun j hj => by rw [h0 j hj]; simpa using hf) (fun v hv => by simp at hv; subst hv; rfl)
  cases hq : P.info? ty with
  | none => simp [hq] at hi
  | some i =>
    have hs : i.size = 1 := by simp [hq] at hi; omega
    simp only [Nat.add_zero] at this
    have e : (storeVar ty ⟨b, o, none⟩ (.int k n)).run P w = .ok () (w.setCell ⟨b, o, none⟩ (.int k n)) := by
      simp [storeVar, sizeOf, typeInfo, hq, Value.cells, hs, this, World.setCells]
    simp only [Instr.storeAt, Instr.sureAddr, Sem.run_bind, Sem.run_pure, Result.andThen_ok, e]
/-- Number c stores a cell, and it alone may come up. -/
theorem storeC (dst : Option Tmp) {oc : Oper} (hdst : oc.dst = dst) {n : Nat} {l : Array Bool} {a : Act} {w : World} (k : IntKind) (v : Int) (b o : Nat) (ty : TypeId) (x y : Operand) (hr : Region.ready md ops l = [c]) (hi : ops[c]? = some oc)
    (hw : Region.wanted oc (yielded ops a.tmps) = true) (ho : oc.op = .store ty x y) (hx : a.eval x = .pointer (some ⟨b, o, none⟩)) (hy : a.eval y = .int k v) (hc : (w.cell? ⟨b, o, none⟩).isSome = true) (hf : w.frozen? ⟨b, o, none⟩ = false) (hz : (P.info? ty).map (·.size) = some 1) (hl : (l.setIfInBounds c true).getD c true = true)
    (h : wpAnyH P md ops Q S2 n (l.setIfInBounds c true) (a.put dst undef) (w.setCell ⟨b, o, none⟩ (.int k v))) : wpAnyC P md ops Q S c (n + 1) l a w :=
  ⟨fun h0 => (by rw [h0] at hr; cases hr), fun j hj => by
    rw [hr] at hj
    obtain rfl := List.mem_singleton.1 hj
    have he : (execOp a.eval oc).run P w = .ok .skip (w.setCell ⟨b, o, none⟩ (.int k v)) := by
      unfold execOp
      simp only [ho, hx, hy]
      have e := run_storeAt_cell (P := P) w b o ty k v hc hf hz
      simp only [Sem.run_bind, e, Result.andThen_ok, Sem.run_pure]
    unfold wpOp
    simp only [hi, hw, if_true]
    refine .inl ?_
    unfold Oper.wp
    rw [he]
    subst hdst
    exact ⟨fun hf => (by rw [hl] at hf; cases hf), wpAnyC_rest n _ _ _ hl (wpAny_of_held n _ _ _ h)⟩⟩
/-- The one operation that may come up stores a cell. -/
theorem storeH {i : Nat} {oi : Oper} (dst : Option Tmp) (hdst : oi.dst = dst) {n : Nat} {l : Array Bool} {a : Act} {w : World} (k : IntKind) (v : Int) (b o : Nat) (ty : TypeId) (x y : Operand) (hr : Region.ready md ops l = [i]) (hi : ops[i]? = some oi)
    (hw : Region.wanted oi (yielded ops a.tmps) = true) (ho : oi.op = .store ty x y) (hx : a.eval x = .pointer (some ⟨b, o, none⟩)) (hy : a.eval y = .int k v) (hc : (w.cell? ⟨b, o, none⟩).isSome = true) (hf : w.frozen? ⟨b, o, none⟩ = false) (hz : (P.info? ty).map (·.size) = some 1) (hS : S (w.setCell ⟨b, o, none⟩ (.int k v)))
    (h : wpAnyH P md ops Q S n (l.setIfInBounds i true) (a.put dst undef) (w.setCell ⟨b, o, none⟩ (.int k v))) : wpAnyH P md ops Q S (n + 1) l a w :=
  doesH dst hdst hr hi hw (by
    unfold execOp
    simp only [ho, hx, hy]
    have e := run_storeAt_cell (P := P) w b o ty k v hc hf hz
    simp only [Sem.run_bind, e, Result.andThen_ok, Sem.run_pure]) hS h
/-- A place within an array, and within a slice. -/
theorem idxArr {o : Oper} {a : Act} (t e : TypeId) (n : Nat) (k : IntKind) (b off i : Nat) (x y : Operand) (hu : P.underlying t = some (.array n e)) (hsz : ∀ w, (sizeOf e).run P w = .ok 1 w) (hi : i < n) (ho : o.op = .indexAddr t x y) (hx : a.eval x = .pointer (some ⟨b, off, none⟩)) (hy : a.eval y = .int k (i : Int)) (w : World) :
    (execOp a.eval o).run P w = .ok (.value (.pointer (some ⟨b, off + i, none⟩))) w := by
  have e1 : (Instr.indexAt t (.pointer (some ⟨b, off, none⟩)) (.int k (i : Int))).run P w = .ok (.pointer (some ⟨b, off + i, none⟩)) w := by
    simp [Instr.indexAt, run_underlying hu, Instr.sureAddr, asIntOf, hsz, Addr.add_mid]
    intro hf
    omega
  unfold execOp
  simp only [ho, hx, hy, Sem.run_bind, e1, Result.andThen_ok, Sem.run_pure]
theorem idxSl {o : Oper} {a : Act} (t e : TypeId) (len cap : Nat) (k : IntKind) (ad : Addr) (i : Nat) (x y : Operand) (hu : P.underlying t = some (.slice e)) (hsz : ∀ w, (sizeOf e).run P w = .ok 1 w) (hi : i < len) (ho : o.op = .indexAddr t x y) (hx : a.eval x = .slice (some ad) len cap) (hy : a.eval y = .int k (i : Int)) (w : World) :
    (execOp a.eval o).run P w = .ok (.value (.pointer (some (ad.add i)))) w := by
  have e1 : (Instr.indexAt t (.slice (some ad) len cap) (.int k (i : Int))).run P w = .ok (.pointer (some (ad.add i))) w := by
    simp [Instr.indexAt, run_underlying hu, asIntOf, hsz]
    intro hf
    omega
  unfold execOp
  simp only [ho, hx, hy, Sem.run_bind, e1, Result.andThen_ok, Sem.run_pure]
end
end Go.Proofs.YtmchfdfmcobenaaDoor
