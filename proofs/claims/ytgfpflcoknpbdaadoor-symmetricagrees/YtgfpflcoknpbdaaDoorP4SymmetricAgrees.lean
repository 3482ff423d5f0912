/- Texts of Hold Gn Ar Ow Ha Ia, joined. -/
import Derived.Test.YtgfpflcoknpbdaaDoorP2SymmetricAgrees
import Derived.Test.YtgfpflcoknpbdaaDoorP3SymmetricAgrees
import Derived.Lib.SlBytesConst
import Derived.Laws.BytesArg
import Derived.Laws.Concat
import Derived.Laws.AppendOwn
import Derived.Laws.OwnMore
import Derived.Laws.BitsAllLaws
import Derived.Test.YtgfpflcoknpbdaaDoorP1SymmetricAgrees
set_option maxRecDepth 20000
set_option maxHeartbeats 64000000
namespace Go.Proofs.YtgfpflcoknpbdaaDoor
open Go.RowKit
section
section
variable {P : Program} {ops : Array Oper} {Q : Exit → Act → World → Prop} {md : Region.Mode} {S : World → Prop} {c : Nat}
def wpAnyC (P : Program) (md : Region.Mode) (ops : Array Oper) (Q : Exit → Act → World → Prop) (S : World → Prop) (c : Nat) : Nat → Array Bool → Act → World → Prop
  | 0, l, a, w => Region.ready md ops l = [] ∧ Q .normal a w
  | n + 1, l, a, w => (Region.ready md ops l = [] → Q .normal a w) ∧
    ∀ i ∈ Region.ready md ops l, wpOp P ops Q i (fun a' w' => ((l.setIfInBounds i true).getD c true = false → S w') ∧ wpAnyC P md ops Q S c n (l.setIfInBounds i true) a' w') a w
theorem wpAny_of_C : ∀ (n : Nat) (l : Array Bool) (a : Act) (w : World), wpAnyC P md ops Q S c n l a w → wpAny P md ops Q n l a w
  | 0, _, _, _, h => h
  | n + 1, _, _, _, h => ⟨h.1, fun i hi => wpOp_mono (fun a' w' h' => wpAny_of_C n _ a' w' h'.2) (h.2 i hi)⟩
theorem listed_set {l : Array Bool} {i : Nat} (h : l.getD c true = true) : (l.setIfInBounds i true).getD c true = true := by
  by_cases e : i = c
  · subst e
    rw [Array.getD_eq_getD_getElem?]
    by_cases hb : i < l.size
    · rw [Array.getElem?_setIfInBounds_self_of_lt hb]; rfl
    · rw [Array.getElem?_eq_none (by simp; omega)]; rfl
  · rw [getD_set_ne true e]; exact h
theorem wpAnyC_rest : ∀ (n : Nat) (l : Array Bool) (a : Act) (w : World), l.getD c true = true → wpAny P md ops Q n l a w → wpAnyC P md ops Q S c n l a w
  | 0, _, _, _, _, h => h
  | n + 1, _, _, _, hc, h => ⟨h.1, fun i hi => wpOp_mono (fun a' w' h' => ⟨fun hf => (by rw [listed_set hc] at hf; cases hf), wpAnyC_rest n _ a' w' (listed_set hc) h'⟩) (h.2 i hi)⟩
theorem not_both {l : Array Bool} {i : Nat} (h0 : l.getD i true = false) (h1 : l.getD i false = true) : False := by
  rw [Array.getD_eq_getD_getElem?] at h0 h1
  cases e : l[i]? with
  | none => rw [e] at h0; cases h0
  | some b => rw [e] at h0 h1; simp only [Option.getD_some] at h0 h1; rw [h0] at h1; cases h1
theorem wpAnyC_first {i : Nat} {oi oc : Oper} {v : Value} (hi : ops[i]? = some oi) (hc : ops[c]? = some oc) (hwait : ∃ e ∈ oc.after, Region.binds md e = true ∧ e.on = i) (hsel : ∀ (j : Nat) (o : Oper) cs b, ops[j]? = some o → o.op ≠ .select cs b)
    (hQ : ∀ p a w, Q (.panic p) (a.put oi.dst v) w → Q (.panic p) a w) : ∀ (n : Nat) (l : Array Bool) (a : Act) (w : World),
      (∀ j oj, ops[j]? = some oj → j ≠ i → l.getD j true = false → (∀ e ∈ oj.after, Region.binds md e = true → e.on ≠ i) → oi.apart ops oj = true) →
      l.getD c true = false → i ∈ Region.ready md ops l → YieldsIf P ops S oi v a → S w →
      wpAnyC P md ops Q S c n (l.setIfInBounds i true) (a.put oi.dst v) w → wpAnyC P md ops Q S c (n + 1) l a w := by
  have waits : ∀ (l : Array Bool) (j : Nat), i ∈ Region.ready md ops l → j ∈ Region.ready md ops l → j ≠ c := fun l j hr hj e => by
    subst e
    obtain ⟨_, o, ho, hall⟩ := mem_ready.1 hj
    obtain rfl : o = oc := Option.some.inj (ho.symm.trans hc)
    obtain ⟨e, he, hb, rfl⟩ := hwait
    exact not_both (mem_ready.1 hr).1 (hall e he hb)
  intro n
  induction n with
  | zero =>
    intro l a w _ _ hr hy hS H
    refine ⟨fun h => (by rw [h] at hr; cases hr), fun j hj => ?_⟩
    by_cases hji : j = i
    · subst hji; exact hy.wpOp hi hS ⟨fun _ => hS, H⟩
    · have := ready_mono hj hji
      rw [H.1] at this
      cases this
  | succ n ih =>
    intro l a w hfree hlc hr hy hS H
    refine ⟨fun h => (by rw [h] at hr; cases hr), fun j hj => ?_⟩
    by_cases hji : j = i
    · subst hji; exact hy.wpOp hi hS ⟨fun _ => hS, H⟩
    · have hjc := waits l j hr hj
      have hic := waits l i hr hr
      obtain ⟨hjun, oj, hoj, hall⟩ := mem_ready.1 hj
      have hnot : ∀ e ∈ oj.after, Region.binds md e = true → e.on ≠ i := fun e he hb heq => not_both (mem_ready.1 hr).1 (by rw [← heq]; exact hall e he hb)
      have h2 := wpOp_putIf hoj (hfree j oj hoj hji hjun hnot) (fun cs b => hsel i oi cs b hi) (fun cs b => hsel j oj cs b hoj) hQ hy (H.2 j (ready_mono hj hji))
      have hfree' : ∀ k ok, ops[k]? = some ok → k ≠ i → (l.setIfInBounds j true).getD k true = false → (∀ e ∈ ok.after, Region.binds md e = true → e.on ≠ i) → oi.apart ops ok = true := fun k ok hk hki hun hno => by
        refine hfree k ok hk hki ?_ hno
        by_cases hjk : j = k
        · subst hjk; exact hjun
        · rw [getD_set_ne true hjk] at hun; exact hun
      refine wpOp_mono (fun a' w' h3 => ?_) h2
      have hS' : S w' := h3.2.1 (by rw [getD_set_ne true hjc, getD_set_ne true hic]; exact hlc)
      refine ⟨fun _ => hS', ih (l.setIfInBounds j true) a' w' hfree' (by rw [getD_set_ne true hjc]; exact hlc) (ready_mono hr (Ne.symm hji)) h3.1 hS' ?_⟩
      rw [Array.setIfInBounds_comm _ _ hji]
      exact h3.2.2
theorem wpAnyC_take {i : Nat} {oi oc : Oper} {v : Value} {n : Nat} {l : Array Bool} {a : Act} {w : World} (hi : ops[i]? = some oi) (hc : ops[c]? = some oc) (hwait : (oc.after.any fun e => Region.binds md e && e.on == i) = true)
    (hs : Region.noSelect ops = true) (hf : Region.free md ops l i = true) (hl : l.getD c true = false) (hr : (Region.ready md ops l).contains i = true)
    (hQ : ∀ p a w, Q (.panic p) (a.put oi.dst v) w → Q (.panic p) a w) (hy : YieldsIf P ops S oi v a) (hS : S w)
    (h : wpAnyC P md ops Q S c n (l.setIfInBounds i true) (a.put oi.dst v) w) : wpAnyC P md ops Q S c (n + 1) l a w := by
  refine wpAnyC_first hi hc ?_ (Region.noSelect_spec hs) hQ n l a w (Region.free_spec hi hf) hl (by simpa using hr) hy hS h
  obtain ⟨e, he, hb⟩ := Array.any_eq_true'.1 hwait
  simp only [Bool.and_eq_true, beq_iff_eq] at hb
  exact ⟨e, he, hb.1, hb.2⟩
theorem wpAnyC_pure {i : Nat} {oi : Oper} {v : Value} (hi : ops[i]? = some oi) (hic : i ≠ c) (hsel : ∀ (j : Nat) (o : Oper) cs b, ops[j]? = some o → o.op ≠ .select cs b)
    (hQ : ∀ p a w, Q (.panic p) (a.put oi.dst v) w → Q (.panic p) a w) : ∀ (n : Nat) (l : Array Bool) (a : Act) (w : World),
      (∀ j oj, ops[j]? = some oj → j ≠ i → l.getD j true = false → (∀ e ∈ oj.after, Region.binds md e = true → e.on ≠ i) → oi.apart ops oj = true) →
      i ∈ Region.ready md ops l → YieldsIf P ops (fun _ => True) oi v a → (l.getD c true = false → S w) →
      wpAnyC P md ops Q S c n (l.setIfInBounds i true) (a.put oi.dst v) w → wpAnyC P md ops Q S c (n + 1) l a w := by
  intro n
  induction n with
  | zero =>
    intro l a w _ hr hy hS H
    refine ⟨fun h => (by rw [h] at hr; cases hr), fun j hj => ?_⟩
    by_cases hji : j = i
    · subst hji; exact hy.wpOp hi trivial ⟨fun h => hS (by rw [getD_set_ne true hic] at h; exact h), H⟩
    · have := ready_mono hj hji
      rw [H.1] at this
      cases this
  | succ n ih =>
    intro l a w hfree hr hy hS H
    refine ⟨fun h => (by rw [h] at hr; cases hr), fun j hj => ?_⟩
    by_cases hji : j = i
    · subst hji; exact hy.wpOp hi trivial ⟨fun h => hS (by rw [getD_set_ne true hic] at h; exact h), H⟩
    · obtain ⟨hjun, oj, hoj, hall⟩ := mem_ready.1 hj
      have hnot : ∀ e ∈ oj.after, Region.binds md e = true → e.on ≠ i := fun e he hb heq => not_both (mem_ready.1 hr).1 (by rw [← heq]; exact hall e he hb)
      have h2 := wpOp_putIf hoj (hfree j oj hoj hji hjun hnot) (fun cs b => hsel i oi cs b hi) (fun cs b => hsel j oj cs b hoj) hQ hy (H.2 j (ready_mono hj hji))
      have hfree' : ∀ k ok, ops[k]? = some ok → k ≠ i → (l.setIfInBounds j true).getD k true = false → (∀ e ∈ ok.after, Region.binds md e = true → e.on ≠ i) → oi.apart ops ok = true := fun k ok hk hki hun hno => by
        refine hfree k ok hk hki ?_ hno
        by_cases hjk : j = k
        · subst hjk; exact hjun
        · rw [getD_set_ne true hjk] at hun; exact hun
      refine wpOp_mono (fun a' w' h3 => ?_) h2
      have hS' : (l.setIfInBounds j true).getD c true = false → S w' := fun hf => h3.2.1 (by rw [Array.setIfInBounds_comm _ _ (Ne.symm hji), getD_set_ne true hic]; exact hf)
      refine ⟨hS', ih (l.setIfInBounds j true) a' w' hfree' (ready_mono hr (Ne.symm hji)) h3.1 hS' ?_⟩
      rw [Array.setIfInBounds_comm _ _ hji]
      exact h3.2.2
theorem wp_region_C (c : Nat) {id : Nat} {a : Act} {w : World} (hm : P.follows .mixedOrders = true) (hS : S w.drew)
    (h : S w.drew → wpAnyC P .any ops Q S c ops.size (Array.replicate ops.size false) a w.drew) : (Code.region id ops true).wp P Q a w :=
  wp_region_any hm (wpAny_of_C _ _ _ _ (h hS))
end
section
variable {P : Program} {ops : Array Oper} {Q : Exit → Act → World → Prop} {md : Region.Mode} {S S2 : World → Prop} {c : Nat}
theorem pureC {i : Nat} {oi : Oper} (dst : Option Tmp) (hdst : oi.dst = dst) {n : Nat} {l : Array Bool} {a : Act} {w : World} (v : Value) (hi : ops[i]? = some oi) (hic : i ≠ c) (hw : Region.wanted oi (yielded ops a.tmps) = true)
    (hv : ∀ w, (execOp a.eval oi).run P w = .ok (.value v) w)
    (hs : Region.noSelect ops = true) (hf : Region.free md ops l i = true) (hr : (Region.ready md ops l).contains i = true)
    (hQ : ∀ p a w, Q (.panic p) (a.put dst v) w → Q (.panic p) a w) (hS : S w)
    (h : wpAnyC P md ops Q S c n (l.setIfInBounds i true) (a.put dst v) w) : wpAnyC P md ops Q S c (n + 1) l a w := by
  subst hdst
  exact wpAnyC_pure hi hic (Region.noSelect_spec hs) hQ n l a w (Region.free_spec hi hf) (by simpa using hr) (.inl ⟨hw, fun w _ => hv w⟩) (fun _ => hS) h
theorem pureCg {i : Nat} {oi : Oper} (dst : Option Tmp) (hdst : oi.dst = dst) {n : Nat} {l : Array Bool} {a : Act} {w : World} (v : Value) (hi : ops[i]? = some oi) (hic : i ≠ c) (hw : Region.wanted oi (yielded ops a.tmps) = true) (hv : ∀ w, (execOp a.eval oi).run P w = .ok (.value v) w) (hS : S w)
    (h : wpAnyC P md ops Q S c n (l.setIfInBounds i true) (a.put dst v) w) (hg : (Region.noSelect ops && (Region.free md ops l i && (Region.ready md ops l).contains i)) = true := by kernel_rfl) (hQ : ∀ c a w, Q (.panic c) (a.put dst v) w → Q (.panic c) a w := by exact fun _ _ _ h => h) : wpAnyC P md ops Q S c (n + 1) l a w := by
  rw [Bool.and_eq_true, Bool.and_eq_true] at hg
  exact pureC dst hdst v hi hic hw hv hg.1 hg.2.1 hg.2.2 hQ hS h
theorem cellC {i : Nat} {oi oc : Oper} (dst : Option Tmp) (hdst : oi.dst = dst) {n : Nat} {l : Array Bool} {a : Act} {w : World} (k : IntKind) (v : Value) (b o : Nat) (ty : TypeId) (x : Operand) (hi : ops[i]? = some oi) (hc : ops[c]? = some oc) (hwait : (oc.after.any fun e => Region.binds md e && e.on == i) = true)
    (ho : oi.op = .load ty x) (hx : a.eval x = .pointer (some ⟨b, o, none⟩)) (hw : Region.wanted oi (yielded ops a.tmps) = true)
    (hs : Region.noSelect ops = true) (hf : Region.free md ops l i = true) (hl : l.getD c true = false) (hr : (Region.ready md ops l).contains i = true)
    (hQ : ∀ p a w, Q (.panic p) (a.put dst v) w → Q (.panic p) a w) (hu : P.underlying ty = some (.int k))
    (hS : S w) (hh : ∀ w, S w → w.cell? ⟨b, o, none⟩ = some v)
    (h : wpAnyC P md ops Q S c n (l.setIfInBounds i true) (a.put dst v) w) : wpAnyC P md ops Q S c (n + 1) l a w := by
  subst hdst
  refine wpAnyC_take hi hc hwait hs hf hl hr hQ (.inl ⟨hw, fun w hw' => ?_⟩) hS h
  unfold execOp
  simp only [ho, hx, Instr.loadAt, Instr.sureAddr, Sem.run_bind, Sem.run_pure, Result.andThen_ok, run_loadVar_cell w b o ty k v (hh w hw') hu]
theorem rowC {i : Nat} {oi oc : Oper} (dst : Option Tmp) (hdst : oi.dst = dst) {n : Nat} {l : Array Bool} {a : Act} {w : World} (k : IntKind) (m : Nat) (f : Nat → Int) (b o : Nat) (ty : TypeId) (x : Operand) (d : TypeDesc) (hi : ops[i]? = some oi) (hc : ops[c]? = some oc) (hwait : (oc.after.any fun e => Region.binds md e && e.on == i) = true)
    (ho : oi.op = .load ty x) (hx : a.eval x = .pointer (some ⟨b, o, none⟩)) (hw : Region.wanted oi (yielded ops a.tmps) = true)
    (hs : Region.noSelect ops = true) (hf : Region.free md ops l i = true) (hl : l.getD c true = false) (hr : (Region.ready md ops l).contains i = true)
    (hQ : ∀ p a w, Q (.panic p) (a.put dst (.agg (row k m f).toArray)) w → Q (.panic p) a w)
    (hu : P.underlying ty = some d) (hd : d.isRow = true) (hz : (P.info? ty).map (·.size) = some (row k m f).length) (hS : S w) (hh : ∀ w, S w → w.rangeAt b o (row k m f))
    (h : wpAnyC P md ops Q S c n (l.setIfInBounds i true) (a.put dst (.agg (row k m f).toArray)) w) : wpAnyC P md ops Q S c (n + 1) l a w := by
  subst hdst
  exact wpAnyC_take hi hc hwait hs hf hl hr hQ (yieldsIf_load_mid hw ty x ho b o hx (row k m f) d hh hu hd hz) hS h
theorem storesC (dst : Option Tmp) {oc : Oper} (hdst : oc.dst = dst) {n : Nat} {l : Array Bool} {a : Act} {w : World} (k : IntKind) (m : Nat) (f : Nat → Int) (b : Nat) (ty : TypeId) (x y : Operand) (hr : Region.ready md ops l = [c]) (hi : ops[c]? = some oc)
    (hw : Region.wanted oc (yielded ops a.tmps) = true) (ho : oc.op = .store ty x y) (hx : a.eval x = .pointer (some ⟨b, 0, none⟩)) (hy : a.eval y = .agg (row k m f).toArray) (ht : w.there b 0 (row k m f).toArray.size) (hz : (P.info? ty).map (·.size) = some (row k m f).toArray.size) (hl : (l.setIfInBounds c true).getD c true = true)
    (h : wpAnyH P md ops Q S2 n (l.setIfInBounds c true) (a.put dst undef) (w.setCells b 0 (row k m f))) : wpAnyC P md ops Q S c (n + 1) l a w :=
  ⟨fun h0 => (by rw [h0] at hr; cases hr), fun j hj => by
    rw [hr] at hj
    obtain rfl := List.mem_singleton.1 hj
    have he : (execOp a.eval oc).run P w = .ok .skip (w.setCells b 0 (row k m f)) := by
      unfold execOp
      simp only [ho, hx, hy]
      have e := run_storeAt_mid (P := P) w b 0 ty (row k m f).toArray ht hz (all_oneCell_toArray (row_one k m f))
      simp only [Sem.run_bind, e, Result.andThen_ok, Sem.run_pure]
    unfold wpOp
    simp only [hi, hw, if_true]
    refine .inl ?_
    unfold Oper.wp
    rw [he]
    subst hdst
    exact ⟨fun hf => (by rw [hl] at hf; cases hf), wpAnyC_rest n _ _ _ hl (wpAny_of_held n _ _ _ h)⟩⟩
theorem callC (dst : Option Tmp) {oc : Oper} (hdst : oc.dst = dst) {f : FuncId} {args : Array Value} {R : Ending → World → Prop} {n : Nat} {l : Array Bool} {a : Act} {w : World} (hr : Region.ready md ops l = [c]) (hc : ops[c]? = some oc)
    (hw : Region.wanted oc (yielded ops a.tmps) = true) (he : ∀ w, (execOp a.eval oc).run P w = .ok (.enter f args) w) (hC : Calls P f args w R) (hl : (l.setIfInBounds c true).getD c true = true)
    (hK : ∀ e w', R e w' → ∃ v, e = .returned v ∧ wpAnyH P md ops Q S2 n (l.setIfInBounds c true) (a.put dst v) w') : wpAnyC P md ops Q S c (n + 1) l a w :=
  ⟨fun h0 => (by rw [h0] at hr; cases hr), fun j hj => by
    rw [hr] at hj
    obtain rfl := List.mem_singleton.1 hj
    unfold wpOp
    simp only [hc, hw, if_true]
    refine .inl ?_
    unfold Oper.wp
    rw [he w]
    exact hC.mono fun e w' hR => by
      obtain ⟨v, rfl, h⟩ := hK e w' hR
      subst hdst
      exact ⟨fun hf => (by rw [hl] at hf; cases hf), wpAnyC_rest n _ _ _ hl (wpAny_of_held n _ _ _ h)⟩⟩
theorem callMC {i : Nat} {oi : Oper} (dst : Option Tmp) (hdst : oi.dst = dst) {f : FuncId} {args : Array Value} {R : Ending → World → Prop} {n : Nat} {l : Array Bool} {a : Act} {w : World} (hr : Region.ready md ops l = [i]) (hi : ops[i]? = some oi)
    (hw : Region.wanted oi (yielded ops a.tmps) = true) (he : ∀ w, (execOp a.eval oi).run P w = .ok (.enter f args) w) (hC : Calls P f args w R)
    (hK : ∀ e w', R e w' → ∃ v, e = .returned v ∧ S w' ∧ wpAnyC P md ops Q S c n (l.setIfInBounds i true) (a.put dst v) w') : wpAnyC P md ops Q S c (n + 1) l a w :=
  ⟨fun h0 => (by rw [h0] at hr; cases hr), fun j hj => by
    rw [hr] at hj
    obtain rfl := List.mem_singleton.1 hj
    unfold wpOp
    simp only [hi, hw, if_true]
    refine .inl ?_
    unfold Oper.wp
    rw [he w]
    exact hC.mono fun e w' hR => by
      obtain ⟨v, rfl, hS, h⟩ := hK e w' hR
      subst hdst
      exact ⟨fun _ => hS, h⟩⟩
theorem run_storeAt_cell (w : World) (b o : Nat) (ty : TypeId) (k : IntKind) (n : Int) (hx : (w.cell? ⟨b, o, none⟩).isSome = true) (hf : w.frozen? ⟨b, o, none⟩ = false) (hi : (P.info? ty).map (·.size) = some 1) :
    (Instr.storeAt ty (.pointer (some ⟨b, o, none⟩)) (.int k n)).run P w = .ok () (w.setCell ⟨b, o, none⟩ (.int k n)) := by
  have h0 : ∀ j : Nat, j < [Value.int k n].length → j = 0 := fun j hj => by simpa using hj
  have := run_storeCells_cells (P := P) b o [.int k n] 0 w (fun j hj => by rw [h0 j hj]; simpa using hx) (fun j hj => by rw [h0 j hj]; simpa using hf) (fun v hv => by simp at hv; subst hv; rfl)
  cases hq : P.info? ty with
  | none => simp [hq] at hi
  | some i =>
    have hs : i.size = 1 := by simp [hq] at hi; omega
    simp only [Nat.add_zero] at this
    have e : (storeVar ty ⟨b, o, none⟩ (.int k n)).run P w = .ok () (w.setCell ⟨b, o, none⟩ (.int k n)) := by
      simp [storeVar, sizeOf, typeInfo, hq, Value.cells, hs, this, World.setCells]
    simp only [Instr.storeAt, Instr.sureAddr, Sem.run_bind, Sem.run_pure, Result.andThen_ok, e]
theorem storeC (dst : Option Tmp) {oc : Oper} (hdst : oc.dst = dst) {n : Nat} {l : Array Bool} {a : Act} {w : World} (k : IntKind) (v : Int) (b o : Nat) (ty : TypeId) (x y : Operand) (hr : Region.ready md ops l = [c]) (hi : ops[c]? = some oc)
    (hw : Region.wanted oc (yielded ops a.tmps) = true) (ho : oc.op = .store ty x y) (hx : a.eval x = .pointer (some ⟨b, o, none⟩)) (hy : a.eval y = .int k v) (hc : (w.cell? ⟨b, o, none⟩).isSome = true) (hf : w.frozen? ⟨b, o, none⟩ = false) (hz : (P.info? ty).map (·.size) = some 1) (hl : (l.setIfInBounds c true).getD c true = true)
    (h : wpAnyH P md ops Q S2 n (l.setIfInBounds c true) (a.put dst undef) (w.setCell ⟨b, o, none⟩ (.int k v))) : wpAnyC P md ops Q S c (n + 1) l a w :=
  ⟨fun h0 => (by rw [h0] at hr; cases hr), fun j hj => by
    rw [hr] at hj
    obtain rfl := List.mem_singleton.1 hj
    have he : (execOp a.eval oc).run P w = .ok .skip (w.setCell ⟨b, o, none⟩ (.int k v)) := by
      unfold execOp
      simp only [ho, hx, hy]
      have e := run_storeAt_cell (P := P) w b o ty k v hc hf hz
      simp only [Sem.run_bind, e, Result.andThen_ok, Sem.run_pure]
    unfold wpOp
    simp only [hi, hw, if_true]
    refine .inl ?_
    unfold Oper.wp
    rw [he]
    subst hdst
    exact ⟨fun hf => (by rw [hl] at hf; cases hf), wpAnyC_rest n _ _ _ hl (wpAny_of_held n _ _ _ h)⟩⟩
theorem storeH {i : Nat} {oi : Oper} (dst : Option Tmp) (hdst : oi.dst = dst) {n : Nat} {l : Array Bool} {a : Act} {w : World} (k : IntKind) (v : Int) (b o : Nat) (ty : TypeId) (x y : Operand) (hr : Region.ready md ops l = [i]) (hi : ops[i]? = some oi)
    (hw : Region.wanted oi (yielded ops a.tmps) = true) (ho : oi.op = .store ty x y) (hx : a.eval x = .pointer (some ⟨b, o, none⟩)) (hy : a.eval y = .int k v) (hc : (w.cell? ⟨b, o, none⟩).isSome = true) (hf : w.frozen? ⟨b, o, none⟩ = false) (hz : (P.info? ty).map (·.size) = some 1) (hS : S (w.setCell ⟨b, o, none⟩ (.int k v)))
    (h : wpAnyH P md ops Q S n (l.setIfInBounds i true) (a.put dst undef) (w.setCell ⟨b, o, none⟩ (.int k v))) : wpAnyH P md ops Q S (n + 1) l a w :=
  doesH dst hdst hr hi hw (by
    unfold execOp
    simp only [ho, hx, hy]
    have e := run_storeAt_cell (P := P) w b o ty k v hc hf hz
    simp only [Sem.run_bind, e, Result.andThen_ok, Sem.run_pure]) hS h
theorem idxArr {o : Oper} {a : Act} (t e : TypeId) (n : Nat) (k : IntKind) (b off i : Nat) (x y : Operand) (hu : P.underlying t = some (.array n e)) (hsz : ∀ w, (sizeOf e).run P w = .ok 1 w) (hi : i < n) (ho : o.op = .indexAddr t x y) (hx : a.eval x = .pointer (some ⟨b, off, none⟩)) (hy : a.eval y = .int k (i : Int)) (w : World) :
    (execOp a.eval o).run P w = .ok (.value (.pointer (some ⟨b, off + i, none⟩))) w := by
  have e1 : (Instr.indexAt t (.pointer (some ⟨b, off, none⟩)) (.int k (i : Int))).run P w = .ok (.pointer (some ⟨b, off + i, none⟩)) w := by
    simp [Instr.indexAt, run_underlying hu, Instr.sureAddr, asIntOf, hsz, Addr.add_mid]
    intro hf
    omega
  unfold execOp
  simp only [ho, hx, hy, Sem.run_bind, e1, Result.andThen_ok, Sem.run_pure]
theorem idxSl {o : Oper} {a : Act} (t e : TypeId) (len cap : Nat) (k : IntKind) (ad : Addr) (i : Nat) (x y : Operand) (hu : P.underlying t = some (.slice e)) (hsz : ∀ w, (sizeOf e).run P w = .ok 1 w) (hi : i < len) (ho : o.op = .indexAddr t x y) (hx : a.eval x = .slice (some ad) len cap) (hy : a.eval y = .int k (i : Int)) (w : World) :
    (execOp a.eval o).run P w = .ok (.value (.pointer (some (ad.add i)))) w := by
  have e1 : (Instr.indexAt t (.slice (some ad) len cap) (.int k (i : Int))).run P w = .ok (.pointer (some (ad.add i))) w := by
    simp [Instr.indexAt, run_underlying hu, asIntOf, hsz]
    intro hf
    omega
  unfold execOp
  simp only [ho, hx, hy, Sem.run_bind, e1, Result.andThen_ok, Sem.run_pure]
end
end
def bl (l : List Int) : Nat → Int := fun j => l.getD j 0
theorem Kr.setCell {w w' : World} {m : Nat} {l : List (Nat × IntKind × Nat × (Nat → Int))} {R : List (Nat × Nat)} (h : Kr w m l R w') (l' : List (Nat × IntKind × Nat × (Nat → Int))) (b : Nat) (k : IntKind) (n : Nat) (f : Nat → Int) (i : Nat) (hi : i < n) (x : Int) (hp : (b, k, n, f) ∈ l) (hl : ∀ p ∈ l', p ∈ l) (hne : ∀ p ∈ l', p.1 ≠ b) (hlo : w.heap.size ≤ b) :
    Kr w m ((b, k, n, upd f i x) :: l') R (w'.setCell ⟨b, i, none⟩ (.int k x)) :=
  ((h.loose l' b k n f hp hl hne hlo).poke b n mS i [.int k x]).settle R b k n (upd f i x) mS (fun _ hq => mT _ hq) (fun q hq => (h.apart _ hp q hq).symm) ((h.get _ _ _ _ hp).set i hi x)
theorem Kr.boxO {w w' : World} {m : Nat} {l : List (Nat × IntKind × Nat × (Nat → Int))} {R : List (Nat × Nat)} (h : Kr w m l R w') (k : IntKind) (n : Nat) (f : Nat → Int) (o : Obj) (b : Nat) (hb : b = w'.heap.size) (hn : Has (w'.alloc o) b k n f) : Kr w (b + 1) ((b, k, n, f) :: l) R (w'.alloc o) := by
  have hc := h.call ((Below.refl w'.heap.size w').alloc (Nat.le_refl _) o)
  refine ⟨fun p hp => ?_, fun q hq => ⟨(hc.room q hq).1, by have := (hc.room q hq).2.1; have := h.size; omega, (hc.room q hq).2.2⟩, fun p hp q hq => ?_, by simp; omega, by have := h.base; have := h.size; omega, hc.below⟩
  · rcases List.mem_cons.1 hp with rfl | hp
    · exact ⟨hn, by simp⟩
    · exact ⟨(hc.rows p hp).1, by have := (hc.rows p hp).2; have := h.size; omega⟩
  · rcases List.mem_cons.1 hp with rfl | hp
    · have := (h.room q hq).2.1; have := h.size; simp only; omega
    · exact h.apart p hp q hq
theorem has_marked (w : World) (k : IntKind) (n : Nat) (f : Nat → Int) (t : TypeId) : Has (w.alloc (.cells (row k n f).toArray t ((row k n f).toArray.size, (row k n f).toArray.size + 1))) w.heap.size k n f := by
  have e : (w.alloc (.cells (row k n f).toArray t ((row k n f).toArray.size, (row k n f).toArray.size + 1))).heap[w.heap.size]? = some (.cells (row k n f).toArray t ((row k n f).toArray.size, (row k n f).toArray.size + 1)) := by
    show (w.heap.push _)[w.heap.size]? = _
    simp
  refine ⟨fun j hj => ?_, fun j hj => ?_⟩
  · simp only [World.cell?, e]
    simpa using row_get k n f j hj
  · unfold World.frozen?
    rw [e]
    simp [row_length]
    omega
theorem conv_const {P : Program} {o : Oper} {a : Act} {w : World} (t e : TypeId) (C : Array Value) (n c : Nat) (x : Operand) (ho : o.op = .convert t t x) (hx : a.eval x = .slice (some ⟨w.heap.size, 0, none⟩) n c) (ht : P.underlying t = some (.slice e)) (he : P.underlying e = some (.int .u8)) :
    (execOp a.eval o).run P (w.alloc (.cells C e)) = .ok (.value (.slice (some ⟨w.heap.size, 0, none⟩) n c)) (w.alloc (.cells C e (C.size, C.size + 1))) := by
  unfold execOp
  simp only [ho, hx, Sem.run_bind, Lib.run_convert_bytes_const w t e C n c ht he, Result.andThen_ok, Sem.run_pure]
theorem Kr.drewN {w w' : World} {m : Nat} {l : List (Nat × IntKind × Nat × (Nat → Int))} {R : List (Nat × Nat)} (h : Kr w m l R w') {q : Nat} : Kr w m l R (w'.drewN q) := ⟨fun p hp => ⟨⟨(h.rows p hp).1.cell, (h.rows p hp).1.free⟩, (h.rows p hp).2⟩, h.room, h.apart, h.size, h.base, below_drewN h.below⟩
theorem eqlI {P : Program} {o : Oper} {a : Act} (k : IntKind) (n n' : Int) (t t' : TypeId) (x y : Operand) (ho : o.op = .binOp .eql t x y t') (hx : a.eval x = .int k n) (hy : a.eval y = .int k n') (r : Bool) (hr : (n == n') = r) (w : World) :
    (execOp a.eval o).run P w = .ok (.value (.bool r)) w := by
  unfold execOp
  simp only [ho, hx, hy, Sem.run_bind, eqGuard_at_int, binOp_eql, Sem.run_pure, Result.andThen_ok, hr]
section
section
variable {P : Program} {o : Oper} {a : Act}
theorem addI (k : IntKind) (n n' r : Int) (t t' : TypeId) (x y : Operand) (ho : o.op = .binOp .add t x y t') (hx : a.eval x = .int k n) (hy : a.eval y = .int k n') (hr : k.wrap (n + n') = r) (w : World) : (execOp a.eval o).run P w = .ok (.value (.int k r)) w := by
  unfold execOp
  simp only [ho, hx, hy, Sem.run_bind, eqGuard_at_int, binOp_add, Op.intArith, Sem.run_pure, Result.andThen_ok, hr]
theorem subI (k : IntKind) (n n' r : Int) (t t' : TypeId) (x y : Operand) (ho : o.op = .binOp .sub t x y t') (hx : a.eval x = .int k n) (hy : a.eval y = .int k n') (hr : k.wrap (n - n') = r) (w : World) : (execOp a.eval o).run P w = .ok (.value (.int k r)) w := by
  unfold execOp
  simp only [ho, hx, hy, Sem.run_bind, eqGuard_at_int, binOp_sub, Op.intArith, Sem.run_pure, Result.andThen_ok, hr]
theorem mulI (k : IntKind) (n n' r : Int) (t t' : TypeId) (x y : Operand) (ho : o.op = .binOp .mul t x y t') (hx : a.eval x = .int k n) (hy : a.eval y = .int k n') (hr : k.wrap (n * n') = r) (w : World) : (execOp a.eval o).run P w = .ok (.value (.int k r)) w := by
  unfold execOp
  simp only [ho, hx, hy, Sem.run_bind, eqGuard_at_int, binOp_mul, Op.intArith, Sem.run_pure, Result.andThen_ok, hr]
theorem xorI (k : IntKind) (n n' r : Int) (t t' : TypeId) (x y : Operand) (ho : o.op = .binOp .xor t x y t') (hx : a.eval x = .int k n) (hy : a.eval y = .int k n') (hr : bits .xor k n n' = r) (w : World) : (execOp a.eval o).run P w = .ok (.value (.int k r)) w := by
  unfold execOp
  simp only [ho, hx, hy, Sem.run_bind, eqGuard_at_int, binOp_xor, intBits_xor, Sem.run_pure, Result.andThen_ok, hr]
theorem remI (k : IntKind) (n n' r : Int) (t t' : TypeId) (x y : Operand) (ho : o.op = .binOp .rem t x y t') (hx : a.eval x = .int k n) (hy : a.eval y = .int k n') (h0 : n' ≠ 0) (hr : n.tmod n' = r) (w : World) : (execOp a.eval o).run P w = .ok (.value (.int k r)) w := by
  unfold execOp
  simp only [ho, hx, hy, Sem.run_bind, eqGuard_at_int, binOp_rem, Op.intDiv, if_neg h0, Sem.run_pure, Result.andThen_ok, hr]
theorem shrI (k yk : IntKind) (n y r : Int) (t t' : TypeId) (x x' : Operand) (ho : o.op = .binOp .shr t x x' t') (hx : a.eval x = .int k n) (hy : a.eval x' = .int yk y) (h0 : 0 ≤ y) (hr : n / 2 ^ min y.toNat k.bits = r) (w : World) : (execOp a.eval o).run P w = .ok (.value (.int k r)) w := by
  unfold execOp
  simp only [ho, hx, hy, Sem.run_bind, eqGuard_at_int, binOp_shr, shift_shr_any k yk n y h0, Sem.run_pure, Result.andThen_ok, hr]
theorem convI (k k' : IntKind) (n r : Int) (t t' : TypeId) (x : Operand) (ho : o.op = .convert t t' x) (ht : (P.underlying t).isSome = true) (ht' : P.underlying t' = some (.int k')) (hk : P.intKind t' = k') (hx : a.eval x = .int k n) (hr : k'.wrap n = r) (w : World) : (execOp a.eval o).run P w = .ok (.value (.int k' r)) w := by
  subst hk
  unfold execOp
  simp only [ho, hx, Sem.run_bind, run_convert_int w t t' k n ht ht', Sem.run_pure, Result.andThen_ok, hr]
theorem lssI (k : IntKind) (n n' : Int) (t t' : TypeId) (x y : Operand) (ho : o.op = .binOp .lss t x y t') (hx : a.eval x = .int k n) (hy : a.eval y = .int k n') (r : Bool) (hr : decide (n < n') = r) (w : World) : (execOp a.eval o).run P w = .ok (.value (.bool r)) w := by
  unfold execOp
  simp only [ho, hx, hy, Sem.run_bind, eqGuard_at_int, binOp_lss, Sem.run_pure, Result.andThen_ok, hr]
theorem neqI (k : IntKind) (n n' : Int) (t t' : TypeId) (x y : Operand) (ho : o.op = .binOp .neq t x y t') (hx : a.eval x = .int k n) (hy : a.eval y = .int k n') (r : Bool) (hr : (n != n') = r) (w : World) : (execOp a.eval o).run P w = .ok (.value (.bool r)) w := by
  unfold execOp
  simp only [ho, hx, hy, Sem.run_bind, eqGuard_at_int, binOp_neq, Sem.run_pure, Result.andThen_ok, hr]
theorem lenS (x : Operand) (t e : TypeId) (sp : Option Addr) (n c : Nat) (ho : o.op = .call { callee := .builtin .len, args := #[x], argTypes := #[t] }) (ht : P.underlying t = some (.slice e)) (hx : a.eval x = .slice sp n c) (w : World) : (execOp a.eval o).run P w = .ok (.value (.int .i64 (n : Int))) w := by
  simp [execOp, ho, resolve, invoke, builtin, hx, Builtin.len_, run_underlying ht, goInt]
theorem minI (k k' : IntKind) (n n' r : Int) (x y : Operand) (t t' : TypeId) (ho : o.op = .call { callee := .builtin .min, args := #[x, y], argTypes := #[t, t'] }) (hx : a.eval x = .int k n) (hy : a.eval y = .int k' n') (hr : (if n' < n then n' else n) = r) (w : World) : (execOp a.eval o).run P w = .ok (.value (.int k r)) w := by
  simp [execOp, ho, resolve, invoke, builtin, hx, hy, run_min_int2, hr]
theorem cutOp {w : World} (t : TypeId) (x y : Operand) (p q v : Value) (ho : o.op = .slice t x (some y) none none) (hx : a.eval x = p) (hy : a.eval y = q) (hr : (Instr.sliceAt t p (some q) none none).run P w = .ok v w) :
    (execOp a.eval o).run P w = .ok (.value v) w := by
  unfold execOp
  simp only [ho, hx, hy, Option.map_some, Option.map_none, Sem.run_bind, hr, Result.andThen_ok, Sem.run_pure]
theorem cutHi {w : World} (t : TypeId) (x y : Operand) (p q v : Value) (ho : o.op = .slice t x none (some y) none) (hx : a.eval x = p) (hy : a.eval y = q) (hr : (Instr.sliceAt t p none (some q) none).run P w = .ok v w) :
    (execOp a.eval o).run P w = .ok (.value v) w := by
  unfold execOp
  simp only [ho, hx, hy, Option.map_some, Option.map_none, Sem.run_bind, hr, Result.andThen_ok, Sem.run_pure]
theorem cutAll {w : World} (t : TypeId) (x : Operand) (p v : Value) (ho : o.op = .slice t x none none none) (hx : a.eval x = p) (hr : (Instr.sliceAt t p none none none).run P w = .ok v w) :
    (execOp a.eval o).run P w = .ok (.value v) w := by
  unfold execOp
  simp only [ho, hx, Option.map_none, Sem.run_bind, hr, Result.andThen_ok, Sem.run_pure]
def txt (n : Nat) (z : Nat → Int) : ByteArray := strOfNums ((List.range n).map z)
theorem conv_txt (t e dst : TypeId) (x : Operand) (ho : o.op = .convert t dst x) (ht : P.underlying t = some (.slice e)) (he : P.underlying e = some (.int .u8)) (hd : P.underlying dst = some .string) (sp : Option Addr) (len cap : Nat) (z : Nat → Int) (hx : a.eval x = .slice sp len cap) (w : World) (hs : Src w sp len z) (hn : sp = none → len = 0) :
    (execOp a.eval o).run P w = .ok (.value (.string (txt len z))) w := by
  have h : (convert t dst (.slice sp len cap)).run P w = .ok (.string (txt len z)) w := by
    cases sp with
    | none =>
      obtain rfl := hn rfl
      rw [run_convert_bytes_nil w t e ht he 0 cap dst hd]
      rfl
    | some ad =>
      have hl : (loadCells ad len).run P w = .ok (((List.range len).map z).map (Value.int .u8)).toArray w := by
        have := run_loadCells_list (P := P) w ad (((List.range len).map z).map (Value.int .u8)) (fun j v hj => by
          rw [List.map_map] at hj
          have hjl : j < len := by
            have := (List.getElem?_eq_some_iff.1 hj).1
            simpa using this
          obtain ⟨ad', he', hc⟩ := hs j hjl
          injection he' with he'
          subst he'
          rw [hc, ← hj]
          simp [hjl])
        simpa using this
      rw [run_convert_bytes_string w t dst e _ len cap ht he hd, run_bytesToString w ad len cap _ hl, foldl_push_bytes]
      simp [txt, strOfNums, ByteArray.empty, ByteArray.emptyWithCapacity]
      rfl
  unfold execOp
  simp only [ho, hx, Sem.run_bind, h, Result.andThen_ok, Sem.run_pure]
theorem eqlS (s s' : ByteArray) (t t' : TypeId) (x y : Operand) (ho : o.op = .binOp .eql t x y t') (hx : a.eval x = .string s) (hy : a.eval y = .string s') (h : s = s') (w : World) : (execOp a.eval o).run P w = .ok (.value (.bool true)) w := by
  subst h
  unfold execOp
  simp only [ho, hx, hy, Sem.run_bind, eqGuard_at_string, binOp_string_eql, Sem.run_pure, Result.andThen_ok, beq_self_eq_true]
end
section
variable {P : Program} {ops : Array Oper} {Q : Exit → Act → World → Prop} {md : Region.Mode} {S : World → Prop}
theorem readH {i : Nat} {oi : Oper} (dst : Option Tmp) (hdst : oi.dst = dst) {fuel : Nat} {listed : Array Bool} {a : Act} {w : World} (v : Value) (hi : ops[i]? = some oi) (hw : Region.wanted oi (yielded ops a.tmps) = true)
    (hv : ∀ w, S w → (execOp a.eval oi).run P w = .ok (.value v) w)
    (hs : Region.noSelect ops = true) (hf : Region.free md ops listed i = true) (hr : (Region.ready md ops listed).contains i = true)
    (hQ : ∀ c a w, Q (.panic c) (a.put dst v) w → Q (.panic c) a w) (hS : S w)
    (h : wpAnyH P md ops Q S fuel (listed.setIfInBounds i true) (a.put dst v) w) : wpAnyH P md ops Q S (fuel + 1) listed a w := by
  subst hdst
  exact wpAnyH_take hi hs hf hr hQ (Or.inl ⟨hw, hv⟩) hS h
theorem readHg {i : Nat} {oi : Oper} (dst : Option Tmp) (hdst : oi.dst = dst) {n : Nat} {l : Array Bool} {a : Act} {w : World} (v : Value) (hi : ops[i]? = some oi) (hw : Region.wanted oi (yielded ops a.tmps) = true) (hv : ∀ w, S w → (execOp a.eval oi).run P w = .ok (.value v) w) (hS : S w)
    (h : wpAnyH P md ops Q S n (l.setIfInBounds i true) (a.put dst v) w) (hg : (Region.noSelect ops && (Region.free md ops l i && (Region.ready md ops l).contains i)) = true := by kernel_rfl) (hQ : ∀ c a w, Q (.panic c) (a.put dst v) w → Q (.panic c) a w := by exact fun _ _ _ h => h) : wpAnyH P md ops Q S (n + 1) l a w := by
  rw [Bool.and_eq_true, Bool.and_eq_true] at hg
  exact readH dst hdst v hi hw hv hg.1 hg.2.1 hg.2.2 hQ hS h
theorem cellPH {i : Nat} {oi : Oper} (dst : Option Tmp) (hdst : oi.dst = dst) {fuel : Nat} {listed : Array Bool} {a : Act} {w : World} (k : IntKind) (v : Value) (p : Addr) (ty : TypeId) (x : Operand) (hi : ops[i]? = some oi)
    (ho : oi.op = .load ty x) (hx : a.eval x = .pointer (some p)) (hw : Region.wanted oi (yielded ops a.tmps) = true)
    (hs : Region.noSelect ops = true) (hf : Region.free md ops listed i = true) (hr : (Region.ready md ops listed).contains i = true)
    (hQ : ∀ c a w, Q (.panic c) (a.put dst v) w → Q (.panic c) a w)
    (hu : P.underlying ty = some (.int k))
    (hS : S w) (hh : ∀ w, S w → w.cell? p = some v)
    (h : wpAnyH P md ops Q S fuel (listed.setIfInBounds i true) (a.put dst v) w) : wpAnyH P md ops Q S (fuel + 1) listed a w := by
  refine readH dst hdst v hi hw (fun w hw' => ?_) hs hf hr hQ hS h
  have hagg : (isAgg ty).run P w = .ok false w := by
    unfold isAgg
    rw [Sem.run_bind, run_underlying hu w]
    rfl
  have e : (loadVar ty p).run P w = .ok v w := by simp [loadVar, Sem.run_bind, hagg, hh w hw']
  unfold execOp
  simp only [ho, hx, Instr.loadAt, Instr.sureAddr, Sem.run_bind, Sem.run_pure, Result.andThen_ok, e]
theorem readL {o : Oper} {rest : List Oper} {a : Act} {w : World} (v : Value) (hw : Region.wanted o (yielded ops a.tmps) = true) (hv : (execOp a.eval o).run P w = .ok (.value v) w)
    (h : wpList P ops Q rest (a.put o.dst v) w) : wpList P ops Q (o :: rest) a w := by
  unfold wpList
  rw [if_pos hw]
  refine .inl ?_
  unfold Oper.wp
  rw [hv]
  exact h
theorem storeL {o' : Oper} {rest : List Oper} {a : Act} {w : World} (k : IntKind) (v : Int) (b o : Nat) (ty : TypeId) (x y : Operand) (hw : Region.wanted o' (yielded ops a.tmps) = true) (ho : o'.op = .store ty x y) (hx : a.eval x = .pointer (some ⟨b, o, none⟩)) (hy : a.eval y = .int k v)
    (hc : (w.cell? ⟨b, o, none⟩).isSome = true) (hf : w.frozen? ⟨b, o, none⟩ = false) (hz : (P.info? ty).map (·.size) = some 1)
    (h : wpList P ops Q rest (a.put o'.dst undef) (w.setCell ⟨b, o, none⟩ (.int k v))) : wpList P ops Q (o' :: rest) a w := by
  unfold wpList
  rw [if_pos hw]
  refine .inl ?_
  have he : (execOp a.eval o').run P w = .ok .skip (w.setCell ⟨b, o, none⟩ (.int k v)) := by
    unfold execOp
    simp only [ho, hx, hy]
    have e := run_storeAt_cell (P := P) w b o ty k v hc hf hz
    simp only [Sem.run_bind, e, Result.andThen_ok, Sem.run_pure]
  unfold Oper.wp
  rw [he]
  exact h
end
theorem Has.src0 {w : World} {b n : Nat} {f : Nat → Int} (h : Has w b .u8 n f) : Src w (some ⟨b, 0, none⟩) n f := fun j hj => ⟨_, rfl, by rw [Addr.add_mid, Nat.zero_add]; exact h.cell j hj⟩
theorem Src.congr {w : World} {sp : Option Addr} {len : Nat} {z y : Nat → Int} (h : Src w sp len z) (e : ∀ j, j < len → z j = y j) : Src w sp len y := fun j hj => by
  obtain ⟨ad, h1, h2⟩ := h j hj
  exact ⟨ad, h1, by rw [← e j hj]; exact h2⟩
end
section
def Own (w : World) (base : Nat) (e : TypeId) (k : IntKind) (n : Nat) (f : Nat → Int) (v : Value) : Prop := w.ownsRow base e 1 v n (row k n f)
def app (f : Nat → Int) (n : Nat) (h : Nat → Int) : Nat → Int := fun j => if j < n then f j else h (j - n)
theorem row_app (k : IntKind) (n m : Nat) (f h : Nat → Int) : row k n f ++ row k m h = row k (n + m) (app f n h) := by
  unfold row
  rw [List.range_add, List.map_append, List.map_map]
  congr 1
  · refine List.map_congr_left fun j hj => ?_
    unfold app; rw [if_pos (List.mem_range.1 hj)]
  · refine List.map_congr_left fun j hj => ?_
    simp [app]
    omega
theorem Own.congr {w : World} {base : Nat} {e : TypeId} {k : IntKind} {n : Nat} {f g : Nat → Int} {v : Value} (h : Own w base e k n f v) (he : ∀ j, j < n → f j = g j) : Own w base e k n g v := by
  unfold Own at *
  rw [← row_congr k n he]; exact h
theorem Own.lit (w : World) (base : Nat) (e : TypeId) (k : IntKind) (n : Nat) (f : Nat → Int) (hb : base ≤ w.heap.size) (hn : n ≤ maxLen) : Own (w.alloc (.cells (row k n f).toArray e)) base e k n f (.slice (some ⟨w.heap.size, 0, none⟩) n n) :=
  ⟨by rw [row_length, Nat.mul_one], .inr ⟨w.heap.size, n, _, rfl, hb, heap_alloc_new w _, Nat.le_refl _, hn, by rw [List.size_toArray, row_length, Nat.mul_one], by rw [Nat.mul_one]; exact List.take_of_length_le (by rw [row_length]; exact Nat.le_refl _)⟩⟩
theorem Own.has {w : World} {base : Nat} {e : TypeId} {k : IntKind} {n : Nat} {f : Nat → Int} {v : Value} (h : Own w base e k n f v) (hn : 0 < n) : ∃ g cap, v = .slice (some ⟨g, 0, none⟩) n cap ∧ base ≤ g ∧ g < w.heap.size ∧ Has w g k n f := by
  have hc := h
  rcases h.2 with ⟨rfl, h0⟩ | ⟨g, cap, cur, rfl, hb, hg, _⟩
  · omega
  · refine ⟨g, cap, rfl, hb, (Array.getElem?_eq_some_iff.1 hg).1, fun j hj => ?_, fun j _ => ?_⟩
    · have := World.ownsRow.cells hc (g := g) rfl j _ (row_get k n f j hj)
      rw [Addr.add_mid, Nat.zero_add] at this
      exact this
    · unfold World.frozen?
      rw [hg]
      simp
theorem Own.isSlice {w : World} {base : Nat} {e : TypeId} {k : IntKind} {n : Nat} {f : Nat → Int} {v : Value} (h : Own w base e k n f v) : ∃ sp cap, v = .slice sp n cap ∧ (sp = none → n = 0) ∧ ∀ j, j < n → ∃ ad, sp = some ad ∧ w.cell? (ad.add j) = some (.int k (f j)) := by
  rcases Nat.eq_zero_or_pos n with h0 | h0
  · subst h0
    rcases h.2 with ⟨rfl, _⟩ | ⟨g, cap, cur, rfl, _⟩
    · exact ⟨_, _, rfl, fun _ => rfl, fun j hj => by omega⟩
    · exact ⟨_, _, rfl, fun _ => rfl, fun j hj => by omega⟩
  · obtain ⟨g, cap, rfl, _, _, hh⟩ := h.has h0
    exact ⟨_, _, rfl, fun e => (by cases e), fun j hj => ⟨_, rfl, by rw [Addr.add_mid, Nat.zero_add]; exact hh.cell j hj⟩⟩
theorem Own.bytes {w : World} {base : Nat} {e : TypeId} {n : Nat} {f : Nat → Int} {v : Value} (h : Own w base e .u8 n f v) : ∃ sp cap, v = .slice sp n cap ∧ n ≤ cap ∧ Src w sp n f := by
  obtain ⟨sp, cap, rfl, _, hs⟩ := h.isSlice
  refine ⟨sp, cap, rfl, ?_, hs⟩
  rcases h.2 with ⟨hv, h0⟩ | ⟨g, cap', cur, hv, _, _, hnc, _⟩
  · omega
  · injection hv with _ _ hc
    omega
theorem Kr.own {w w' : World} {m : Nat} {l : List (Nat × IntKind × Nat × (Nat → Int))} {R : List (Nat × Nat)} (h : Kr w m l R w') {g : Nat} {k : IntKind} {n : Nat} {f : Nat → Int} (hg : m ≤ g) (hl : g < w'.heap.size) (hf : Has w' g k n f) : Kr w w'.heap.size ((g, k, n, f) :: l) R w' :=
  ⟨fun p hp => by
    rcases List.mem_cons.1 hp with rfl | hp
    · exact ⟨hf, hl⟩
    · exact ⟨(h.rows p hp).1, Nat.lt_of_lt_of_le (h.rows p hp).2 h.size⟩, fun q hq => ⟨(h.room q hq).1, Nat.lt_of_lt_of_le (h.room q hq).2.1 h.size, (h.room q hq).2.2⟩, fun p hp q hq => by
    rcases List.mem_cons.1 hp with rfl | hp
    · have := (h.room q hq).2.1; simp only; omega
    · exact h.apart p hp q hq, Nat.le_refl _, Nat.le_trans h.base h.size, h.below⟩
section
variable {P : Program}
structure One (P : Program) (e : TypeId) (k : IntKind) (bytes : Nat) : Prop where
  info : (P.info? e).map (fun i => (i.zero, i.bytes, i.size)) = some (some (.int k 0), bytes, 1)
theorem run_append_Own {w : World} {base : Nat} {t ty e : TypeId} {k : IntKind} {bytes n : Nat} {f : Nat → Int} {v : Value} (ht : P.underlying t = some (.slice e)) (he : One P e k bytes) (h : Own w base e k n f v)
    (sp : Option Addr) (m c : Nat) (hv : Nat → Int) (hs : ∀ j, j < m → ∃ ad, sp = some ad ∧ w.cell? (ad.add j) = some (.int k (hv j))) (hz : sp = none → c = 0) (h63 : n + m ≤ maxLen) (hb : (n + m) * bytes ≤ 140737488355328) (hbase : base ≤ w.heap.size) :
    ∃ v' w', (Builtin.append_ #[t, t] ty #[v, .slice sp m c]).run P w = .ok v' w' ∧ Own w' base e k (n + m) (app f n hv) v' ∧ w.grownBy w' v.ownBlock ∧ (∀ g, v'.ownBlock = some g → v.ownBlock = some g ∨ g = w.heap.size) := by
  obtain ⟨i, hi, hq⟩ := Option.map_eq_some_iff.1 he.info
  simp only [Prod.mk.injEq] at hq
  obtain ⟨h1, h2, h3⟩ := hq
  cases sp with
  | none =>
    have hm : m = 0 := by
      rcases Nat.eq_zero_or_pos m with h0 | h0
      · exact h0
      · obtain ⟨ad, e, _⟩ := hs 0 h0; cases e
    subst hm
    obtain rfl := hz rfl
    refine ⟨v, w, run_append_owned_none (P := P) (w := w) base t ty e i 1 ht hi v n _ h, h.congr fun j hj => by unfold app; rw [if_pos hj], ⟨rfl, rfl, rfl, Nat.le_refl _, fun _ _ _ => rfl⟩, fun g hg => .inl hg⟩
  | some ad =>
    obtain ⟨v', w', hr, ho, hg, _⟩ := run_append_own (P := P) w base t ty e i (.int k 0) 1 bytes ht hi h1 h3 h2 rfl (by decide) v n _ h ad m c (row k m hv) (by rw [row_length, Nat.mul_one]) (fun j u hu => by
      obtain ⟨hj, rfl⟩ := row_get_some hu
      obtain ⟨ad', e', hc⟩ := hs j hj
      injection e' with e'
      subst e'
      exact hc) (row_one k m hv) h63 hb hbase
    rw [row_app] at ho
    refine ⟨v', w', hr, ho, hg, ?_⟩
    have hnews : ∀ j u, (row k m hv)[j]? = some u → w.cell? (ad.add j) = some u := fun j u hu => by
      obtain ⟨hj, rfl⟩ := row_get_some hu
      obtain ⟨ad', e', hc⟩ := hs j hj
      injection e' with e'
      subst e'
      exact hc
    have hml : (row k m hv).length = m * i.size := by rw [row_length, h3, Nat.mul_one]
    rcases h.2 with ⟨rfl, rfl⟩ | ⟨g, cap, cur, rfl, hbg, hgg, hnc, hcm, hcs, htake⟩
    · by_cases hm : m = 0
      · subst hm
        have hr2 : (Builtin.append_ #[t, t] ty #[.slice none 0 0, .slice (some ad) 0 c]).run P w = .ok (.slice none 0 0) w := by
          simp [Builtin.append_, run_underlying ht, sizeOf, typeInfo, hi, Builtin.lenOf, Builtin.firstCells, loadCells, loadCellsFrom]
        rw [hr] at hr2
        injection hr2 with hv' _
        rw [hv']
        intro g hg'
        cases hg'
      · have hr2 := run_append_nil (P := P) w t ty e i (.int k 0) ht hi h1 ad m c (row k m hv) hml hnews (by omega) (by unfold maxLen at h63; omega) (by rw [h2]; have := hb; simp only [Nat.zero_add] at this; omega)
        rw [hr] at hr2
        injection hr2 with hv' _
        rw [hv']
        intro g hg'
        injection hg' with hg'
        exact .inr hg'.symm
    · by_cases hroom : n + m ≤ cap
      · have hr2 := run_append_room (P := P) w t ty e i ht hi g n cap cur hgg ad m c (row k m hv) hml hnews (row_one k m hv) hroom (by rw [hml, hcs, h3]; omega)
        rw [hr] at hr2
        injection hr2 with hv' _
        rw [hv']
        intro g' hg'
        exact .inl hg'
      · have hr2 := run_append_grow (P := P) w t ty e i (.int k 0) ht hi h1 ⟨g, 0, none⟩ n cap (row k n f) (by rw [row_length, h3, Nat.mul_one]) (World.ownsRow.cells h (g := g) rfl) ad m c (row k m hv) hml hnews (by omega) (by unfold maxLen at h63; omega) (by rw [h2]; exact growslice_fits (by omega) hb)
        rw [hr] at hr2
        injection hr2 with hv' _
        rw [hv']
        intro g' hg'
        injection hg' with hg'
        exact .inr hg'.symm
theorem appendOp {o : Oper} {a : Act} {w w' : World} (s x : Operand) (t : TypeId) (v u r : Value) (ho : o.op = .call { callee := .builtin .append, args := #[s, x], argTypes := #[t, t] }) (hs : a.eval s = v) (hx : a.eval x = u) (hr : (Builtin.append_ #[t, t] o.type #[v, u]).run P w = .ok r w') :
    (execOp a.eval o).run P w = .ok (.value r) w' := by
  unfold execOp
  simp only [ho, resolve, invoke, builtin, Sem.run_bind, Sem.run_pure, Result.andThen_ok, List.map_toArray, List.map_cons, List.map_nil, hs, hx, hr]
end
end
abbrev V : Int := 4294967296
def had (x y : Int) : Int := (x + y) % 4294967296
def hxr (x y : Int) : Int := bits .xor .u32 x y
def hrl (n : Nat) (x : Int) : Int := bits .or .u32 (x * 2 ^ n % 4294967296) (x / 2 ^ (32 - n))
theorem had_eq (x y : Int) : had x y = (x + y) % 4294967296 := rfl
theorem had_in (x y : Int) : 0 ≤ had x y ∧ had x y < V := by rw [had_eq]; simp only [V]; omega
theorem hxr_in (x y : Int) (hx : 0 ≤ x ∧ x < V) (hy : 0 ≤ y ∧ y < V) : 0 ≤ hxr x y ∧ hxr x y < V := by
  obtain ⟨x, rfl⟩ := Int.eq_ofNat_of_zero_le hx.1
  obtain ⟨y, rfl⟩ := Int.eq_ofNat_of_zero_le hy.1
  have h := Nat.xor_lt_two_pow (n := 32) (show x < 2 ^ 32 by have := hx.2; simp only [V] at this; omega) (show y < 2 ^ 32 by have := hy.2; simp only [V] at this; omega)
  unfold hxr
  rw [u32_xor_nat x y (by have := hx.2; simp only [V] at this; omega) (by have := hy.2; simp only [V] at this; omega)]
  simp only [V]
  omega
theorem hrl_in (n : Nat) (x : Int) (hx : 0 ≤ x ∧ x < V) : 0 ≤ hrl n x ∧ hrl n x < V := by
  obtain ⟨x, rfl⟩ := Int.eq_ofNat_of_zero_le hx.1
  have hx2 : x < 4294967296 := by have := hx.2; simp only [V] at this; omega
  unfold hrl
  have e1 : (x : Int) * 2 ^ n % 4294967296 = ((x * 2 ^ n % 4294967296 : Nat) : Int) := by rw [Int.natCast_emod, Int.natCast_mul, Int.natCast_pow]; rfl
  have e2 : (x : Int) / 2 ^ (32 - n) = ((x / 2 ^ (32 - n) : Nat) : Int) := by rw [Int.natCast_ediv, Int.natCast_pow]; rfl
  have i1 : x * 2 ^ n % 4294967296 < 4294967296 := Nat.mod_lt _ (by decide)
  have i2 : x / 2 ^ (32 - n) < 4294967296 := Nat.lt_of_le_of_lt (Nat.div_le_self _ _) hx2
  rw [e1, e2, u32_or_nat _ _ i1 i2]
  have h := Nat.or_lt_two_pow (n := 32) i1 i2
  simp only [V]
  omega
def hA (a b : Int) : Int := had a b
def hD (p : Nat) (a b d : Int) : Int := hrl p (hxr d (had a b))
def hC (p : Nat) (a b c d : Int) : Int := had c (hD p a b d)
def hB (p q : Nat) (a b c d : Int) : Int := hrl q (hxr b (hC p a b c d))
def qA (a b c d : Int) : Int := hA (hA a b) (hB 16 12 a b c d)
def qB (a b c d : Int) : Int := hB 8 7 (hA a b) (hB 16 12 a b c d) (hC 16 a b c d) (hD 16 a b d)
def qC (a b c d : Int) : Int := hC 8 (hA a b) (hB 16 12 a b c d) (hC 16 a b c d) (hD 16 a b d)
def qD (a b c d : Int) : Int := hD 8 (hA a b) (hB 16 12 a b c d) (hD 16 a b d)
def quad (a b c d : Int) : Nat → Int
  | 0 => a
  | 1 => b
  | 2 => c
  | 3 => d
  | _ + 4 => 0
def pA (i : Nat) : Nat := i % 4
def pB (i : Nat) : Nat := 4 + (i + i / 4) % 4
def pC (i : Nat) : Nat := 8 + (i + 2 * (i / 4)) % 4
def pD (i : Nat) : Nat := 12 + (i + 3 * (i / 4)) % 4
def tAt (s : Nat → Int) (i : Nat) : Nat → Int :=
  upd (upd (upd (upd s (pA i) (qA (s (pA i)) (s (pB i)) (s (pC i)) (s (pD i)))) (pB i) (qB (s (pA i)) (s (pB i)) (s (pC i)) (s (pD i)))) (pC i) (qC (s (pA i)) (s (pB i)) (s (pC i)) (s (pD i)))) (pD i) (qD (s (pA i)) (s (pB i)) (s (pC i)) (s (pD i)))
theorem pA_lt (i : Nat) : pA i < 4 := Nat.mod_lt _ (by decide)
theorem pB_lt (i : Nat) : pB i < 8 := by have := Nat.mod_lt (i + i / 4) (show 4 > 0 by decide); unfold pB; omega
theorem pC_lt (i : Nat) : pC i < 12 := by have := Nat.mod_lt (i + 2 * (i / 4)) (show 4 > 0 by decide); unfold pC; omega
theorem pD_lt (i : Nat) : pD i < 16 := by have := Nat.mod_lt (i + 3 * (i / 4)) (show 4 > 0 by decide); unfold pD; omega
def htN (s : Nat → Int) : Nat → Nat → Int
  | 0 => s
  | i + 1 => tAt (htN s i) i
def drN (s : Nat → Int) : Nat → Nat → Int
  | 0 => s
  | n + 1 => htN (drN s n) 8
def six (x0 x1 x2 x3 x4 x5 x6 x7 x8 x9 x10 x11 x12 x13 x14 x15 : Int) : Nat → Int
  | 0 => x0
  | 1 => x1
  | 2 => x2
  | 3 => x3
  | 4 => x4
  | 5 => x5
  | 6 => x6
  | 7 => x7
  | 8 => x8
  | 9 => x9
  | 10 => x10
  | 11 => x11
  | 12 => x12
  | 13 => x13
  | 14 => x14
  | 15 => x15
  | _ + 16 => 0
theorem six_in {M : Int} (x0 x1 x2 x3 x4 x5 x6 x7 x8 x9 x10 x11 x12 x13 x14 x15 : Int) (h0 : 0 ≤ x0 ∧ x0 < M) (h1 : 0 ≤ x1 ∧ x1 < M) (h2 : 0 ≤ x2 ∧ x2 < M) (h3 : 0 ≤ x3 ∧ x3 < M) (h4 : 0 ≤ x4 ∧ x4 < M) (h5 : 0 ≤ x5 ∧ x5 < M) (h6 : 0 ≤ x6 ∧ x6 < M) (h7 : 0 ≤ x7 ∧ x7 < M) (h8 : 0 ≤ x8 ∧ x8 < M) (h9 : 0 ≤ x9 ∧ x9 < M) (h10 : 0 ≤ x10 ∧ x10 < M) (h11 : 0 ≤ x11 ∧ x11 < M) (h12 : 0 ≤ x12 ∧ x12 < M) (h13 : 0 ≤ x13 ∧ x13 < M) (h14 : 0 ≤ x14 ∧ x14 < M) (h15 : 0 ≤ x15 ∧ x15 < M) : In M 16 (six x0 x1 x2 x3 x4 x5 x6 x7 x8 x9 x10 x11 x12 x13 x14 x15)
  | 0, _ => h0
  | 1, _ => h1
  | 2, _ => h2
  | 3, _ => h3
  | 4, _ => h4
  | 5, _ => h5
  | 6, _ => h6
  | 7, _ => h7
  | 8, _ => h8
  | 9, _ => h9
  | 10, _ => h10
  | 11, _ => h11
  | 12, _ => h12
  | 13, _ => h13
  | 14, _ => h14
  | 15, _ => h15
  | _ + 16, h => by omega
def w32 (a : Nat → Int) (o : Nat) : Int := a o + a (o + 1) * 256 + a (o + 2) * 65536 + a (o + 3) * 16777216
def b32 (x : Int) : Nat → Int
  | 0 => x % 256
  | 1 => x / 256 % 256
  | 2 => x / 65536 % 256
  | 3 => x / 16777216 % 256
  | _ + 4 => 0
theorem b32_in (x : Int) : In 256 4 (b32 x)
  | 0, _ => by show 0 ≤ x % 256 ∧ x % 256 < 256; omega
  | 1, _ => by show 0 ≤ x / 256 % 256 ∧ x / 256 % 256 < 256; omega
  | 2, _ => by show 0 ≤ x / 65536 % 256 ∧ x / 65536 % 256 < 256; omega
  | 3, _ => by show 0 ≤ x / 16777216 % 256 ∧ x / 16777216 % 256 < 256; omega
  | _ + 4, h => by omega
def hst (k : Nat → Int) (c : Int) (n : Nat → Int) : Nat → Int := six 1634760805 857760878 2036477234 1797285236 (w32 k 0) (w32 k 4) (w32 k 8) (w32 k 12) (w32 k 16) (w32 k 20) (w32 k 24) (w32 k 28) c (w32 n 0) (w32 n 4) (w32 n 8)
def hwd (k : Nat → Int) (c : Int) (n : Nat → Int) (i : Nat) : Int := had (drN (hst k c n) 10 i) (hst k c n i)
def hblk (k : Nat → Int) (c : Int) (n : Nat → Int) : Nat → Int := fun j => b32 (hwd k c n (j / 4)) (j % 4)
theorem hblk_in (k : Nat → Int) (c : Int) (n : Nat → Int) (m : Nat) : In 256 m (hblk k c n) := fun j _ => b32_in _ _ (Nat.mod_lt _ (by decide))
def hxor (k : Nat → Int) (c : Int) (n : Nat → Int) (z : Nat → Int) : Nat → Int := fun j => bits .xor .u8 (z j) (hblk k ((c + ((j / 64 : Nat) : Int)) % 4294967296) n (j % 64))
theorem u8_xor_in (x y : Int) (hx : 0 ≤ x ∧ x < 256) (hy : 0 ≤ y ∧ y < 256) : 0 ≤ bits .xor .u8 x y ∧ bits .xor .u8 x y < 256 := by
  obtain ⟨x, rfl⟩ := Int.eq_ofNat_of_zero_le hx.1
  obtain ⟨y, rfl⟩ := Int.eq_ofNat_of_zero_le hy.1
  rw [u8_xor_nat x y (by omega) (by omega)]
  have h := Nat.xor_lt_two_pow (n := 8) (x := x) (y := y) (by omega) (by omega)
  omega
theorem hxor_in (k : Nat → Int) (c : Int) (n : Nat → Int) (z : Nat → Int) (m : Nat) (hz : In 256 m z) : In 256 m (hxor k c n z) := fun j hj => u8_xor_in _ _ (hz j hj) (hblk_in _ _ _ 64 _ (Nat.mod_lt _ (by decide)))
theorem or_step32 (M s : Nat) (hM : M = 2 ^ s) (hb : M * 256 ≤ 4294967296) (a x : Int) (h0 : 0 ≤ a) (h1 : a < M) (x0 : 0 ≤ x) (x1 : x < 256) :
    bits BinOp.or IntKind.u32 a (x % 4294967296 * (M : Int) % 4294967296) = a + x * (M : Int) := by
  obtain ⟨a, rfl⟩ := Int.eq_ofNat_of_zero_le h0
  obtain ⟨x, rfl⟩ := Int.eq_ofNat_of_zero_le x0
  have hx : x * M + M ≤ 256 * M := by rw [← Nat.succ_mul]; exact Nat.mul_le_mul_right M (by omega)
  have e1 : (x : Int) % 4294967296 = (x : Int) := by omega
  have e2 : (x : Int) * (M : Int) = ((x * M : Nat) : Int) := (Int.natCast_mul x M).symm
  have e3 : ((x * M : Nat) : Int) % 4294967296 = ((x * M : Nat) : Int) := by omega
  rw [e1, e2, e3, u32_or_nat a (x * M) (by omega) (by omega)]
  have h := Nat.two_pow_add_eq_or_of_lt (i := s) (b := a) (by omega) x
  rw [← hM, Nat.mul_comm M x] at h
  rw [Nat.or_comm, ← h]
  omega
theorem glued32 (x0 x1 x2 x3 : Int) (h0 : 0 ≤ x0 ∧ x0 < 256) (h1 : 0 ≤ x1 ∧ x1 < 256) (h2 : 0 ≤ x2 ∧ x2 < 256) (h3 : 0 ≤ x3 ∧ x3 < 256) :
    bits BinOp.or IntKind.u32 (bits BinOp.or IntKind.u32 (bits BinOp.or IntKind.u32 (x0 % 4294967296) (x1 % 4294967296 * 256 % 4294967296)) (x2 % 4294967296 * 65536 % 4294967296)) (x3 % 4294967296 * 16777216 % 4294967296) = x0 + x1 * 256 + x2 * 65536 + x3 * 16777216 := by
  have e0 : x0 % 4294967296 = x0 := by omega
  have e1 := or_step32 256 8 (by decide) (by decide) (x0) x1 (by omega) (by omega) h1.1 h1.2
  have e2 := or_step32 65536 16 (by decide) (by decide) (x0 + x1 * ((256 : Nat) : Int)) x2 (by omega) (by omega) h2.1 h2.2
  have e3 := or_step32 16777216 24 (by decide) (by decide) (x0 + x1 * ((256 : Nat) : Int) + x2 * ((65536 : Nat) : Int)) x3 (by omega) (by omega) h3.1 h3.2
  simp only [Int.cast_ofNat_Int] at e1 e2 e3
  rw [e0, e1, e2, e3]
def dig (x : Nat) : Nat → Int := fun j => ((x / 256 ^ j % 256 : Nat) : Int)
theorem dig_in (x n : Nat) : In 256 n (dig x) := fun j _ => by
  have : x / 256 ^ j % 256 < 256 := Nat.mod_lt _ (by decide)
  unfold dig
  omega
theorem val_dig (x : Nat) : ∀ n, val 256 (dig x) n = ((x % 256 ^ n : Nat) : Int)
  | 0 => by show (0 : Int) = ((x % 1 : Nat) : Int); rw [Nat.mod_one]; rfl
  | n + 1 => by
    have e : val 256 (dig x) (n + 1) = val 256 (dig x) n + 256 ^ n * dig x n := rfl
    rw [e, val_dig x n, Nat.pow_succ, Nat.mod_mul, Int.natCast_add, Int.natCast_mul, Int.natCast_pow]
    rfl
theorem dig_shr (x i : Nat) (hi : i < 8) : (x : Int) / 2 ^ min (((8 * i : Nat) : Int)).toNat IntKind.i64.bits = ((x / 256 ^ i : Nat) : Int) := by
  rw [Int.toNat_natCast, Nat.min_eq_left (by show 8 * i ≤ 64; omega), Nat.pow_mul 2 8 i |> fun h => show ((2 : Int) ^ (8 * i)) = ((256 ^ i : Nat) : Int) from by rw [show ((256 : Nat) ^ i) = 2 ^ (8 * i) from h.symm, Int.natCast_pow]; rfl]
  exact (Int.natCast_ediv x (256 ^ i)).symm
def up16 (n : Nat) : Nat := (n + 15) / 16 * 16
def amt (bl sl : Nat) : Nat := up16 bl + up16 sl + 8 + 8
def amx (bl : Nat) (b : Nat → Int) (sl : Nat) (s : Nat → Int) : Nat → Int := app (app (app (padz bl b) (up16 bl) (padz sl s)) (up16 bl + up16 sl) (dig bl)) (up16 bl + up16 sl + 8) (dig sl)
theorem app_in' (n m : Nat) (f g : Nat → Int) (hf : In 256 n f) (hg : In 256 m g) : In 256 (n + m) (app f n g) := fun j hj => by
  unfold app
  split
  · exact hf j (by assumption)
  · exact hg _ (by omega)
theorem amx_in (bl : Nat) (b : Nat → Int) (sl : Nat) (s : Nat → Int) (hb : In 256 bl b) (hs : In 256 sl s) : In 256 (amt bl sl) (amx bl b sl s) :=
  app_in' _ 8 _ _ (app_in' _ 8 _ _ (app_in' _ _ _ _ (padz_in bl b hb _) (padz_in sl s hs _)) (dig_in bl 8)) (dig_in sl 8)
theorem padz_congr (n : Nat) (f g : Nat → Int) (h : ∀ j, j < n → f j = g j) : padz n f = padz n g := by
  funext j
  unfold padz
  by_cases e : j < n
  · rw [if_pos e, if_pos e, h j e]
  · rw [if_neg e, if_neg e]
def atg (k n : Nat → Int) (bl : Nat) (b : Nat → Int) (sl : Nat) (s : Nat → Int) : Int := ptag (hblk k 0 n) (amt bl sl) (amx bl b sl s)
def atag (k n : Nat → Int) (bl : Nat) (b : Nat → Int) (sl : Nat) (s : Nat → Int) : Nat → Int := dig (atg k n bl b sl s).toNat
theorem atg_in (k n : Nat → Int) (bl : Nat) (b : Nat → Int) (sl : Nat) (s : Nat → Int) : 0 ≤ atg k n bl b sl s ∧ atg k n bl b sl s < 340282366920938463463374607431768211456 := by
  unfold atg ptag
  generalize acc _ _ _ _ % Q + pS _ = x
  omega
theorem atag_in (k n : Nat → Int) (bl : Nat) (b : Nat → Int) (sl : Nat) (s : Nat → Int) (m : Nat) : In 256 m (atag k n bl b sl s) := dig_in _ _
theorem atag_val (k n : Nat → Int) (bl : Nat) (b : Nat → Int) (sl : Nat) (s : Nat → Int) : val 256 (atag k n bl b sl s) 16 = atg k n bl b sl s := by
  have h := atg_in k n bl b sl s
  unfold atag
  rw [val_dig, show (256 : Nat) ^ 16 = 340282366920938463463374607431768211456 from by decide]
  omega
theorem atg_congr (k n : Nat → Int) (bl : Nat) (b b' : Nat → Int) (sl : Nat) (s s' : Nat → Int) (hb : ∀ j, j < bl → b j = b' j) (hs : ∀ j, j < sl → s j = s' j) : atg k n bl b sl s = atg k n bl b' sl s' := by
  unfold atg amx
  rw [padz_congr bl b b' hb, padz_congr sl s s' hs]
theorem tag_is {f : Nat → Int} {k n : Nat → Int} {bl : Nat} {b : Nat → Int} {sl : Nat} {s : Nat → Int} (hf : In 256 16 f) (hv : val 256 f 16 = atg k n bl b sl s) : ∀ j, j < 16 → f j = atag k n bl b sl s j :=
  val_inj 256 (by decide) f _ 16 hf (atag_in _ _ _ _ _ _ _) (by rw [hv, atag_val])
def aout (k n : Nat → Int) (bl : Nat) (b : Nat → Int) (len : Nat) (z : Nat → Int) : Nat → Int := app (hxor k 1 n z) len (atag k n bl b len (hxor k 1 n z))
theorem aout_in (k n : Nat → Int) (bl : Nat) (b : Nat → Int) (len : Nat) (z : Nat → Int) (hz : In 256 len z) : In 256 (len + 16) (aout k n bl b len z) := app_in' _ _ _ _ (hxor_in k 1 n z len hz) (atag_in _ _ _ _ _ _ _)
abbrev aok (k n : Nat → Int) (bl : Nat) (b : Nat → Int) (len : Nat) (z : Nat → Int) : Prop := 16 ≤ len ∧ atg k n bl b (len - 16) z = val 256 (fun j => z (len - 16 + j)) 16
def aoL (k n : Nat → Int) (bl : Nat) (b : Nat → Int) (len : Nat) (z : Nat → Int) : Nat := if aok k n bl b len z then len - 16 else 0
def aoE (k n : Nat → Int) (bl : Nat) (b : Nat → Int) (len : Nat) (z : Nat → Int) : Int := if len < 16 then 3 else if aok k n bl b len z then 0 else 70
end Go.Proofs.YtgfpflcoknpbdaaDoor
