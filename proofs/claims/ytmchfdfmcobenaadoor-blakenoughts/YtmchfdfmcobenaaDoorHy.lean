/- Loads that one operation waits for by way of others: they too may be taken first; no program stands in this. -/
import Derived.Test.YtmchfdfmcobenaaDoorHold
namespace Go.Proofs.YtmchfdfmcobenaaDoor
open Go.RowKit

/-- Number c waits for number i, by at most so many steps. -/
def depB (md : Region.Mode) (ops : Array Oper) (i : Nat) : Nat → Nat → Bool
  | 0, _ => false
  | f + 1, c => match ops[c]? with
    | none => false
    | some oc => oc.after.any fun e => Region.binds md e && (e.on == i || depB md ops i f e.on)
/-- What has come up has come up behind all that it waits for. -/
def Closed (md : Region.Mode) (ops : Array Oper) (l : Array Bool) : Prop := ∀ j oj, ops[j]? = some oj → l.getD j false = true → ∀ e ∈ oj.after, Region.binds md e = true → l.getD e.on false = true
def closedB (md : Region.Mode) (ops : Array Oper) (l : Array Bool) : Bool := (List.range ops.size).all fun j => match ops[j]? with
  | none => true
  | some oj => !l.getD j false || oj.after.all fun e => !Region.binds md e || l.getD e.on false
theorem closed_of {md : Region.Mode} {ops : Array Oper} {l : Array Bool} (h : closedB md ops l = true) : Closed md ops l := by
  intro j oj hj hl e he hb
  have hlt : j < ops.size := (Array.getElem?_eq_some_iff.1 hj).1
  have h1 := List.all_eq_true.1 h j (List.mem_range.2 hlt)
  simp only [hj, hl, Bool.not_true, Bool.false_or] at h1
  have h2 := Array.all_eq_true'.1 h1 e he
  simpa only [hb, Bool.not_true, Bool.false_or] using h2
theorem listed_mono {l : Array Bool} {i j : Nat} (h : l.getD j false = true) : (l.setIfInBounds i true).getD j false = true := by
  rw [Array.getD_eq_getD_getElem?] at h ⊢
  by_cases e : i = j
  · subst e
    cases hc : l[i]? with
    | none => rw [hc] at h; cases h
    | some b =>
      have hb := (Array.getElem?_eq_some_iff.1 hc).1
      rw [Array.getElem?_setIfInBounds_self_of_lt hb]; rfl
  · rw [Array.getElem?_setIfInBounds_ne e]; exact h
theorem Closed.next {md : Region.Mode} {ops : Array Oper} {l : Array Bool} (h : Closed md ops l) {i : Nat} (hi : i ∈ Region.ready md ops l) : Closed md ops (l.setIfInBounds i true) := by
  intro j oj hj hl e he hb
  by_cases hji : j = i
  · subst hji
    obtain ⟨_, o, ho, hall⟩ := mem_ready.1 hi
    obtain rfl : o = oj := Option.some.inj (ho.symm.trans hj)
    exact listed_mono (hall e he hb)
  · rw [getD_set_ne false (Ne.symm hji)] at hl
    exact listed_mono (h j oj hj hl e he hb)
theorem dep_listed {md : Region.Mode} {ops : Array Oper} {l : Array Bool} {i : Nat} (h : Closed md ops l) : ∀ (f c : Nat), (∀ oc, ops[c]? = some oc → ∀ e ∈ oc.after, Region.binds md e = true → l.getD e.on false = true) → depB md ops i f c = true → l.getD i false = true
  | 0, _, _, hd => by cases hd
  | f + 1, c, hc, hd => by
    unfold depB at hd
    cases ho : ops[c]? with
    | none => rw [ho] at hd; cases hd
    | some oc =>
      rw [ho] at hd
      obtain ⟨e, he, hb⟩ := Array.any_eq_true'.1 hd
      simp only [Bool.and_eq_true, Bool.or_eq_true, beq_iff_eq] at hb
      have hl := hc oc ho e he hb.1
      rcases hb.2 with h1 | h1
      · rw [← h1]; exact hl
      · exact dep_listed h f e.on (fun o2 ho2 e2 he2 hb2 => h e.on o2 ho2 hl e2 he2 hb2) h1

section
variable {P : Program} {ops : Array Oper} {Q : Exit → Act → World → Prop} {md : Region.Mode} {S : World → Prop} {c : Nat}
theorem wpAnyC_firstT {i f : Nat} {oi : Oper} {v : Value} (hi : ops[i]? = some oi) (hdep : depB md ops i f c = true) (hsel : ∀ (j : Nat) (o : Oper) cs b, ops[j]? = some o → o.op ≠ .select cs b)
    (hQ : ∀ p a w, Q (.panic p) (a.put oi.dst v) w → Q (.panic p) a w) : ∀ (n : Nat) (l : Array Bool) (a : Act) (w : World),
      Closed md ops l → (∀ j oj, ops[j]? = some oj → j ≠ i → l.getD j true = false → (∀ e ∈ oj.after, Region.binds md e = true → e.on ≠ i) → oi.apart ops oj = true) →
      l.getD c true = false → i ∈ Region.ready md ops l → YieldsIf P ops S oi v a → S w →
      wpAnyC P md ops Q S c n (l.setIfInBounds i true) (a.put oi.dst v) w → wpAnyC P md ops Q S c (n + 1) l a w := by
  have waits : ∀ (l : Array Bool) (j : Nat), Closed md ops l → i ∈ Region.ready md ops l → j ∈ Region.ready md ops l → j ≠ c := fun l j hcl hr hj e => by
    subst e
    obtain ⟨_, o, ho, hall⟩ := mem_ready.1 hj
    exact not_both (mem_ready.1 hr).1 (dep_listed hcl f j (fun oc hoc => by obtain rfl : o = oc := Option.some.inj (ho.symm.trans hoc); exact hall) hdep)
  intro n
  induction n with
  | zero =>
    intro l a w _ _ _ hr hy hS H
    refine ⟨fun h => (by rw [h] at hr; cases hr), fun j hj => ?_⟩
    by_cases hji : j = i
    · subst hji; exact hy.wpOp hi hS ⟨fun _ => hS, H⟩
    · have := ready_mono hj hji
      rw [H.1] at this
      cases this
  | succ n ih =>
    intro l a w hcl hfree hlc hr hy hS H
    refine ⟨fun h => (by rw [h] at hr; cases hr), fun j hj => ?_⟩
    by_cases hji : j = i
    · subst hji; exact hy.wpOp hi hS ⟨fun _ => hS, H⟩
    · have hjc := waits l j hcl hr hj
      have hic := waits l i hcl hr hr
      obtain ⟨hjun, oj, hoj, hall⟩ := mem_ready.1 hj
      have hnot : ∀ e ∈ oj.after, Region.binds md e = true → e.on ≠ i := fun e he hb heq => not_both (mem_ready.1 hr).1 (by rw [← heq]; exact hall e he hb)
      have h2 := wpOp_putIf hoj (hfree j oj hoj hji hjun hnot) (fun cs b => hsel i oi cs b hi) (fun cs b => hsel j oj cs b hoj) hQ hy (H.2 j (ready_mono hj hji))
      have hfree' : ∀ k ok, ops[k]? = some ok → k ≠ i → (l.setIfInBounds j true).getD k true = false → (∀ e ∈ ok.after, Region.binds md e = true → e.on ≠ i) → oi.apart ops ok = true := fun k ok hk hki hun hno => by
        refine hfree k ok hk hki ?_ hno
        by_cases hjk : j = k
        · subst hjk; exact hjun
        · rw [getD_set_ne true hjk] at hun; exact hun
      refine wpOp_mono (fun a' w' h3 => ?_) h2
      have hS' : S w' := h3.2.1 (by rw [getD_set_ne true hjc, getD_set_ne true hic]; exact hlc)
      refine ⟨fun _ => hS', ih (l.setIfInBounds j true) a' w' (hcl.next hj) hfree' (by rw [getD_set_ne true hjc]; exact hlc) (ready_mono hr (Ne.symm hji)) h3.1 hS' ?_⟩
      rw [Array.setIfInBounds_comm _ _ hji]
      exact h3.2.2
/-- One cell is loaded; number c waits for it, be it by way of others. -/
theorem cellCT {i : Nat} (f : Nat) {oi : Oper} (dst : Option Tmp) (hdst : oi.dst = dst) {n : Nat} {l : Array Bool} {a : Act} {w : World} (k : IntKind) (v : Value) (b o : Nat) (ty : TypeId) (x : Operand) (hi : ops[i]? = some oi) (hdep : depB md ops i f c = true) (hcl : closedB md ops l = true)
    (ho : oi.op = .load ty x) (hx : a.eval x = .pointer (some ⟨b, o, none⟩)) (hw : Region.wanted oi (yielded ops a.tmps) = true)
    (hs : Region.noSelect ops = true) (hf : Region.free md ops l i = true) (hl : l.getD c true = false) (hr : (Region.ready md ops l).contains i = true)
    (hQ : ∀ p a w, Q (.panic p) (a.put dst v) w → Q (.panic p) a w) (hu : P.underlying ty = some (.int k))
    (hS : S w) (hh : ∀ w, S w → w.cell? ⟨b, o, none⟩ = some v)
    (h : wpAnyC P md ops Q S c n (l.setIfInBounds i true) (a.put dst v) w) : wpAnyC P md ops Q S c (n + 1) l a w := by
  subst hdst
  refine wpAnyC_firstT hi hdep (Region.noSelect_spec hs) hQ n l a w (closed_of hcl) (Region.free_spec hi hf) hl (by simpa using hr) (.inl ⟨hw, fun w hSw => ?_⟩) hS h
  unfold execOp
  simp only [ho, hx, Instr.loadAt, Instr.sureAddr, Sem.run_bind, Sem.run_pure, Result.andThen_ok, run_loadVar_cell w b o ty k v (hh w hSw) hu]
end
end Go.Proofs.YtmchfdfmcobenaaDoor
