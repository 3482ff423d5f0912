/- A chain of calls and a new block beside it, in whatever order; no program stands in this. -/
import Derived.Test.YthpcbijeahcpmaaDoorKr
namespace Go.Proofs.YthpcbijeahcpmaaDoor
open Go.RowKit

/-- A block that was made on the way, of n cells. -/
structure Fb (n w0 B : Nat) (w : World) : Prop where
  lo : w0 ≤ B
  hi : B < w.heap.size
  th : w.there B 0 n
theorem Fb.call {n w0 B : Nat} {w w' : World} (h : Fb n w0 B w) (l : Below w.heap.size w w') : Fb n w0 B w' := ⟨h.lo, Nat.lt_of_lt_of_le h.hi l.size, there_below h.th l h.hi⟩
theorem Fb.alloc {n w0 B : Nat} {w : World} (h : Fb n w0 B w) (o : Obj) : Fb n w0 B (w.alloc o) := h.call ((Below.refl w.heap.size w).alloc (Nat.le_refl _) o)

/-- A block that was made on the way holds a row. -/
theorem Kr.land {w w' : World} {m : Nat} {l : List (Nat × IntKind × Nat × (Nat → Int))} {R : List (Nat × Nat)} (h : Kr w m l R w') {n B : Nat} (b : Fb n m B w') (k : IntKind) (f : Nat → Int) :
    Kr w w'.heap.size ((B, k, n, f) :: l) R (w'.setCells B 0 (row k n f)) := by
  have hc := h.past B b.lo (row k n f)
  have i1 := b.hi
  have j1 := b.lo
  refine ⟨fun p hp => ?_, fun q hq => ⟨(hc.room q hq).1, Nat.lt_of_lt_of_le (hc.room q hq).2.1 h.size, (hc.room q hq).2.2⟩, fun p hp q hq => ?_, by rw [size_setAll]; exact Nat.le_refl _, Nat.le_trans h.base h.size, hc.below⟩
  · rcases List.mem_cons.1 hp with rfl | hp
    · exact ⟨Has.all b.th k f, i1⟩
    · exact ⟨(hc.rows p hp).1, Nat.lt_of_lt_of_le (h.rows p hp).2 h.size⟩
  · have := (h.room q hq).2.1
    rcases List.mem_cons.1 hp with rfl | hp
    · simp only; omega
    · exact h.apart p hp q hq

section
variable {P : Program} {ops : Array Oper} {Q : Exit → Act → World → Prop} {md : Region.Mode} {S : World → Prop}

theorem callOp {i : Nat} {oi : Oper} {f : FuncId} {args : Array Value} {R : Ending → World → Prop} {K : Act → World → Prop} {a : Act} {w : World} (hi : ops[i]? = some oi) (hg : oi.guard = none) (he : (execOp a.eval oi).run P w = .ok (.enter f args) w)
    (hc : Calls P f args w R) (hK : ∀ e w', R e w' → ∃ v, e = .returned v ∧ K (a.put oi.dst v) w') : wpOp P ops Q i K a w := by
  have hw : Region.wanted oi (yielded ops a.tmps) = true := by unfold Region.wanted; rw [hg]
  unfold wpOp
  simp only [hi, hw, if_true]
  refine .inl ?_
  unfold Oper.wp
  rw [he]
  exact hc.mono fun e w' hR => by
    obtain ⟨v, rfl, h⟩ := hK e w' hR
    exact h
theorem allocOp {i : Nat} {oi : Oper} {v : Value} {K : Act → World → Prop} {a : Act} {w w' : World} (hi : ops[i]? = some oi) (hg : oi.guard = none) (he : (execOp a.eval oi).run P w = .ok (.value v) w')
    (h : K (a.put oi.dst v) w') : wpOp P ops Q i K a w := by
  have hw : Region.wanted oi (yielded ops a.tmps) = true := by unfold Region.wanted; rw [hg]
  unfold wpOp
  simp only [hi, hw, if_true]
  refine .inl ?_
  unfold Oper.wp
  rw [he]
  exact h
theorem wpAnyH_cast {fuel : Nat} {l l' : Array Bool} {a a' : Act} {w : World} (h : wpAnyH P md ops Q S fuel l a w) (el : l' = l) (ea : a' = a) : wpAnyH P md ops Q S fuel l' a' w := by subst el ea; exact h
theorem eval_two {a : Act} {o : Oper} (x y : Tmp) (u v : Value) (hs : ∀ cs b, o.op ≠ .select cs b) (h1 : x ∉ o.looksAt ops) (h2 : y ∉ o.looksAt ops) : execOp ((a.put (some x) u).put (some y) v).eval o = execOp a.eval o := by
  rw [execOp_put (ops := ops) o hs _ _ _ (fun d hd => by injection hd with hd; subst hd; exact h2), execOp_put (ops := ops) o hs _ _ _ (fun d hd => by injection hd with hd; subst hd; exact h1)]
theorem eval_one {a : Act} {o : Oper} (x : Tmp) (u : Value) (hs : ∀ cs b, o.op ≠ .select cs b) (h1 : x ∉ o.looksAt ops) : execOp (a.put (some x) u).eval o = execOp a.eval o :=
  execOp_put (ops := ops) o hs _ _ _ (fun d hd => by injection hd with hd; subst hd; exact h1)
theorem put_comm' (a : Act) {x y : Tmp} (v u : Value) (h : x ≠ y) : (a.put (some x) v).put (some y) u = (a.put (some y) u).put (some x) v :=
  Act.put_comm a v u (fun d hd e => by injection hd with hd; injection e with e; exact h (hd.trans e.symm))


/-- One call behind the other, and a new block that may be made at any time: what is to be shown where it is made last. -/
def Chain (P : Program) (ops : Array Oper) (Q : Exit → Act → World → Prop) (md : Region.Mode) (S : World → Prop) (z : Nat) (t : Tmp) (n w0 fuel : Nat) : Nat → Array Bool → Act → Prop
  | 0, L, a => Region.ready md ops L = [z] ∧ ∀ B w, S w → Fb n w0 B w → wpAnyH P md ops Q S fuel (L.setIfInBounds z true) (a.put (some t) (.pointer (some ⟨B, 0, none⟩))) w
  | k + 1, L, a => ∃ (c : Nat) (r : Tmp) (x : Oper) (f : FuncId) (g : Array Value) (V : Value → Prop), Region.ready md ops L = [c, z] ∧ Region.ready md ops (L.setIfInBounds z true) = [c] ∧ ops[c]? = some x ∧ x.guard = none ∧ x.dst = some r ∧ z ≠ c ∧ t ≠ r ∧ (∀ cs b, x.op ≠ .select cs b) ∧ t ∉ x.looksAt ops ∧ (∀ w, (execOp a.eval x).run P w = .ok (.enter f g) w) ∧
      (∀ w, S w → Calls P f g w fun e w' => ∃ v, e = .returned v ∧ V v ∧ Below w.heap.size w w') ∧ ∀ v, V v → Chain P ops Q md S z t n w0 fuel k (L.setIfInBounds c true) (a.put (some r) v)
theorem Chain.last {z : Nat} {t : Tmp} {n w0 fuel : Nat} {L : Array Bool} {a : Act} (hr : Region.ready md ops L = [z]) (h : ∀ B w, S w → Fb n w0 B w → wpAnyH P md ops Q S fuel (L.setIfInBounds z true) (a.put (some t) (.pointer (some ⟨B, 0, none⟩))) w) : Chain P ops Q md S z t n w0 fuel 0 L a := ⟨hr, h⟩
theorem Chain.call {z : Nat} {t : Tmp} {n w0 fuel k : Nat} {L : Array Bool} {a : Act} (c : Nat) (r : Tmp) {x : Oper} {f : FuncId} {g : Array Value} (V : Value → Prop) (hr : Region.ready md ops L = [c, z]) (hr' : Region.ready md ops (L.setIfInBounds z true) = [c]) (hx : ops[c]? = some x) (hg : x.guard = none) (hd : x.dst = some r)
    (hz : z ≠ c) (ht : t ≠ r) (hs : ∀ cs b, x.op ≠ .select cs b) (hl : t ∉ x.looksAt ops) (he : ∀ w, (execOp a.eval x).run P w = .ok (.enter f g) w)
    (hc : ∀ w, S w → Calls P f g w fun e w' => ∃ v, e = .returned v ∧ V v ∧ Below w.heap.size w w') (h : ∀ v, V v → Chain P ops Q md S z t n w0 fuel k (L.setIfInBounds c true) (a.put (some r) v)) : Chain P ops Q md S z t n w0 fuel (k + 1) L a :=
  ⟨c, r, x, f, g, V, hr, hr', hx, hg, hd, hz, ht, hs, hl, he, hc, h⟩

theorem Chain.made {z : Nat} {t : Tmp} {n w0 fuel k : Nat} {L : Array Bool} {a : Act} (h : Chain P ops Q md S z t n w0 fuel k L a) (hSc : ∀ w w', S w → Below w.heap.size w w' → S w') :
    ∀ B w, S w → Fb n w0 B w → wpAnyH P md ops Q S (fuel + k) (L.setIfInBounds z true) (a.put (some t) (.pointer (some ⟨B, 0, none⟩))) w := by
  induction k generalizing L a with
  | zero => exact fun B w hS hB => h.2 B w hS hB
  | succ k ih =>
    obtain ⟨c, r, x, f, g, V, _, hr', hx, hg, hd, hz, ht, hs, hl, he, hc, h'⟩ := h
    intro B w hS hB
    refine wpAnyH_all hr' (by simp) fun j hj => ?_
    obtain rfl := List.mem_singleton.1 hj
    refine callOp hx hg (by rw [eval_one (ops := ops) t _ hs hl]; exact he w) (hc w hS) fun e w' hR => ?_
    obtain ⟨v, rfl, hv, l⟩ := hR
    have hs1 := hSc _ _ hS l
    refine ⟨v, rfl, hs1, ?_⟩
    rw [hd]
    refine wpAnyH_cast (ih (h' v hv) B w' hs1 (hB.call l)) ?_ ?_
    · rw [Array.setIfInBounds_comm _ _ hz]
    · rw [put_comm' _ _ _ ht]
theorem Chain.go {z : Nat} {t : Tmp} {n w0 fuel k : Nat} {L : Array Bool} {a : Act} (h : Chain P ops Q md S z t n w0 fuel k L a) {xz : Oper} (cs : Array Value) (ty : TypeId) (iz : ops[z]? = some xz) (gz : xz.guard = none) (dz : xz.dst = some t)
    (ez : ∀ (b : Act) (w : World), (execOp b.eval xz).run P w = .ok (.value (.pointer (some ⟨w.heap.size, 0, none⟩))) (w.alloc (.cells cs ty)))
    (hn : ∀ w : World, (w.alloc (.cells cs ty)).there w.heap.size 0 n) (hS0 : ∀ w, S w → w0 ≤ w.heap.size) (hSc : ∀ w w', S w → Below w.heap.size w w' → S w') :
    ∀ w, S w → wpAnyH P md ops Q S (fuel + k + 1) L a w := by
  have hSa : ∀ w : World, S w → S (w.alloc (.cells cs ty)) := fun w h => hSc w _ h ((Below.refl w.heap.size w).alloc (Nat.le_refl _) _)
  have hNew : ∀ w : World, S w → Fb n w0 w.heap.size (w.alloc (.cells cs ty)) := fun w h => ⟨hS0 w h, by simp, hn w⟩
  induction k generalizing L a with
  | zero =>
    intro w hS
    refine wpAnyH_all h.1 (by simp) fun j hj => ?_
    obtain rfl := List.mem_singleton.1 hj
    refine allocOp iz gz (ez _ w) ?_
    rw [dz]
    exact ⟨hSa _ hS, h.2 _ _ (hSa _ hS) (hNew _ hS)⟩
  | succ k ih =>
    obtain ⟨c, r, x, f, g, V, hr, hr', hx, hg, hd, hz, ht, hs, hl, he, hc, h'⟩ := h
    intro w hS
    refine wpAnyH_all hr (by simp) fun j hj => ?_
    simp only [List.mem_cons, List.not_mem_nil, or_false] at hj
    rcases hj with rfl | rfl
    · refine callOp hx hg (he w) (hc w hS) fun e w' hR => ?_
      obtain ⟨v, rfl, hv, l⟩ := hR
      have hs1 := hSc _ _ hS l
      refine ⟨v, rfl, hs1, ?_⟩
      rw [hd]
      exact ih (h' v hv) w' hs1
    · refine allocOp iz gz (ez _ w) ?_
      rw [dz]
      exact ⟨hSa _ hS, Chain.made (Chain.call c r V hr hr' hx hg hd hz ht hs hl he hc h') hSc _ _ (hSa _ hS) (hNew _ hS)⟩

/-- The one operation that may come up answers a value and changes the world. -/
theorem actH {i : Nat} {oi : Oper} (dst : Option Tmp) (hdst : oi.dst = dst) {fuel : Nat} {listed : Array Bool} {a : Act} {w w' : World} (v : Value) (hr : Region.ready md ops listed = [i]) (hi : ops[i]? = some oi)
    (hw : Region.wanted oi (yielded ops a.tmps) = true) (he : (execOp a.eval oi).run P w = .ok (.value v) w') (hS : S w')
    (h : wpAnyH P md ops Q S fuel (listed.setIfInBounds i true) (a.put dst v) w') : wpAnyH P md ops Q S (fuel + 1) listed a w :=
  ⟨fun h0 => (by rw [h0] at hr; cases hr), fun j hj => by
    rw [hr] at hj
    obtain rfl := List.mem_singleton.1 hj
    unfold wpOp
    simp only [hi, hw, if_true]
    refine .inl ?_
    unfold Oper.wp
    rw [he]
    subst hdst
    exact ⟨hS, h⟩⟩
theorem actL {o : Oper} {rest : List Oper} {a : Act} {w w' : World} (v : Value) (hw : Region.wanted o (yielded ops a.tmps) = true) (he : (execOp a.eval o).run P w = .ok (.value v) w')
    (h : wpList P ops Q rest (a.put o.dst v) w') : wpList P ops Q (o :: rest) a w := by
  unfold wpList
  rw [if_pos hw]
  refine .inl ?_
  unfold Oper.wp
  rw [he]
  exact h
/-- Bytes are copied from one row to the head of another. -/
theorem run_copy {o : Oper} {a : Act} {w : World} (d s : Operand) (dT sT elem : TypeId) (ho : o.op = .call { callee := .builtin .copy, args := #[d, s], argTypes := #[dT, sT] }) (hu : P.underlying dT = some (.slice elem)) (hsz : (P.info? elem).map (·.size) = some 1)
    (b dLen dCap c co sLen sCap m n : Nat) (k : IntKind) (f g : Nat → Int) (hd : a.eval d = .slice (some ⟨b, 0, none⟩) dLen dCap) (hs : a.eval s = .slice (some ⟨c, co, none⟩) sLen sCap) (hm : m = Nat.min sLen dLen) (hmn : m ≤ n) (hb : w.there b 0 n)
    (hc : ∀ j, j < m → w.cell? ⟨c, co + j, none⟩ = some (.int k (f (co + j)))) (hg : ∀ j, j < m → f (co + j) = g j) :
    (execOp a.eval o).run P w = .ok (.value (.int .i64 (m : Int))) (w.setCells b 0 (row k m g)) := by
  have hrun := run_copy_cells (P := P) w dT sT o.type elem b 0 dLen dCap ⟨c, co, none⟩ sLen sCap (row k m g) hu hsz (by rw [row_length]; exact hm) (fun j v hv => by
    obtain ⟨hj, rfl⟩ := row_get_some hv
    rw [Addr.add_mid, hc j hj, hg j hj]) (fun j hj => by rw [row_length] at hj; exact (hb j (by omega)).1) (fun j hj => by rw [row_length] at hj; exact (hb j (by omega)).2) (row_one k m g)
  rw [row_length] at hrun
  simp [execOp, ho, resolve, invoke, builtin, hd, hs, hrun, Result.andThen, goInt]
end
end Go.Proofs.YthpcbijeahcpmaaDoor
