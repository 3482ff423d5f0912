/- Two calls one behind the other and two new blocks beside them, in whatever order; no program stands in this. -/
import Derived.Test.YthephehecapmhabDoorApi
namespace Go.Proofs.YthephehecapmhabDoor
open Go.RowKit

/-- A block that was made on the way, of n cells. -/
structure Fb (n w0 B : Nat) (w : World) : Prop where
  lo : w0 ≤ B
  hi : B < w.heap.size
  th : w.there B 0 n
theorem Fb.call {n w0 B : Nat} {w w' : World} (h : Fb n w0 B w) (l : Below w.heap.size w w') : Fb n w0 B w' := ⟨h.lo, Nat.lt_of_lt_of_le h.hi l.size, there_below h.th l h.hi⟩
theorem Fb.alloc {n w0 B : Nat} {w : World} (h : Fb n w0 B w) (o : Obj) : Fb n w0 B (w.alloc o) := h.call ((Below.refl w.heap.size w).alloc (Nat.le_refl _) o)

section
variable {P : Program} {ops : Array Oper} {Q : Exit → Act → World → Prop} {md : Region.Mode} {S : World → Prop}

theorem callOp {i : Nat} {oi : Oper} {f : FuncId} {args : Array Value} {R : Ending → World → Prop} {K : Act → World → Prop} {a : Act} {w : World} (hi : ops[i]? = some oi) (hg : oi.guard = none) (he : (execOp a.eval oi).run P w = .ok (.enter f args) w)
    (hc : Calls P f args w R) (hK : ∀ e w', R e w' → ∃ v, e = .returned v ∧ K (a.put oi.dst v) w') : wpOp P ops Q i K a w := by
  have hw : Region.wanted oi (yielded ops a.tmps) = true := by unfold Region.wanted; rw [hg]
  unfold wpOp
  simp only [hi, hw, if_true]
  refine .inl ?_
  unfold Oper.wp
  rw [he]
  exact hc.mono fun e w' hR => by
    obtain ⟨v, rfl, h⟩ := hK e w' hR
    exact h
theorem allocOp {i : Nat} {oi : Oper} {v : Value} {K : Act → World → Prop} {a : Act} {w w' : World} (hi : ops[i]? = some oi) (hg : oi.guard = none) (he : (execOp a.eval oi).run P w = .ok (.value v) w')
    (h : K (a.put oi.dst v) w') : wpOp P ops Q i K a w := by
  have hw : Region.wanted oi (yielded ops a.tmps) = true := by unfold Region.wanted; rw [hg]
  unfold wpOp
  simp only [hi, hw, if_true]
  refine .inl ?_
  unfold Oper.wp
  rw [he]
  exact h
theorem wpAnyH_cast {fuel : Nat} {l l' : Array Bool} {a a' : Act} {w : World} (h : wpAnyH P md ops Q S fuel l a w) (el : l' = l) (ea : a' = a) : wpAnyH P md ops Q S fuel l' a' w := by subst el ea; exact h
theorem eval_two {a : Act} {o : Oper} (x y : Tmp) (u v : Value) (hs : ∀ cs b, o.op ≠ .select cs b) (h1 : x ∉ o.looksAt ops) (h2 : y ∉ o.looksAt ops) : execOp ((a.put (some x) u).put (some y) v).eval o = execOp a.eval o := by
  rw [execOp_put (ops := ops) o hs _ _ _ (fun d hd => by injection hd with hd; subst hd; exact h2), execOp_put (ops := ops) o hs _ _ _ (fun d hd => by injection hd with hd; subst hd; exact h1)]
theorem eval_one {a : Act} {o : Oper} (x : Tmp) (u : Value) (hs : ∀ cs b, o.op ≠ .select cs b) (h1 : x ∉ o.looksAt ops) : execOp (a.put (some x) u).eval o = execOp a.eval o :=
  execOp_put (ops := ops) o hs _ _ _ (fun d hd => by injection hd with hd; subst hd; exact h1)
theorem put_comm' (a : Act) {x y : Tmp} (v u : Value) (h : x ≠ y) : (a.put (some x) v).put (some y) u = (a.put (some y) u).put (some x) v :=
  Act.put_comm a v u (fun d hd e => by injection hd with hd; injection e with e; exact h (hd.trans e.symm))

theorem pairH {c1 c2 a1 a2 : Nat} {x1 x2 y1 y2 : Oper} (r1 r2 t1 t2 : Tmp) {n w0 : Nat} {f1 f2 : FuncId} {g1 g2 : Array Value} (c : Array Value) (t : TypeId) (V1 V2 : Value → Prop) {fuel : Nat} {L : Array Bool} {a : Act} {w : World}
    (i1 : ops[c1]? = some x1) (i2 : ops[c2]? = some x2) (j1 : ops[a1]? = some y1) (j2 : ops[a2]? = some y2)
    (n12 : c1 ≠ a1) (n13 : c1 ≠ a2) (n21 : c2 ≠ a1) (n22 : c2 ≠ a2) (n23 : a1 ≠ a2)
    (p2 : r1 ≠ t1) (p3 : r1 ≠ t2) (p4 : r2 ≠ t1) (p5 : r2 ≠ t2) (p6 : t1 ≠ t2)
    (k1 : x1.dst = some r1) (k2 : x2.dst = some r2) (k3 : y1.dst = some t1) (k4 : y2.dst = some t2) (q1 : x1.guard = none) (q2 : x2.guard = none) (q3 : y1.guard = none) (q4 : y2.guard = none)
    (s1 : ∀ cs b, x1.op ≠ .select cs b) (s2 : ∀ cs b, x2.op ≠ .select cs b)
    (l1 : t1 ∉ x1.looksAt ops) (l2 : t2 ∉ x1.looksAt ops) (l3 : t1 ∉ x2.looksAt ops) (l4 : t2 ∉ x2.looksAt ops) (l5 : r1 ∉ x2.looksAt ops)
    (m000 : Region.ready md ops L = [c1, a1, a2])
    (m010 : Region.ready md ops (L.setIfInBounds a1 true) = [c1, a2])
    (m001 : Region.ready md ops (L.setIfInBounds a2 true) = [c1, a1])
    (m011 : Region.ready md ops ((L.setIfInBounds a1 true).setIfInBounds a2 true) = [c1])
    (m100 : Region.ready md ops (L.setIfInBounds c1 true) = [c2, a1, a2])
    (m110 : Region.ready md ops ((L.setIfInBounds c1 true).setIfInBounds a1 true) = [c2, a2])
    (m101 : Region.ready md ops ((L.setIfInBounds c1 true).setIfInBounds a2 true) = [c2, a1])
    (m111 : Region.ready md ops (((L.setIfInBounds c1 true).setIfInBounds a1 true).setIfInBounds a2 true) = [c2])
    (m200 : Region.ready md ops ((L.setIfInBounds c1 true).setIfInBounds c2 true) = [a1, a2])
    (m210 : Region.ready md ops (((L.setIfInBounds c1 true).setIfInBounds c2 true).setIfInBounds a1 true) = [a2])
    (m201 : Region.ready md ops (((L.setIfInBounds c1 true).setIfInBounds c2 true).setIfInBounds a2 true) = [a1])
    (e1 : ∀ w, (execOp a.eval x1).run P w = .ok (.enter f1 g1) w) (e2 : ∀ w, (execOp a.eval x2).run P w = .ok (.enter f2 g2) w)
    (e3 : ∀ (b : Act) (w : World), (execOp b.eval y1).run P w = .ok (.value (.pointer (some ⟨w.heap.size, 0, none⟩))) (w.alloc (.cells c t)))
    (e4 : ∀ (b : Act) (w : World), (execOp b.eval y2).run P w = .ok (.value (.pointer (some ⟨w.heap.size, 0, none⟩))) (w.alloc (.cells c t)))
    (hn : ∀ w : World, (w.alloc (.cells c t)).there w.heap.size 0 n)
    (hS : S w) (hS0 : ∀ w, S w → w0 ≤ w.heap.size) (hSc : ∀ w w', S w → Below w.heap.size w w' → S w')
    (C1 : ∀ w, S w → Calls P f1 g1 w fun e w' => ∃ v, e = .returned v ∧ V1 v ∧ Below w.heap.size w w')
    (C2 : ∀ w, S w → Calls P f2 g2 w fun e w' => ∃ v, e = .returned v ∧ V2 v ∧ Below w.heap.size w w')
    (hK : ∀ v1 v2 B1 B2 w', V1 v1 → V2 v2 → S w' → Fb n w0 B1 w' → Fb n w0 B2 w' → B1 ≠ B2 →
      wpAnyH P md ops Q S fuel ((((L.setIfInBounds c1 true).setIfInBounds c2 true).setIfInBounds a1 true).setIfInBounds a2 true) ((((a.put (some r1) v1).put (some r2) v2).put (some t1) (.pointer (some ⟨B1, 0, none⟩))).put (some t2) (.pointer (some ⟨B2, 0, none⟩))) w') :
    wpAnyH P md ops Q S (fuel + 4) L a w := by
  have hSa : ∀ w : World, S w → S (w.alloc (.cells c t)) := fun w h => hSc w _ h ((Below.refl w.heap.size w).alloc (Nat.le_refl _) _)
  have hNew : ∀ w : World, S w → Fb n w0 w.heap.size (w.alloc (.cells c t)) := fun w h => ⟨hS0 w h, by simp, hn w⟩
  have s210 : ∀ v1 v2 B1 w', V1 v1 → V2 v2 → S w' → Fb n w0 B1 w' → wpAnyH P md ops Q S (fuel + 1) (((L.setIfInBounds c1 true).setIfInBounds c2 true).setIfInBounds a1 true) (((a.put (some r1) v1).put (some r2) v2).put (some t1) (.pointer (some ⟨B1, 0, none⟩))) w' := by
    intro v1 v2 B1 w' h1 h2 hs hb
    refine wpAnyH_all m210 (by simp) fun i hi => ?_
    obtain rfl := List.mem_singleton.1 hi
    refine allocOp j2 q4 (e4 _ w') ?_
    rw [k4]
    exact ⟨hSa _ hs, hK v1 v2 B1 _ _ h1 h2 (hSa _ hs) (hb.alloc _) (hNew _ hs) (by have := hb.hi; omega)⟩
  have s201 : ∀ v1 v2 B2 w', V1 v1 → V2 v2 → S w' → Fb n w0 B2 w' → wpAnyH P md ops Q S (fuel + 1) (((L.setIfInBounds c1 true).setIfInBounds c2 true).setIfInBounds a2 true) (((a.put (some r1) v1).put (some r2) v2).put (some t2) (.pointer (some ⟨B2, 0, none⟩))) w' := by
    intro v1 v2 B2 w' h1 h2 hs hb
    refine wpAnyH_all m201 (by simp) fun i hi => ?_
    obtain rfl := List.mem_singleton.1 hi
    refine allocOp j1 q3 (e3 _ w') ?_
    rw [k3]
    exact ⟨hSa _ hs, wpAnyH_cast (hK v1 v2 _ B2 _ h1 h2 (hSa _ hs) (hNew _ hs) (hb.alloc _) (by have := hb.hi; omega)) (Array.setIfInBounds_comm _ _ n23.symm) (put_comm' _ _ _ p6.symm)⟩
  have s111 : ∀ v1 B1 B2 w', V1 v1 → S w' → Fb n w0 B1 w' → Fb n w0 B2 w' → B1 ≠ B2 → wpAnyH P md ops Q S (fuel + 1) (((L.setIfInBounds c1 true).setIfInBounds a1 true).setIfInBounds a2 true) (((a.put (some r1) v1).put (some t1) (.pointer (some ⟨B1, 0, none⟩))).put (some t2) (.pointer (some ⟨B2, 0, none⟩))) w' := by
    intro v1 B1 B2 w' h1 hs hb1 hb2 hne
    refine wpAnyH_all m111 (by simp) fun i hi => ?_
    obtain rfl := List.mem_singleton.1 hi
    refine callOp i2 q2 (by rw [eval_two (ops := ops) t1 t2 _ _ s2 l3 l4, eval_one (ops := ops) r1 _ s2 l5]; exact e2 w') (C2 w' hs) fun e w'' hR => ?_
    obtain ⟨v2, rfl, h2, l⟩ := hR
    refine ⟨v2, rfl, hSc _ _ hs l, ?_⟩
    rw [k2]
    refine wpAnyH_cast (hK v1 v2 B1 B2 _ h1 h2 (hSc _ _ hs l) (hb1.call l) (hb2.call l) hne) ?_ ?_
    · rw [Array.setIfInBounds_comm _ _ n22.symm, Array.setIfInBounds_comm _ _ n21.symm]
    · rw [put_comm' _ _ _ p5.symm, put_comm' _ _ _ p4.symm]
  have s200 : ∀ v1 v2 w', V1 v1 → V2 v2 → S w' → wpAnyH P md ops Q S (fuel + 2) ((L.setIfInBounds c1 true).setIfInBounds c2 true) ((a.put (some r1) v1).put (some r2) v2) w' := by
    intro v1 v2 w' h1 h2 hs
    refine wpAnyH_all m200 (by simp) fun i hi => ?_
    simp only [List.mem_cons, List.not_mem_nil, or_false] at hi
    rcases hi with rfl | rfl
    · refine allocOp j1 q3 (e3 _ w') ?_
      rw [k3]
      exact ⟨hSa _ hs, s210 v1 v2 _ _ h1 h2 (hSa _ hs) (hNew _ hs)⟩
    · refine allocOp j2 q4 (e4 _ w') ?_
      rw [k4]
      exact ⟨hSa _ hs, s201 v1 v2 _ _ h1 h2 (hSa _ hs) (hNew _ hs)⟩
  have s110 : ∀ v1 B1 w', V1 v1 → S w' → Fb n w0 B1 w' → wpAnyH P md ops Q S (fuel + 2) ((L.setIfInBounds c1 true).setIfInBounds a1 true) ((a.put (some r1) v1).put (some t1) (.pointer (some ⟨B1, 0, none⟩))) w' := by
    intro v1 B1 w' h1 hs hb
    refine wpAnyH_all m110 (by simp) fun i hi => ?_
    simp only [List.mem_cons, List.not_mem_nil, or_false] at hi
    rcases hi with rfl | rfl
    · refine callOp i2 q2 (by rw [eval_two (ops := ops) r1 t1 _ _ s2 l5 l3]; exact e2 w') (C2 w' hs) fun e w'' hR => ?_
      obtain ⟨v2, rfl, h2, l⟩ := hR
      refine ⟨v2, rfl, hSc _ _ hs l, ?_⟩
      rw [k2]
      exact wpAnyH_cast (s210 v1 v2 B1 _ h1 h2 (hSc _ _ hs l) (hb.call l)) (Array.setIfInBounds_comm _ _ n21.symm) (put_comm' _ _ _ p4.symm)
    · refine allocOp j2 q4 (e4 _ w') ?_
      rw [k4]
      exact ⟨hSa _ hs, s111 v1 B1 _ _ h1 (hSa _ hs) (hb.alloc _) (hNew _ hs) (by have := hb.hi; omega)⟩
  have s101 : ∀ v1 B2 w', V1 v1 → S w' → Fb n w0 B2 w' → wpAnyH P md ops Q S (fuel + 2) ((L.setIfInBounds c1 true).setIfInBounds a2 true) ((a.put (some r1) v1).put (some t2) (.pointer (some ⟨B2, 0, none⟩))) w' := by
    intro v1 B2 w' h1 hs hb
    refine wpAnyH_all m101 (by simp) fun i hi => ?_
    simp only [List.mem_cons, List.not_mem_nil, or_false] at hi
    rcases hi with rfl | rfl
    · refine callOp i2 q2 (by rw [eval_two (ops := ops) r1 t2 _ _ s2 l5 l4]; exact e2 w') (C2 w' hs) fun e w'' hR => ?_
      obtain ⟨v2, rfl, h2, l⟩ := hR
      refine ⟨v2, rfl, hSc _ _ hs l, ?_⟩
      rw [k2]
      exact wpAnyH_cast (s201 v1 v2 B2 _ h1 h2 (hSc _ _ hs l) (hb.call l)) (Array.setIfInBounds_comm _ _ n22.symm) (put_comm' _ _ _ p5.symm)
    · refine allocOp j1 q3 (e3 _ w') ?_
      rw [k3]
      exact ⟨hSa _ hs, wpAnyH_cast (s111 v1 _ B2 _ h1 (hSa _ hs) (hNew _ hs) (hb.alloc _) (by have := hb.hi; omega)) (Array.setIfInBounds_comm _ _ n23.symm) (put_comm' _ _ _ p6.symm)⟩
  have s011 : ∀ B1 B2 w', S w' → Fb n w0 B1 w' → Fb n w0 B2 w' → B1 ≠ B2 → wpAnyH P md ops Q S (fuel + 2) ((L.setIfInBounds a1 true).setIfInBounds a2 true) ((a.put (some t1) (.pointer (some ⟨B1, 0, none⟩))).put (some t2) (.pointer (some ⟨B2, 0, none⟩))) w' := by
    intro B1 B2 w' hs hb1 hb2 hne
    refine wpAnyH_all m011 (by simp) fun i hi => ?_
    obtain rfl := List.mem_singleton.1 hi
    refine callOp i1 q1 (by rw [eval_two (ops := ops) t1 t2 _ _ s1 l1 l2]; exact e1 w') (C1 w' hs) fun e w'' hR => ?_
    obtain ⟨v1, rfl, h1, l⟩ := hR
    refine ⟨v1, rfl, hSc _ _ hs l, ?_⟩
    rw [k1]
    refine wpAnyH_cast (s111 v1 B1 B2 _ h1 (hSc _ _ hs l) (hb1.call l) (hb2.call l) hne) ?_ ?_
    · rw [Array.setIfInBounds_comm _ _ n13.symm, Array.setIfInBounds_comm _ _ n12.symm]
    · rw [put_comm' _ _ _ p3.symm, put_comm' _ _ _ p2.symm]
  have s100 : ∀ v1 w', V1 v1 → S w' → wpAnyH P md ops Q S (fuel + 3) (L.setIfInBounds c1 true) (a.put (some r1) v1) w' := by
    intro v1 w' h1 hs
    refine wpAnyH_all m100 (by simp) fun i hi => ?_
    simp only [List.mem_cons, List.not_mem_nil, or_false] at hi
    rcases hi with rfl | rfl | rfl
    · refine callOp i2 q2 (by rw [eval_one (ops := ops) r1 _ s2 l5]; exact e2 w') (C2 w' hs) fun e w'' hR => ?_
      obtain ⟨v2, rfl, h2, l⟩ := hR
      refine ⟨v2, rfl, hSc _ _ hs l, ?_⟩
      rw [k2]
      exact s200 v1 v2 _ h1 h2 (hSc _ _ hs l)
    · refine allocOp j1 q3 (e3 _ w') ?_
      rw [k3]
      exact ⟨hSa _ hs, s110 v1 _ _ h1 (hSa _ hs) (hNew _ hs)⟩
    · refine allocOp j2 q4 (e4 _ w') ?_
      rw [k4]
      exact ⟨hSa _ hs, s101 v1 _ _ h1 (hSa _ hs) (hNew _ hs)⟩
  have s010 : ∀ B1 w', S w' → Fb n w0 B1 w' → wpAnyH P md ops Q S (fuel + 3) (L.setIfInBounds a1 true) (a.put (some t1) (.pointer (some ⟨B1, 0, none⟩))) w' := by
    intro B1 w' hs hb
    refine wpAnyH_all m010 (by simp) fun i hi => ?_
    simp only [List.mem_cons, List.not_mem_nil, or_false] at hi
    rcases hi with rfl | rfl
    · refine callOp i1 q1 (by rw [eval_one (ops := ops) t1 _ s1 l1]; exact e1 w') (C1 w' hs) fun e w'' hR => ?_
      obtain ⟨v1, rfl, h1, l⟩ := hR
      refine ⟨v1, rfl, hSc _ _ hs l, ?_⟩
      rw [k1]
      exact wpAnyH_cast (s110 v1 B1 _ h1 (hSc _ _ hs l) (hb.call l)) (Array.setIfInBounds_comm _ _ n12.symm) (put_comm' _ _ _ p2.symm)
    · refine allocOp j2 q4 (e4 _ w') ?_
      rw [k4]
      exact ⟨hSa _ hs, s011 B1 _ _ (hSa _ hs) (hb.alloc _) (hNew _ hs) (by have := hb.hi; omega)⟩
  have s001 : ∀ B2 w', S w' → Fb n w0 B2 w' → wpAnyH P md ops Q S (fuel + 3) (L.setIfInBounds a2 true) (a.put (some t2) (.pointer (some ⟨B2, 0, none⟩))) w' := by
    intro B2 w' hs hb
    refine wpAnyH_all m001 (by simp) fun i hi => ?_
    simp only [List.mem_cons, List.not_mem_nil, or_false] at hi
    rcases hi with rfl | rfl
    · refine callOp i1 q1 (by rw [eval_one (ops := ops) t2 _ s1 l2]; exact e1 w') (C1 w' hs) fun e w'' hR => ?_
      obtain ⟨v1, rfl, h1, l⟩ := hR
      refine ⟨v1, rfl, hSc _ _ hs l, ?_⟩
      rw [k1]
      exact wpAnyH_cast (s101 v1 B2 _ h1 (hSc _ _ hs l) (hb.call l)) (Array.setIfInBounds_comm _ _ n13.symm) (put_comm' _ _ _ p3.symm)
    · refine allocOp j1 q3 (e3 _ w') ?_
      rw [k3]
      exact ⟨hSa _ hs, wpAnyH_cast (s011 _ B2 _ (hSa _ hs) (hNew _ hs) (hb.alloc _) (by have := hb.hi; omega)) (Array.setIfInBounds_comm _ _ n23.symm) (put_comm' _ _ _ p6.symm)⟩
  refine wpAnyH_all m000 (by simp) fun i hi => ?_
  simp only [List.mem_cons, List.not_mem_nil, or_false] at hi
  rcases hi with rfl | rfl | rfl
  · refine callOp i1 q1 (e1 w) (C1 w hS) fun e w'' hR => ?_
    obtain ⟨v1, rfl, h1, l⟩ := hR
    refine ⟨v1, rfl, hSc _ _ hS l, ?_⟩
    rw [k1]
    exact s100 v1 _ h1 (hSc _ _ hS l)
  · refine allocOp j1 q3 (e3 _ w) ?_
    rw [k3]
    exact ⟨hSa _ hS, s010 _ _ (hSa _ hS) (hNew _ hS)⟩
  · refine allocOp j2 q4 (e4 _ w) ?_
    rw [k4]
    exact ⟨hSa _ hS, s001 _ _ (hSa _ hS) (hNew _ hS)⟩
end
end Go.Proofs.YthephehecapmhabDoor
