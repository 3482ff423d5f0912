/- A call, what is taken off its answer, and a new block beside it, in whatever order; no program stands in this. -/
import Derived.Test.YthephehecapmhaaDoorKq
namespace Go.Proofs.YthephehecapmhaaDoor
open Go.RowKit

section
variable {P : Program} {ops : Array Oper} {Q : Exit → Act → World → Prop} {md : Region.Mode} {S : World → Prop}
theorem wanted_none {o : Oper} (h : o.guard = none) (y : Nat → Option Bool) : Region.wanted o y = true := by unfold Region.wanted; rw [h]
theorem eval_swap {a : Act} {o : Oper} (x t : Tmp) (u v : Value) (hs : ∀ cs b, o.op ≠ .select cs b) (h : t ∉ o.looksAt ops) (hne : t ≠ x) : execOp ((a.put (some t) v).put (some x) u).eval o = execOp (a.put (some x) u).eval o := by
  rw [put_comm' _ _ _ hne, eval_one (ops := ops) t _ hs h]
theorem soloH {c b p1 p2 p3 : Nat} {xc xb x1 x2 x3 : Oper} (r t q1 q2 q3 : Tmp) {n w0 : Nat} {f : FuncId} {g : Array Value} (cs : Array Value) (ty : TypeId) (V : Value → Prop) (U1 U2 U3 : Value → Value) {fuel : Nat} {L : Array Bool} {a : Act} {w : World}
    (ic : ops[c]? = some xc) (ib : ops[b]? = some xb) (i1 : ops[p1]? = some x1) (i2 : ops[p2]? = some x2) (i3 : ops[p3]? = some x3)
    (nc : b ≠ c) (n1 : b ≠ p1) (n2 : b ≠ p2) (n3 : b ≠ p3)
    (tr : t ≠ r) (t1 : t ≠ q1) (t2 : t ≠ q2) (t3 : t ≠ q3)
    (kc : xc.dst = some r) (kb : xb.dst = some t) (k1 : x1.dst = some q1) (k2 : x2.dst = some q2) (k3 : x3.dst = some q3)
    (gc : xc.guard = none) (gb : xb.guard = none) (g1 : x1.guard = none) (g2 : x2.guard = none) (g3 : x3.guard = none)
    (sc : ∀ cs b, xc.op ≠ .select cs b) (s1 : ∀ cs b, x1.op ≠ .select cs b) (s2 : ∀ cs b, x2.op ≠ .select cs b) (s3 : ∀ cs b, x3.op ≠ .select cs b)
    (lc : t ∉ xc.looksAt ops) (l1 : t ∉ x1.looksAt ops) (l2 : t ∉ x2.looksAt ops) (l3 : t ∉ x3.looksAt ops)
    (hs : Region.noSelect ops = true)
    (m0 : Region.ready md ops L = [c, b]) (m1 : Region.ready md ops (L.setIfInBounds b true) = [c])
    (a1 : Region.free md ops (L.setIfInBounds c true) p1 = true) (a1' : (Region.ready md ops (L.setIfInBounds c true)).contains p1 = true)
    (a2 : Region.free md ops ((L.setIfInBounds c true).setIfInBounds p1 true) p2 = true) (a2' : (Region.ready md ops ((L.setIfInBounds c true).setIfInBounds p1 true)).contains p2 = true)
    (a3 : Region.free md ops (((L.setIfInBounds c true).setIfInBounds p1 true).setIfInBounds p2 true) p3 = true) (a3' : (Region.ready md ops (((L.setIfInBounds c true).setIfInBounds p1 true).setIfInBounds p2 true)).contains p3 = true)
    (a4 : Region.ready md ops ((((L.setIfInBounds c true).setIfInBounds p1 true).setIfInBounds p2 true).setIfInBounds p3 true) = [b])
    (b1 : Region.free md ops ((L.setIfInBounds b true).setIfInBounds c true) p1 = true) (b1' : (Region.ready md ops ((L.setIfInBounds b true).setIfInBounds c true)).contains p1 = true)
    (b2 : Region.free md ops (((L.setIfInBounds b true).setIfInBounds c true).setIfInBounds p1 true) p2 = true) (b2' : (Region.ready md ops (((L.setIfInBounds b true).setIfInBounds c true).setIfInBounds p1 true)).contains p2 = true)
    (b3 : Region.free md ops ((((L.setIfInBounds b true).setIfInBounds c true).setIfInBounds p1 true).setIfInBounds p2 true) p3 = true) (b3' : (Region.ready md ops ((((L.setIfInBounds b true).setIfInBounds c true).setIfInBounds p1 true).setIfInBounds p2 true)).contains p3 = true)
    (ec : ∀ w, (execOp a.eval xc).run P w = .ok (.enter f g) w)
    (eb : ∀ (b : Act) (w : World), (execOp b.eval xb).run P w = .ok (.value (.pointer (some ⟨w.heap.size, 0, none⟩))) (w.alloc (.cells cs ty)))
    (e1 : ∀ v, V v → ∀ w, (execOp (a.put (some r) v).eval x1).run P w = .ok (.value (U1 v)) w)
    (e2 : ∀ v, V v → ∀ w, (execOp ((a.put (some r) v).put (some q1) (U1 v)).eval x2).run P w = .ok (.value (U2 v)) w)
    (e3 : ∀ v, V v → ∀ w, (execOp (((a.put (some r) v).put (some q1) (U1 v)).put (some q2) (U2 v)).eval x3).run P w = .ok (.value (U3 v)) w)
    (hQ : ∀ (d : Option Tmp) (v : Value) c a w, Q (.panic c) (a.put d v) w → Q (.panic c) a w)
    (hn : ∀ w : World, (w.alloc (.cells cs ty)).there w.heap.size 0 n)
    (hS : S w) (hS0 : ∀ w, S w → w0 ≤ w.heap.size) (hSc : ∀ w w', S w → Below w.heap.size w w' → S w')
    (C : ∀ w, S w → Calls P f g w fun e w' => ∃ v, e = .returned v ∧ V v ∧ Below w.heap.size w w')
    (hK : ∀ v B w', V v → S w' → Fb n w0 B w' →
      wpAnyH P md ops Q S fuel (((((L.setIfInBounds c true).setIfInBounds p1 true).setIfInBounds p2 true).setIfInBounds p3 true).setIfInBounds b true)
        (((((a.put (some r) v).put (some q1) (U1 v)).put (some q2) (U2 v)).put (some q3) (U3 v)).put (some t) (.pointer (some ⟨B, 0, none⟩))) w') :
    wpAnyH P md ops Q S (fuel + 5) L a w := by
  have hSa : ∀ w : World, S w → S (w.alloc (.cells cs ty)) := fun w h => hSc w _ h ((Below.refl w.heap.size w).alloc (Nat.le_refl _) _)
  have hNew : ∀ w : World, S w → Fb n w0 w.heap.size (w.alloc (.cells cs ty)) := fun w h => ⟨hS0 w h, by simp, hn w⟩
  refine wpAnyH_all m0 (by simp) fun i hi => ?_
  simp only [List.mem_cons, List.not_mem_nil, or_false] at hi
  rcases hi with rfl | rfl
  · refine callOp ic gc (ec w) (C w hS) fun e w1 hR => ?_
    obtain ⟨v, rfl, hv, l⟩ := hR
    have hs1 := hSc _ _ hS l
    refine ⟨v, rfl, hs1, ?_⟩
    rw [kc]
    refine pureH (some q1) k1 (U1 v) i1 (wanted_none g1 _) (e1 v hv) hs a1 a1' (hQ _ _) hs1 ?_
    refine pureH (some q2) k2 (U2 v) i2 (wanted_none g2 _) (e2 v hv) hs a2 a2' (hQ _ _) hs1 ?_
    refine pureH (some q3) k3 (U3 v) i3 (wanted_none g3 _) (e3 v hv) hs a3 a3' (hQ _ _) hs1 ?_
    refine wpAnyH_all a4 (by simp) fun j hj => ?_
    obtain rfl := List.mem_singleton.1 hj
    refine allocOp ib gb (eb _ w1) ?_
    rw [kb]
    exact ⟨hSa _ hs1, hK v _ _ hv (hSa _ hs1) (hNew _ hs1)⟩
  · refine allocOp ib gb (eb _ w) ?_
    rw [kb]
    refine ⟨hSa _ hS, ?_⟩
    have hs0 := hSa _ hS
    have hb0 := hNew _ hS
    generalize (w.alloc (.cells cs ty)) = w1 at hs0 hb0 ⊢
    refine wpAnyH_all m1 (by simp) fun j hj => ?_
    obtain rfl := List.mem_singleton.1 hj
    refine callOp ic gc (by rw [eval_one (ops := ops) t _ sc lc]; exact ec w1) (C w1 hs0) fun e w2 hR => ?_
    obtain ⟨v, rfl, hv, l⟩ := hR
    have hs1 := hSc _ _ hs0 l
    refine ⟨v, rfl, hs1, ?_⟩
    rw [kc]
    generalize w.heap.size = B0 at hb0 ⊢
    have d1 : ∀ w', (execOp ((a.put (some t) (.pointer (some ⟨B0, 0, none⟩))).put (some r) v).eval x1).run P w' = .ok (.value (U1 v)) w' := fun w' => by
      rw [eval_swap (ops := ops) r t _ _ s1 l1 tr]; exact e1 v hv w'
    have d2 : ∀ w', (execOp (((a.put (some t) (.pointer (some ⟨B0, 0, none⟩))).put (some r) v).put (some q1) (U1 v)).eval x2).run P w' = .ok (.value (U2 v)) w' := fun w' => by
      rw [put_comm' _ _ _ tr, eval_swap (ops := ops) q1 t _ _ s2 l2 t1]; exact e2 v hv w'
    have d3 : ∀ w', (execOp ((((a.put (some t) (.pointer (some ⟨B0, 0, none⟩))).put (some r) v).put (some q1) (U1 v)).put (some q2) (U2 v)).eval x3).run P w' = .ok (.value (U3 v)) w' := fun w' => by
      rw [put_comm' _ _ _ tr, put_comm' _ _ _ t1, eval_swap (ops := ops) q2 t _ _ s3 l3 t2]; exact e3 v hv w'
    refine pureH (some q1) k1 (U1 v) i1 (wanted_none g1 _) d1 hs b1 b1' (hQ _ _) hs1 ?_
    refine pureH (some q2) k2 (U2 v) i2 (wanted_none g2 _) d2 hs b2 b2' (hQ _ _) hs1 ?_
    refine pureH (some q3) k3 (U3 v) i3 (wanted_none g3 _) d3 hs b3 b3' (hQ _ _) hs1 ?_
    refine wpAnyH_cast (hK v B0 _ hv hs1 (hb0.call l)) ?_ ?_
    · rw [Array.setIfInBounds_comm _ _ nc, Array.setIfInBounds_comm _ _ n1, Array.setIfInBounds_comm _ _ n2, Array.setIfInBounds_comm _ _ n3]
    · rw [put_comm' _ _ _ tr, put_comm' _ _ _ t1, put_comm' _ _ _ t2, put_comm' _ _ _ t3]
end
end Go.Proofs.YthephehecapmhaaDoor
