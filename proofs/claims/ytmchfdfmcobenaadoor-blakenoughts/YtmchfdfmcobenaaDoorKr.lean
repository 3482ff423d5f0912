/- Blocks that hold rows of integers through calls, blocks that are room for such rows, and steps by single cells; no program stands in them. -/
import Derived.Test.YtmchfdfmcobenaaDoorStep
namespace Go.Proofs.YtmchfdfmcobenaaDoor
open Go.RowKit

theorem there_below {w w' : World} {b n : Nat} (h : w.there b 0 n) {B : Nat} (l : Below B w w') (hb : b < B) : w'.there b 0 n := fun j hj => by
  rw [l.cell (p := ⟨b, 0 + j, none⟩) hb, l.frozen (p := ⟨b, 0 + j, none⟩) hb]; exact h j hj
theorem room_of {w : World} {b n : Nat} {k : IntKind} {f : Nat → Int} (h : w.there b 0 n) : w.there b 0 (row k n f).toArray.size := by rw [List.size_toArray, row_length]; exact h
theorem size_new (w : World) (o : Obj) : (w.alloc o).heap.size = w.heap.size + 1 := by simp

/-- The rows that the blocks of l hold, the rooms R, all below m; what stood in w stands. -/
structure Kr (w : World) (m : Nat) (l : List (Nat × IntKind × Nat × (Nat → Int))) (R : List (Nat × Nat)) (w' : World) : Prop where
  rows : ∀ p ∈ l, Has w' p.1 p.2.1 p.2.2.1 p.2.2.2 ∧ p.1 < m
  room : ∀ q ∈ R, w'.there q.1 0 q.2 ∧ q.1 < m ∧ w.heap.size ≤ q.1
  apart : ∀ p ∈ l, ∀ q ∈ R, p.1 ≠ q.1
  size : m ≤ w'.heap.size
  base : w.heap.size ≤ m
  below : Below w.heap.size w w'
section
variable {w w' w'' : World} {m : Nat} {l : List (Nat × IntKind × Nat × (Nat → Int))} {R : List (Nat × Nat)}
theorem Kr.init (w : World) : Kr w w.heap.size [] [] w := ⟨fun _ h => (by cases h), fun _ h => (by cases h), fun _ h => (by cases h), Nat.le_refl _, Nat.le_refl _, Below.refl _ _⟩
theorem Kr.drew (h : Kr w m l R w') : Kr w m l R w'.drew := ⟨fun p hp => ⟨(h.rows p hp).1.drew, (h.rows p hp).2⟩, h.room, h.apart, h.size, h.base, h.below.drew⟩
theorem Kr.call (h : Kr w m l R w') (b : Below w'.heap.size w' w'') : Kr w m l R w'' :=
  ⟨fun p hp => ⟨(h.rows p hp).1.below b (Nat.lt_of_lt_of_le (h.rows p hp).2 h.size), (h.rows p hp).2⟩,
   fun q hq => ⟨there_below (h.room q hq).1 b (Nat.lt_of_lt_of_le (h.room q hq).2.1 h.size), (h.room q hq).2⟩, h.apart, Nat.le_trans h.size b.size, h.base, h.below.trans (b.mono (Nat.le_trans h.base h.size))⟩
/-- A row in a new block. -/
theorem Kr.box (h : Kr w m l R w') (k : IntKind) (n : Nat) (f : Nat → Int) (t : TypeId) (b : Nat) (hb : b = w'.heap.size) : Kr w (b + 1) ((b, k, n, f) :: l) R (w'.alloc (.cells (row k n f).toArray t)) := by
  have hc := h.call ((Below.refl w'.heap.size w').alloc (Nat.le_refl _) (.cells (row k n f).toArray t))
  refine ⟨fun p hp => ?_, fun q hq => ⟨(hc.room q hq).1, by have := (hc.room q hq).2.1; have := h.size; omega, (hc.room q hq).2.2⟩, fun p hp q hq => ?_, by simp; omega, by have := h.base; have := h.size; omega, hc.below⟩
  · rcases List.mem_cons.1 hp with rfl | hp
    · exact ⟨Has.new w' k n f t b hb, by simp⟩
    · exact ⟨(hc.rows p hp).1, by have := (hc.rows p hp).2; have := h.size; omega⟩
  · rcases List.mem_cons.1 hp with rfl | hp
    · have := (h.room q hq).2.1; have := h.size; simp only; omega
    · exact h.apart p hp q hq
/-- Room in a new block. -/
theorem Kr.make (h : Kr w m l R w') (n : Nat) (c : Array Value) (t : TypeId) (b : Nat) (hb : b = w'.heap.size) (hn : (w'.alloc (.cells c t)).there b 0 n) : Kr w (b + 1) l ((b, n) :: R) (w'.alloc (.cells c t)) := by
  have hc := h.call ((Below.refl w'.heap.size w').alloc (Nat.le_refl _) (.cells c t))
  refine ⟨fun p hp => ⟨(hc.rows p hp).1, by have := (hc.rows p hp).2; have := h.size; omega⟩, fun q hq => ?_, fun p hp q hq => ?_, by simp; omega, by have := h.base; have := h.size; omega, hc.below⟩
  · rcases List.mem_cons.1 hq with rfl | hq
    · exact ⟨hn, by simp, by have := h.base; have := h.size; simp only; omega⟩
    · exact ⟨(hc.room q hq).1, by have := (hc.room q hq).2.1; have := h.size; omega, (hc.room q hq).2.2⟩
  · rcases List.mem_cons.1 hq with rfl | hq
    · have := (h.rows p hp).2; have := h.size; simp only; omega
    · exact h.apart p hp q hq
/-- What is stored at m or beyond, or in a room, changes no row. -/
theorem Kr.past (h : Kr w m l R w') (b : Nat) (hb : m ≤ b) (vs : List Value) : Kr w m l R (w'.setCells b 0 vs) :=
  ⟨fun p hp => ⟨(h.rows p hp).1.setAll_other _ (by have := (h.rows p hp).2; omega) 0 _, (h.rows p hp).2⟩, fun q hq => ⟨World.there_setCells (h.room q hq).1 _ _ _, (h.room q hq).2⟩, h.apart, by rw [size_setAll]; exact h.size, h.base,
   below_setAll h.below _ (Nat.le_trans h.base hb) 0 _⟩
theorem Kr.fill (h : Kr w m l R w') (b n : Nat) (hb : (b, n) ∈ R) (vs : List Value) : Kr w m l R (w'.setCells b 0 vs) :=
  ⟨fun p hp => ⟨(h.rows p hp).1.setAll_other _ (fun e => h.apart p hp _ hb e.symm) 0 _, (h.rows p hp).2⟩, fun q hq => ⟨World.there_setCells (h.room q hq).1 _ _ _, (h.room q hq).2⟩, h.apart, by rw [size_setAll]; exact h.size, h.base,
   below_setAll h.below _ (h.room _ hb).2.2 0 _⟩
theorem Kr.get (h : Kr w m l R w') (b : Nat) (k : IntKind) (n : Nat) (f : Nat → Int) (hp : (b, k, n, f) ∈ l) : Has w' b k n f := (h.rows _ hp).1
theorem Kr.roomy (h : Kr w m l R w') (b : Nat) (k : IntKind) (n : Nat) (f : Nat → Int) (hb : (b, n) ∈ R) : w'.there b 0 (row k n f).toArray.size := by rw [List.size_toArray, row_length]; exact (h.room _ hb).1
/-- A new block that was stored to. -/
theorem Kr.fresh (h : Kr w m l R w') (k : IntKind) (n : Nat) (f : Nat → Int) (c : Array Value) (t : TypeId) (hn : (w'.alloc (.cells c t)).there w'.heap.size 0 n) :
    Kr w (w'.heap.size + 1) ((w'.heap.size, k, n, f) :: l) R ((w'.alloc (.cells c t)).setCells w'.heap.size 0 (row k n f)) := by
  have hk := h.make n c t w'.heap.size rfl hn
  have hc := hk.fill w'.heap.size n List.mem_cons_self (row k n f)
  refine ⟨fun p hp => ?_, fun q hq => hc.room q (List.mem_cons_of_mem _ hq), fun p hp q hq => ?_, hc.size, hc.base, hc.below⟩
  · rcases List.mem_cons.1 hp with rfl | hp
    · exact ⟨Has.all hn k f, by simp⟩
    · exact hc.rows p hp
  · rcases List.mem_cons.1 hp with rfl | hp
    · have := (h.room q hq).2.1; have := h.size; simp only; omega
    · exact h.apart p hp q hq
theorem Kr.poke (h : Kr w m l R w') (b n : Nat) (hb : (b, n) ∈ R) (o : Nat) (vs : List Value) : Kr w m l R (w'.setCells b o vs) :=
  ⟨fun p hp => ⟨(h.rows p hp).1.setAll_other _ (fun e => h.apart p hp _ hb e.symm) o _, (h.rows p hp).2⟩, fun q hq => ⟨World.there_setCells (h.room q hq).1 _ _ _, (h.room q hq).2⟩, h.apart, by rw [size_setAll]; exact h.size, h.base,
   below_setAll h.below _ (h.room _ hb).2.2 o _⟩
/-- A row is given up: its block is room. -/
theorem Kr.loose (h : Kr w m l R w') (l' : List (Nat × IntKind × Nat × (Nat → Int))) (b : Nat) (k : IntKind) (n : Nat) (f : Nat → Int) (hp : (b, k, n, f) ∈ l) (hl : ∀ p ∈ l', p ∈ l) (hne : ∀ p ∈ l', p.1 ≠ b) (hlo : w.heap.size ≤ b) : Kr w m l' ((b, n) :: R) w' :=
  ⟨fun p hp => h.rows p (hl p hp), fun q hq => by
    rcases List.mem_cons.1 hq with rfl | hq
    · exact ⟨(h.get _ _ _ _ hp).there, (h.rows _ hp).2, hlo⟩
    · exact h.room q hq, fun p hp' q hq => by
    rcases List.mem_cons.1 hq with rfl | hq
    · exact hne p hp'
    · exact h.apart p (hl p hp') q hq, h.size, h.base, h.below⟩
/-- A room holds a row. -/
theorem Kr.settle (h : Kr w m l R w') (R' : List (Nat × Nat)) (b : Nat) (k : IntKind) (n : Nat) (f : Nat → Int) (hb : (b, n) ∈ R) (hR : ∀ q ∈ R', q ∈ R) (hne : ∀ q ∈ R', q.1 ≠ b) (hf : Has w' b k n f) : Kr w m ((b, k, n, f) :: l) R' w' :=
  ⟨fun p hp => by
    rcases List.mem_cons.1 hp with rfl | hp
    · exact ⟨hf, (h.room _ hb).2.1⟩
    · exact h.rows p hp, fun q hq => h.room q (hR q hq), fun p hp q hq => by
    rcases List.mem_cons.1 hp with rfl | hp
    · exact (hne q hq).symm
    · exact h.apart p hp q (hR q hq), h.size, h.base, h.below⟩
theorem Kr.sub (h : Kr w m l R w') (l' : List (Nat × IntKind × Nat × (Nat → Int))) (hl : ∀ p ∈ l', p ∈ l) : Kr w m l' R w' :=
  ⟨fun p hp => h.rows p (hl p hp), h.room, fun p hp q hq => h.apart p (hl p hp) q hq, h.size, h.base, h.below⟩
/-- A row is written anew. -/
theorem Kr.set (h : Kr w m l R w') (l' : List (Nat × IntKind × Nat × (Nat → Int))) (b : Nat) (k : IntKind) (n : Nat) (f g : Nat → Int) (hp : (b, k, n, f) ∈ l) (hl : ∀ p ∈ l', p ∈ l) (hne : ∀ p ∈ l', p.1 ≠ b) (hlo : w.heap.size ≤ b) : Kr w m ((b, k, n, g) :: l') R (w'.setCells b 0 (row k n g)) :=
  ((h.loose l' b k n f hp hl hne hlo).fill b n List.mem_cons_self _).settle R b k n g List.mem_cons_self (fun _ hq => List.mem_cons_of_mem _ hq) (fun q hq => (h.apart _ hp q hq).symm) (Has.all (h.get _ _ _ _ hp).there k g)
/-- What was made since is forgotten. -/
theorem Kr.back (h : Kr w m l R w') (l' : List (Nat × IntKind × Nat × (Nat → Int))) (m0 : Nat) (hl : ∀ p ∈ l', p ∈ l) (hm : ∀ p ∈ l', p.1 < m0) (hr : ∀ q ∈ R, q.1 < m0) (h0 : w.heap.size ≤ m0) (h1 : m0 ≤ m) : Kr w m0 l' R w' :=
  ⟨fun p hp => ⟨(h.rows p (hl p hp)).1, hm p hp⟩, fun q hq => ⟨(h.room q hq).1, hr q hq, (h.room q hq).2.2⟩, fun p hp q hq => h.apart p (hl p hp) q hq, Nat.le_trans h1 h.size, h0, h.below⟩
end

section
variable {P : Program} {ops : Array Oper} {Q : Exit → Act → World → Prop} {md : Region.Mode} {S : World → Prop}
/-- A row is loaded from within a block, and may be loaded first. -/
theorem rowKH {i : Nat} {oi : Oper} (dst : Option Tmp) (hdst : oi.dst = dst) {fuel : Nat} {listed : Array Bool} {a : Act} {w : World} (k : IntKind) (n : Nat) (f : Nat → Int) (b o : Nat) (ty : TypeId) (x : Operand) (d : TypeDesc) (hi : ops[i]? = some oi)
    (ho : oi.op = .load ty x) (hx : a.eval x = .pointer (some ⟨b, o, none⟩)) (hw : Region.wanted oi (yielded ops a.tmps) = true)
    (hs : Region.noSelect ops = true) (hf : Region.free md ops listed i = true) (hr : (Region.ready md ops listed).contains i = true)
    (hQ : ∀ c a w, Q (.panic c) (a.put dst (.agg (row k n f).toArray)) w → Q (.panic c) a w)
    (hu : P.underlying ty = some d) (hd : d.isRow = true) (hz : (P.info? ty).map (·.size) = some (row k n f).length)
    (hS : S w) (hh : ∀ w, S w → w.rangeAt b o (row k n f))
    (h : wpAnyH P md ops Q S fuel (listed.setIfInBounds i true) (a.put dst (.agg (row k n f).toArray)) w) : wpAnyH P md ops Q S (fuel + 1) listed a w := by
  subst hdst
  exact wpAnyH_take hi hs hf hr hQ (yieldsIf_load_mid hw ty x ho b o hx (row k n f) d hh hu hd hz) hS h
/-- The one operation that may come up loads a row. -/
theorem rowKOneH {i : Nat} {oi : Oper} (dst : Option Tmp) (hdst : oi.dst = dst) {fuel : Nat} {listed : Array Bool} {a : Act} {w : World} (k : IntKind) (n : Nat) (f : Nat → Int) (b o : Nat) (ty : TypeId) (x : Operand) (d : TypeDesc) (hr : Region.ready md ops listed = [i]) (hi : ops[i]? = some oi)
    (ho : oi.op = .load ty x) (hx : a.eval x = .pointer (some ⟨b, o, none⟩)) (hw : Region.wanted oi (yielded ops a.tmps) = true)
    (hu : P.underlying ty = some d) (hd : d.isRow = true) (hz : (P.info? ty).map (·.size) = some (row k n f).length)
    (hS : S w) (hh : w.rangeAt b o (row k n f))
    (h : wpAnyH P md ops Q S fuel (listed.setIfInBounds i true) (a.put dst (.agg (row k n f).toArray)) w) : wpAnyH P md ops Q S (fuel + 1) listed a w := by
  subst hdst
  refine wpAnyH_all hr (by simp) fun j hj => ?_
  obtain rfl := List.mem_singleton.1 hj
  unfold wpOp
  simp only [hi, hw, if_true]
  exact .inl (wp_load_mid ty x ho b o hx (row k n f) d hh hu hd hz ⟨hS, h⟩)
theorem rowKL {o' : Oper} {rest : List Oper} {a : Act} {w : World} (k : IntKind) (n : Nat) (f : Nat → Int) (b o : Nat) (ty : TypeId) (x : Operand) (d : TypeDesc) (hw : Region.wanted o' (yielded ops a.tmps) = true)
    (ho : o'.op = .load ty x) (hx : a.eval x = .pointer (some ⟨b, o, none⟩)) (hu : P.underlying ty = some d) (hd : d.isRow = true) (hz : (P.info? ty).map (·.size) = some (row k n f).length) (hh : w.rangeAt b o (row k n f))
    (h : wpList P ops Q rest (a.put o'.dst (.agg (row k n f).toArray)) w) : wpList P ops Q (o' :: rest) a w := by
  unfold wpList
  rw [if_pos hw]
  exact .inl (wp_load_mid ty x ho b o hx (row k n f) d hh hu hd hz h)
end


section
variable {P : Program} {ops : Array Oper} {Q : Exit → Act → World → Prop} {md : Region.Mode} {S : World → Prop}
theorem run_loadVar_cell (w : World) (b o : Nat) (ty : TypeId) (k : IntKind) (v : Value) (hc : w.cell? ⟨b, o, none⟩ = some v) (hu : P.underlying ty = some (.int k)) : (loadVar ty ⟨b, o, none⟩).run P w = .ok v w := by
  have hagg : (isAgg ty).run P w = .ok false w := by
    unfold isAgg
    rw [Sem.run_bind, run_underlying hu w]
    rfl
  simp [loadVar, Sem.run_bind, hagg, hc]
/-- One cell is loaded, and may be loaded first. -/
theorem cellH {i : Nat} {oi : Oper} (dst : Option Tmp) (hdst : oi.dst = dst) {fuel : Nat} {listed : Array Bool} {a : Act} {w : World} (k : IntKind) (v : Value) (b o : Nat) (ty : TypeId) (x : Operand) (hi : ops[i]? = some oi)
    (ho : oi.op = .load ty x) (hx : a.eval x = .pointer (some ⟨b, o, none⟩)) (hw : Region.wanted oi (yielded ops a.tmps) = true)
    (hs : Region.noSelect ops = true) (hf : Region.free md ops listed i = true) (hr : (Region.ready md ops listed).contains i = true)
    (hQ : ∀ c a w, Q (.panic c) (a.put dst v) w → Q (.panic c) a w)
    (hu : P.underlying ty = some (.int k))
    (hS : S w) (hh : ∀ w, S w → w.cell? ⟨b, o, none⟩ = some v)
    (h : wpAnyH P md ops Q S fuel (listed.setIfInBounds i true) (a.put dst v) w) : wpAnyH P md ops Q S (fuel + 1) listed a w := by
  subst hdst
  refine wpAnyH_take hi hs hf hr hQ (.inl ⟨hw, fun w hw' => ?_⟩) hS h
  unfold execOp
  simp only [ho, hx, Instr.loadAt, Instr.sureAddr, Sem.run_bind, Sem.run_pure, Result.andThen_ok, run_loadVar_cell w b o ty k v (hh w hw') hu]
theorem cellL {o' : Oper} {rest : List Oper} {a : Act} {w : World} (k : IntKind) (v : Value) (b o : Nat) (ty : TypeId) (x : Operand) (hw : Region.wanted o' (yielded ops a.tmps) = true)
    (ho : o'.op = .load ty x) (hx : a.eval x = .pointer (some ⟨b, o, none⟩)) (hu : P.underlying ty = some (.int k)) (hh : w.cell? ⟨b, o, none⟩ = some v)
    (h : wpList P ops Q rest (a.put o'.dst v) w) : wpList P ops Q (o' :: rest) a w := by
  unfold wpList
  rw [if_pos hw]
  refine .inl ?_
  unfold Oper.wp execOp
  simp only [ho, hx, Instr.loadAt, Instr.sureAddr, Sem.run_bind, Sem.run_pure, Result.andThen_ok, run_loadVar_cell w b o ty k v hh hu]
  exact h
end
end Go.Proofs.YtmchfdfmcobenaaDoor
