/- Steps through a region whose order of evaluation is left open, one operation at a time; no program stands in them. -/
import Derived.Test.YtmchfdfmcobenaaDoorBase
import Derived.Stop.BytesEq
import Derived.KernelRfl
namespace Go.Proofs.YtmchfdfmcobenaaDoor
open Go.RowKit

section
variable {P : Program} {ops : Array Oper} {Q : Exit → Act → World → Prop} {md : Region.Mode} {S : World → Prop}

/-- A whole row is loaded, and may be loaded first. -/
theorem rowH {i : Nat} {oi : Oper} (dst : Option Tmp) (hdst : oi.dst = dst) {fuel : Nat} {listed : Array Bool} {a : Act} {w : World} (k : IntKind) (n : Nat) (f : Nat → Int) (b : Nat) (ty : TypeId) (x : Operand) (d : TypeDesc) (hi : ops[i]? = some oi)
    (ho : oi.op = .load ty x) (hx : a.eval x = .pointer (some ⟨b, 0, none⟩)) (hw : Region.wanted oi (yielded ops a.tmps) = true)
    (hs : Region.noSelect ops = true) (hf : Region.free md ops listed i = true) (hr : (Region.ready md ops listed).contains i = true)
    (hQ : ∀ c a w, Q (.panic c) (a.put dst (.agg (row k n f).toArray)) w → Q (.panic c) a w)
    (hu : P.underlying ty = some d) (hd : d.isRow = true) (hz : (P.info? ty).map (·.size) = some (row k n f).length)
    (hS : S w) (hh : ∀ w, S w → Has w b k n f)
    (h : wpAnyH P md ops Q S fuel (listed.setIfInBounds i true) (a.put dst (.agg (row k n f).toArray)) w) : wpAnyH P md ops Q S (fuel + 1) listed a w :=
  by
  subst hdst
  exact wpAnyH_take hi hs hf hr hQ (yieldsIf_load_mid hw ty x ho b 0 hx (row k n f) d (fun w' hw' => (hh w' hw').range) hu hd hz) hS h

/-- What looks at no memory is taken first. -/
theorem pureH {i : Nat} {oi : Oper} (dst : Option Tmp) (hdst : oi.dst = dst) {fuel : Nat} {listed : Array Bool} {a : Act} {w : World} (v : Value) (hi : ops[i]? = some oi) (hw : Region.wanted oi (yielded ops a.tmps) = true)
    (hv : ∀ w, (execOp a.eval oi).run P w = .ok (.value v) w)
    (hs : Region.noSelect ops = true) (hf : Region.free md ops listed i = true) (hr : (Region.ready md ops listed).contains i = true)
    (hQ : ∀ c a w, Q (.panic c) (a.put dst v) w → Q (.panic c) a w)
    (hS : S w)
    (h : wpAnyH P md ops Q S fuel (listed.setIfInBounds i true) (a.put dst v) w) : wpAnyH P md ops Q S (fuel + 1) listed a w :=
  by
  subst hdst
  exact wpAnyH_take hi hs hf hr hQ (Or.inl ⟨hw, fun w _ => hv w⟩) hS h

/-- The one operation that may come up is a call. -/
theorem callH {i : Nat} {oi : Oper} (dst : Option Tmp) (hdst : oi.dst = dst) {f : FuncId} {args : Array Value} {R : Ending → World → Prop} {fuel : Nat} {listed : Array Bool} {a : Act} {w : World} (hr : Region.ready md ops listed = [i]) (hi : ops[i]? = some oi)
    (hw : Region.wanted oi (yielded ops a.tmps) = true) (he : ∀ w, (execOp a.eval oi).run P w = .ok (.enter f args) w) (hc : Calls P f args w R)
    (hK : ∀ e w', R e w' → ∃ v, e = .returned v ∧ S w' ∧ wpAnyH P md ops Q S fuel (listed.setIfInBounds i true) (a.put dst v) w') : wpAnyH P md ops Q S (fuel + 1) listed a w :=
  ⟨fun h0 => (by rw [h0] at hr; cases hr), fun j hj => by
    rw [hr] at hj
    obtain rfl := List.mem_singleton.1 hj
    unfold wpOp
    simp only [hi, hw, if_true]
    refine .inl ?_
    unfold Oper.wp
    rw [he w]
    exact hc.mono fun e w' hR => by
      obtain ⟨v, rfl, h⟩ := hK e w' hR
      subst hdst
      exact h⟩

/-- The one operation that may come up changes the world. -/
theorem doesH {i : Nat} {oi : Oper} (dst : Option Tmp) (hdst : oi.dst = dst) {fuel : Nat} {listed : Array Bool} {a : Act} {w w' : World} (hr : Region.ready md ops listed = [i]) (hi : ops[i]? = some oi)
    (hw : Region.wanted oi (yielded ops a.tmps) = true) (he : (execOp a.eval oi).run P w = .ok .skip w') (hS : S w')
    (h : wpAnyH P md ops Q S fuel (listed.setIfInBounds i true) (a.put dst undef) w') : wpAnyH P md ops Q S (fuel + 1) listed a w :=
  ⟨fun h0 => (by rw [h0] at hr; cases hr), fun j hj => by
    rw [hr] at hj
    obtain rfl := List.mem_singleton.1 hj
    unfold wpOp
    simp only [hi, hw, if_true]
    refine .inl ?_
    unfold Oper.wp
    rw [he]
    subst hdst
    exact ⟨hS, h⟩⟩

/-- A whole row is stored. -/
theorem storesH {i : Nat} {oi : Oper} (dst : Option Tmp) (hdst : oi.dst = dst) {fuel : Nat} {listed : Array Bool} {a : Act} {w : World} (k : IntKind) (n : Nat) (f : Nat → Int) (b : Nat) (ty : TypeId) (x y : Operand) (hr : Region.ready md ops listed = [i]) (hi : ops[i]? = some oi)
    (hw : Region.wanted oi (yielded ops a.tmps) = true) (ho : oi.op = .store ty x y) (hx : a.eval x = .pointer (some ⟨b, 0, none⟩)) (hy : a.eval y = .agg (row k n f).toArray)
    (ht : w.there b 0 (row k n f).toArray.size) (hz : (P.info? ty).map (·.size) = some (row k n f).toArray.size) (hS : S (w.setCells b 0 (row k n f)))
    (h : wpAnyH P md ops Q S fuel (listed.setIfInBounds i true) (a.put dst undef) (w.setCells b 0 (row k n f))) : wpAnyH P md ops Q S (fuel + 1) listed a w :=
  doesH dst hdst hr hi hw (by
    unfold execOp
    simp only [ho, hx, hy]
    have e := run_storeAt_mid (P := P) w b 0 ty (row k n f).toArray ht hz (all_oneCell_toArray (row_one k n f))
    simp only [Sem.run_bind, e, Result.andThen_ok, Sem.run_pure]) hS h

/-! The same at a list of operations, whose order is the text's. -/
theorem pureL {o : Oper} {rest : List Oper} {a : Act} {w : World} (v : Value) (hw : Region.wanted o (yielded ops a.tmps) = true) (hv : ∀ w, (execOp a.eval o).run P w = .ok (.value v) w)
    (h : wpList P ops Q rest (a.put o.dst v) w) : wpList P ops Q (o :: rest) a w := by
  unfold wpList
  rw [if_pos hw]
  refine .inl ?_
  unfold Oper.wp
  rw [hv w]
  exact h
theorem rowL {o : Oper} {rest : List Oper} {a : Act} {w : World} (k : IntKind) (n : Nat) (f : Nat → Int) (b : Nat) (ty : TypeId) (x : Operand) (d : TypeDesc) (hw : Region.wanted o (yielded ops a.tmps) = true)
    (ho : o.op = .load ty x) (hx : a.eval x = .pointer (some ⟨b, 0, none⟩)) (hu : P.underlying ty = some d) (hd : d.isRow = true) (hz : (P.info? ty).map (·.size) = some (row k n f).length) (hh : Has w b k n f)
    (h : wpList P ops Q rest (a.put o.dst (.agg (row k n f).toArray)) w) : wpList P ops Q (o :: rest) a w := by
  unfold wpList
  rw [if_pos hw]
  exact .inl (wp_load_mid ty x ho b 0 hx (row k n f) d hh.range hu hd hz h)
theorem callL {o : Oper} {f : FuncId} {args : Array Value} {R : Ending → World → Prop} {rest : List Oper} {a : Act} {w : World} (hw : Region.wanted o (yielded ops a.tmps) = true)
    (he : ∀ w, (execOp a.eval o).run P w = .ok (.enter f args) w) (hc : Calls P f args w R) (hK : ∀ e w', R e w' → ∃ v, e = .returned v ∧ wpList P ops Q rest (a.put o.dst v) w') : wpList P ops Q (o :: rest) a w := by
  unfold wpList
  rw [if_pos hw]
  refine .inl ?_
  unfold Oper.wp
  rw [he w]
  exact hc.mono fun e w' hR => by
    obtain ⟨v, rfl, h⟩ := hK e w' hR
    exact h

theorem allocL {o : Oper} {rest : List Oper} {a : Act} {w : World} (c : Array Value) (t : TypeId) (hw : Region.wanted o (yielded ops a.tmps) = true)
    (hv : ∀ w, (execOp a.eval o).run P w = .ok (.value (.pointer (some ⟨w.heap.size, 0, none⟩))) (w.alloc (.cells c t)))
    (h : wpList P ops Q rest (a.put o.dst (.pointer (some ⟨w.heap.size, 0, none⟩))) (w.alloc (.cells c t))) : wpList P ops Q (o :: rest) a w := by
  unfold wpList
  rw [if_pos hw]
  refine .inl ?_
  unfold Oper.wp
  rw [hv w]
  exact h
theorem storesL {o : Oper} {rest : List Oper} {a : Act} {w : World} (k : IntKind) (n : Nat) (f : Nat → Int) (b : Nat) (ty : TypeId) (x y : Operand) (hw : Region.wanted o (yielded ops a.tmps) = true)
    (ho : o.op = .store ty x y) (hx : a.eval x = .pointer (some ⟨b, 0, none⟩)) (hy : a.eval y = .agg (row k n f).toArray)
    (ht : w.there b 0 (row k n f).toArray.size) (hz : (P.info? ty).map (·.size) = some (row k n f).toArray.size)
    (h : wpList P ops Q rest (a.put o.dst undef) (w.setCells b 0 (row k n f))) : wpList P ops Q (o :: rest) a w := by
  unfold wpList
  rw [if_pos hw]
  exact .inl (wp_store_mid ty x y ho b 0 (row k n f).toArray hx hy ht hz (all_oneCell_toArray (row_one k n f)) h)

end

/-! What stands through calls: blocks with rows of 32 bytes in them. -/
/-- The world at hand holds these rows in these blocks; what stood in 'w' stands. -/
structure Kp (w : World) (l : List (Nat × (Nat → Int))) (w' : World) : Prop where
  rows : ∀ p ∈ l, Has w' p.1 .u8 32 p.2 ∧ p.1 < w'.heap.size
  below : Below w.heap.size w w'
theorem Kp.init (w : World) : Kp w [] w := ⟨fun _ h => (by cases h), Below.refl _ _⟩
theorem Kp.drew {w w' : World} {l : List (Nat × (Nat → Int))} (h : Kp w l w') : Kp w l w'.drew := ⟨fun p hp => ⟨(h.rows p hp).1.drew, (h.rows p hp).2⟩, h.below.drew⟩
theorem Kp.call {w w' w'' : World} {l : List (Nat × (Nat → Int))} (h : Kp w l w') (b : Below w'.heap.size w' w'') : Kp w l w'' :=
  ⟨fun p hp => ⟨(h.rows p hp).1.below b (h.rows p hp).2, by have := (h.rows p hp).2; have := b.size; omega⟩, h.below.trans (b.mono h.below.size)⟩
theorem Kp.box {w w' : World} {l : List (Nat × (Nat → Int))} (h : Kp w l w') (f : Nat → Int) (t : TypeId) (b : Nat) (hb : b = w'.heap.size) : Kp w ((b, f) :: l) (w'.alloc (.cells (row .u8 32 f).toArray t)) :=
  ⟨fun p hp => by
    rcases List.mem_cons.1 hp with rfl | hp
    · exact ⟨Has.new w' .u8 32 f t b hb, by simp; omega⟩
    · exact ⟨(h.rows p hp).1.alloc _ (h.rows p hp).2, by have := (h.rows p hp).2; simp; omega⟩, h.below.alloc h.below.size _⟩
theorem Kp.fresh {w w' : World} {l : List (Nat × (Nat → Int))} (h : Kp w l w') (f : Nat → Int) (c : Array Value) (t : TypeId) (hn : Has (w'.alloc (.cells c t)) w'.heap.size .u8 32 (fun _ => 0)) :
    Kp w ((w'.heap.size, f) :: l) ((w'.alloc (.cells c t)).setCells w'.heap.size 0 (row .u8 32 f)) :=
  ⟨fun p hp => by
    rw [size_setAll]
    rcases List.mem_cons.1 hp with rfl | hp
    · exact ⟨Has.all hn.there .u8 f, by simp⟩
    · have hlt := (h.rows p hp).2
      exact ⟨((h.rows p hp).1.alloc _ hlt).setAll_other _ (by omega) 0 _, by simp; omega⟩, below_setAll (h.below.alloc h.below.size _) _ h.below.size 0 _⟩
theorem Kp.get {w w' : World} {l : List (Nat × (Nat → Int))} (h : Kp w l w') (b : Nat) (f : Nat → Int) (hp : (b, f) ∈ l) : Has w' b .u8 32 f := (h.rows _ hp).1

/-! Two rows of bytes, held against each other. -/
open Extern.Stop (cell)

def bytesOf (n : Nat) (f : Nat → Int) : List UInt8 := (List.range n).map fun j => UInt8.ofNat (f j).toNat
theorem row_bytes (n : Nat) (f : Nat → Int) (h : In 256 n f) : row .u8 n f = (bytesOf n f).map cell := by
  unfold row bytesOf
  rw [List.map_map]
  refine List.map_congr_left fun j hj => ?_
  have hj' := h j (List.mem_range.1 hj)
  simp only [Function.comp, cell]
  congr 1
  have : (f j).toNat < 256 := by omega
  simp [UInt8.toNat_ofNat', Nat.mod_eq_of_lt this]
  omega
theorem bytesOf_inj (n : Nat) (f g : Nat → Int) (hf : In 256 n f) (hg : In 256 n g) : (bytesOf n f == bytesOf n g) = decide (val 256 f n = val 256 g n) := by
  rw [Bool.eq_iff_iff]
  simp only [beq_iff_eq, decide_eq_true_eq]
  constructor
  · intro h
    refine val_congr 256 n fun j hj => ?_
    have e : (bytesOf n f)[j]? = (bytesOf n g)[j]? := by rw [h]
    simp only [bytesOf, List.getElem?_map, List.getElem?_range hj, Option.map_some, Option.some.injEq] at e
    have := congrArg UInt8.toNat e
    have h1 := hf j hj
    have h2 := hg j hj
    have e1 : (f j).toNat < 256 := by omega
    have e2 : (g j).toNat < 256 := by omega
    simp [UInt8.toNat_ofNat', Nat.mod_eq_of_lt e1, Nat.mod_eq_of_lt e2] at this
    omega
  · intro h
    have := val_inj 256 (by decide) f g n hf hg h
    unfold bytesOf
    refine List.map_congr_left fun j hj => ?_
    rw [this j (List.mem_range.1 hj)]
theorem eql_rows {P : Program} (w : World) (t e : TypeId) (n : Nat) (ht : P.underlying t = some (.array n e)) (he : P.underlying e = some (.int .u8)) (hsz : ∀ w, (sizeOf e).run P w = .ok 1 w) (f g : Nat → Int) (hf : In 256 n f) (hg : In 256 n g) :
    (binOp .eql t (.agg (row .u8 n f).toArray) (.agg (row .u8 n g).toArray)).run P w = .ok (.bool (decide (val 256 f n = val 256 g n))) w := by
  rw [row_bytes n f hf, row_bytes n g hg, run_eql_bytes w t e n ht he hsz _ _ (by simp [bytesOf]) (by simp [bytesOf]), bytesOf_inj n f g hf hg]

/-- The operation '==' on two such rows. -/
theorem eqlV {P : Program} {o : Oper} {a : Act} (n : Nat) (f g : Nat → Int) (t e t' : TypeId) (x y : Operand) (ho : o.op = .binOp .eql t x y t') (hx : a.eval x = .agg (row .u8 n f).toArray) (hy : a.eval y = .agg (row .u8 n g).toArray)
    (ht : P.underlying t = some (.array n e)) (he : P.underlying e = some (.int .u8)) (hsz : ∀ w, (sizeOf e).run P w = .ok 1 w) (hm : P.eqGuardType P.depth t = false) (hf : In 256 n f) (hg : In 256 n g) (r : Bool) (hr : decide (val 256 f n = val 256 g n) = r) (w : World) :
    (execOp a.eval o).run P w = .ok (.value (.bool r)) w := by
  unfold execOp
  simp only [ho, hx, hy, Sem.run_bind, run_eqGuard_agg w .eql t x y _ _ hm, Result.andThen_ok, eql_rows w t e n ht he hsz f g hf hg, Sem.run_pure, hr]

end Go.Proofs.YtmchfdfmcobenaaDoor
