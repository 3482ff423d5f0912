/- Texts of Base Step Kr Hold Float Sr Pt Gn Ar Ow Va Jz Vg Qa Xa Mk Om Er Jl Sc Vl Mx My Xb Oa Nw Xc Xd Ob Oc Xe Pc Xf Od Hx Xg LawPacketBack, joined. -/
import Derived.WalkKit
import Derived.WalkSpells
import Derived.Deep.RegionHeld3
import Derived.RowKit3
import Derived.Stop.BytesEq
import Derived.KernelRfl
import Derived.Deep.QuietTactic
import Derived.Lib.SlBytesConst
import Derived.Laws.BytesArg
import Derived.Laws.Concat
import Derived.Laws.AppendOwn
import Derived.Laws.OwnMore
import Derived.Test.YtbhhboiofepnhaaDoorProg
import Derived.Laws.MakeOwn
import Derived.Laws.StructEq
import Derived.Laws.Small
import Derived.Lib.ConvBytes
import Derived.Laws.Bits128
import Derived.Laws.Cells
import Derived.Deep.CutBlock
import Derived.Deep.DeepCutAuto
import Derived.BigQuiet
import Derived.Deep.Cut
import Derived.OwnWalk
import Derived.Defers
import Derived.Recover
namespace Go.Proofs.YtbhhboiofepnhaaDoor
open Go.RowKit
theorem aP (a : Act) (d : Tmp) (v : Value) : a.put (some d) v = { a with tmps := a.tmps.setIfInBounds d v } := rfl
theorem lI (l : List Value) (i : Nat) (v : Value) : l.toArray.setIfInBounds i v = (l.set i v).toArray := List.setIfInBounds_toArray l i v
theorem l0 (x v : Value) (l : List Value) : (x :: l).set 0 v = v :: l := rfl
theorem lS (x v : Value) (l : List Value) (n : Nat) : (x :: l).set (n + 1) v = x :: l.set n v := rfl

/-- A row of n integers of one kind. -/
def row (k : IntKind) (n : Nat) (f : Nat → Int) : List Value := (List.range n).map fun j => .int k (f j)

theorem row_length (k : IntKind) (n : Nat) (f : Nat → Int) : (row k n f).length = n := by simp [row]
theorem row_get (k : IntKind) (n : Nat) (f : Nat → Int) (j : Nat) (h : j < n) : (row k n f)[j]? = some (.int k (f j)) := by simp [row, h]
theorem row_get_some {k : IntKind} {n : Nat} {f : Nat → Int} {j : Nat} {v : Value} (h : (row k n f)[j]? = some v) : j < n ∧ v = .int k (f j) := by
  have hj : j < n := by
    have := (List.getElem?_eq_some_iff.1 h).1
    rw [row_length] at this; exact this
  rw [row_get k n f j hj] at h
  exact ⟨hj, (Option.some.inj h).symm⟩
theorem row_congr (k : IntKind) (n : Nat) {f g : Nat → Int} (h : ∀ j, j < n → f j = g j) : row k n f = row k n g := by
  unfold row
  refine List.map_congr_left fun j hj => ?_
  rw [h j (List.mem_range.1 hj)]
theorem row_one (k : IntKind) (n : Nat) (f : Nat → Int) : ∀ v ∈ row k n f, v.oneCell' = true := by
  intro v hv
  obtain ⟨j, _, rfl⟩ := List.mem_map.1 hv
  rfl

/-- Block b holds such a row, and it may be written. -/
structure Has (w : World) (b : Nat) (k : IntKind) (n : Nat) (f : Nat → Int) : Prop where
  cell : ∀ j, j < n → w.cell? ⟨b, j, none⟩ = some (.int k (f j))
  free : ∀ j, j < n → w.frozen? ⟨b, j, none⟩ = false

def upd (f : Nat → Int) (i : Nat) (x : Int) : Nat → Int := fun j => if j = i then x else f j
theorem upd_same (f : Nat → Int) (i : Nat) (x : Int) : upd f i x i = x := by simp [upd]
theorem upd_other (f : Nat → Int) (i : Nat) (x : Int) (j : Nat) (h : j ≠ i) : upd f i x j = f j := by simp [upd, h]

theorem Has.drew {w : World} {b : Nat} {k : IntKind} {n : Nat} {f : Nat → Int} (h : Has w b k n f) : Has w.drew b k n f := ⟨h.cell, h.free⟩
theorem Has.congr {w : World} {b : Nat} {k : IntKind} {n : Nat} {f g : Nat → Int} (h : Has w b k n f) (e : ∀ j, j < n → f j = g j) : Has w b k n g :=
  ⟨fun j hj => by rw [← e j hj]; exact h.cell j hj, h.free⟩
theorem Has.new (w : World) (k : IntKind) (n : Nat) (f : Nat → Int) (t : TypeId) (b : Nat) (hb : b = w.heap.size) : Has (w.alloc (.cells (row k n f).toArray t)) b k n f :=
  ⟨fun j hj => by rw [World.cell?_alloc_at _ _ _ _ hb]; simpa using row_get k n f j hj, fun j _ => by rw [World.frozen?_alloc_at _ _ _ _ hb]⟩
theorem Has.alloc {w : World} {b : Nat} {k : IntKind} {n : Nat} {f : Nat → Int} (h : Has w b k n f) (o : Obj) (hb : b < w.heap.size) : Has (w.alloc o) b k n f :=
  ⟨fun j hj => by rw [World.cell?_alloc_past _ _ _ hb]; exact h.cell j hj, fun j hj => by rw [World.frozen?_alloc_past _ _ _ hb]; exact h.free j hj⟩
theorem Has.below {w w' : World} {b : Nat} {k : IntKind} {n : Nat} {f : Nat → Int} (h : Has w b k n f) {B : Nat} (hl : Below B w w') (hb : b < B) : Has w' b k n f :=
  ⟨fun j hj => by rw [hl.cell (p := ⟨b, j, none⟩) hb]; exact h.cell j hj, fun j hj => by rw [hl.frozen (p := ⟨b, j, none⟩) hb]; exact h.free j hj⟩
theorem Has.set {w : World} {b : Nat} {k : IntKind} {n : Nat} {f : Nat → Int} (h : Has w b k n f) (i : Nat) (hi : i < n) (x : Int) : Has (w.setCell ⟨b, i, none⟩ (.int k x)) b k n (upd f i x) :=
  ⟨fun j hj => by
    by_cases e : j = i
    · subst e; rw [upd_same, World.cell?_setCell_same _ _ _ (h.cell j hj)]
    · rw [upd_other _ _ _ _ e, World.cell?_setCell_other _ _ _ _ (by intro h'; exact e (by injection h' with _ h2; exact h2.symm))]; exact h.cell j hj,
   fun j hj => by rw [World.frozen?_setCell]; exact h.free j hj⟩
theorem Has.set_other {w : World} {b : Nat} {k : IntKind} {n : Nat} {f : Nat → Int} (h : Has w b k n f) (p : Addr) (v : Value) (hp : p.block ≠ b) : Has (w.setCell p v) b k n f :=
  ⟨fun j hj => by rw [World.cell?_setCell_other _ _ _ _ (by intro h'; exact hp (by rw [h']))]; exact h.cell j hj, fun j hj => by rw [World.frozen?_setCell]; exact h.free j hj⟩
theorem Has.range {w : World} {b : Nat} {k : IntKind} {n : Nat} {f : Nat → Int} (h : Has w b k n f) : w.rangeAt b 0 (row k n f) := fun j v hv => by
  obtain ⟨hj, rfl⟩ := row_get_some hv
  rw [Nat.zero_add]; exact h.cell j hj
theorem Has.there {w : World} {b : Nat} {k : IntKind} {n : Nat} {f : Nat → Int} (h : Has w b k n f) : w.there b 0 n := fun j hj => by
  rw [Nat.zero_add, h.cell j hj]; exact ⟨rfl, h.free j hj⟩
theorem Has.all {w : World} {b : Nat} {n : Nat} (ht : w.there b 0 n) (k : IntKind) (g : Nat → Int) : Has (w.setCells b 0 (row k n g)) b k n g :=
  ⟨fun j hj => by
    have := World.rangeAt_setCells_same w b 0 (row k n g) (by rw [row_length]; exact ht) j _ (row_get k n g j hj)
    rw [Nat.zero_add] at this; exact this,
   fun j hj => by rw [World.frozen?_setCells]; have := (ht j hj).2; rw [Nat.zero_add] at this; exact this⟩

theorem below_setAll {B : Nat} {w w' : World} (h : Below B w w') (b : Nat) (hb : B ≤ b) : ∀ (o : Nat) (vs : List Value), Below B w (w'.setCells b o vs)
  | _, [] => h
  | o, v :: vs => by
    rw [World.setCells]
    exact below_setAll (h.setCell (by simpa using hb) v) b hb (o + 1) vs

theorem size_setAll (b : Nat) : ∀ (o : Nat) (vs : List Value) (w : World), (w.setCells b o vs).heap.size = w.heap.size
  | _, [], _ => rfl
  | o, v :: vs, w => by rw [World.setCells, size_setAll b (o + 1) vs]; simp
theorem Has.setAll_other {w : World} {b : Nat} {k : IntKind} {n : Nat} {f : Nat → Int} (h : Has w b k n f) (b' : Nat) (hb : b' ≠ b) : ∀ (o : Nat) (vs : List Value), Has (w.setCells b' o vs) b k n f
  | _, [] => h
  | o, v :: vs => by
    rw [World.setCells]
    exact Has.setAll_other (h.set_other _ v hb) b' hb (o + 1) vs

/-- The world has k blocks more at least, and those that stood are as they were. -/
structure Fr (w : World) (k : Nat) (w' : World) : Prop where
  below : Below w.heap.size w w'
  size : w.heap.size + k ≤ w'.heap.size
theorem Fr.refl (w : World) : Fr w 0 w := ⟨Below.refl _ _, by omega⟩
theorem Fr.alloc {w w' : World} {k : Nat} (h : Fr w k w') (o : Obj) : Fr w (k + 1) (w'.alloc o) := ⟨h.below.alloc (by have := h.size; omega) _, by have := h.size; simp; omega⟩
theorem Fr.drew {w w' : World} {k : Nat} (h : Fr w k w') : Fr w k w'.drew := ⟨h.below.drew, h.size⟩
theorem Fr.set {w w' : World} {k : Nat} (h : Fr w k w') (p : Addr) (v : Value) (hp : w.heap.size ≤ p.block) : Fr w k (w'.setCell p v) := ⟨h.below.setCell hp v, by have := h.size; simp; omega⟩
theorem Fr.setAll {w w' : World} {k : Nat} (h : Fr w k w') (b : Nat) (hb : w.heap.size ≤ b) (vs : List Value) : Fr w k (w'.setCells b 0 vs) := ⟨below_setAll h.below b hb 0 vs, by rw [size_setAll]; exact h.size⟩
theorem Fr.call {w w' w'' : World} {k : Nat} (h : Fr w k w') (l : Below w'.heap.size w' w'') : Fr w k w'' :=
  ⟨h.below.trans (l.mono (by have := h.size; omega)), by have := h.size; have := l.size; omega⟩
theorem Has.call {w w' w'' : World} {k' : Nat} {b : Nat} {k : IntKind} {n : Nat} {f : Nat → Int} (h : Has w' b k n f) (g : Fr w k' w') (l : Below w'.heap.size w' w'') (hb : b < w.heap.size + k') : Has w'' b k n f :=
  h.below l (by have := g.size; omega)

/-- Each of the first n is from 0 to below M. -/
def In (M : Int) (n : Nat) (f : Nat → Int) : Prop := ∀ j, j < n → 0 ≤ f j ∧ f j < M

theorem In.upd {M : Int} {n : Nat} {f : Nat → Int} (h : In M n f) (i : Nat) (x : Int) (h0 : 0 ≤ x) (h1 : x < M) : In M n (upd f i x) := fun j hj => by
  by_cases e : j = i
  · subst e; rw [upd_same]; exact ⟨h0, h1⟩
  · rw [upd_other _ _ _ _ e]; exact h j hj

end Go.Proofs.YtbhhboiofepnhaaDoor

namespace Go.Proofs.YtbhhboiofepnhaaDoor
open Go.RowKit

section
variable {P : Program} {ops : Array Oper} {Q : Exit → Act → World → Prop} {md : Region.Mode} {S : World → Prop}

/-- The one operation that may come up is a call. -/
theorem callH {i : Nat} {oi : Oper} (dst : Option Tmp) (hdst : oi.dst = dst) {f : FuncId} {args : Array Value} {R : Ending → World → Prop} {fuel : Nat} {listed : Array Bool} {a : Act} {w : World} (hr : Region.ready md ops listed = [i]) (hi : ops[i]? = some oi)
    (hw : Region.wanted oi (yielded ops a.tmps) = true) (he : ∀ w, (execOp a.eval oi).run P w = .ok (.enter f args) w) (hc : Calls P f args w R)
    (hK : ∀ e w', R e w' → ∃ v, e = .returned v ∧ S w' ∧ wpAnyH P md ops Q S fuel (listed.setIfInBounds i true) (a.put dst v) w') : wpAnyH P md ops Q S (fuel + 1) listed a w :=
  ⟨fun h0 => (by rw [h0] at hr; cases hr), fun j hj => by
    rw [hr] at hj
    obtain rfl := List.mem_singleton.1 hj
    unfold wpOp
    simp only [hi, hw, if_true]
    refine .inl ?_
    unfold Oper.wp
    rw [he w]
    exact hc.mono fun e w' hR => by
      obtain ⟨v, rfl, h⟩ := hK e w' hR
      subst hdst
      exact h⟩

/-- The one operation that may come up changes the world. -/
theorem doesH {i : Nat} {oi : Oper} (dst : Option Tmp) (hdst : oi.dst = dst) {fuel : Nat} {listed : Array Bool} {a : Act} {w w' : World} (hr : Region.ready md ops listed = [i]) (hi : ops[i]? = some oi)
    (hw : Region.wanted oi (yielded ops a.tmps) = true) (he : (execOp a.eval oi).run P w = .ok .skip w') (hS : S w')
    (h : wpAnyH P md ops Q S fuel (listed.setIfInBounds i true) (a.put dst undef) w') : wpAnyH P md ops Q S (fuel + 1) listed a w :=
  ⟨fun h0 => (by rw [h0] at hr; cases hr), fun j hj => by
    rw [hr] at hj
    obtain rfl := List.mem_singleton.1 hj
    unfold wpOp
    simp only [hi, hw, if_true]
    refine .inl ?_
    unfold Oper.wp
    rw [he]
    subst hdst
    exact ⟨hS, h⟩⟩

/-! The same at a list of operations, whose order is the text's. -/
theorem pureL {o : Oper} {rest : List Oper} {a : Act} {w : World} (v : Value) (hw : Region.wanted o (yielded ops a.tmps) = true) (hv : ∀ w, (execOp a.eval o).run P w = .ok (.value v) w)
    (h : wpList P ops Q rest (a.put o.dst v) w) : wpList P ops Q (o :: rest) a w := by
  unfold wpList
  rw [if_pos hw]
  refine .inl ?_
  unfold Oper.wp
  rw [hv w]
  exact h
theorem callL {o : Oper} {f : FuncId} {args : Array Value} {R : Ending → World → Prop} {rest : List Oper} {a : Act} {w : World} (hw : Region.wanted o (yielded ops a.tmps) = true)
    (he : ∀ w, (execOp a.eval o).run P w = .ok (.enter f args) w) (hc : Calls P f args w R) (hK : ∀ e w', R e w' → ∃ v, e = .returned v ∧ wpList P ops Q rest (a.put o.dst v) w') : wpList P ops Q (o :: rest) a w := by
  unfold wpList
  rw [if_pos hw]
  refine .inl ?_
  unfold Oper.wp
  rw [he w]
  exact hc.mono fun e w' hR => by
    obtain ⟨v, rfl, h⟩ := hK e w' hR
    exact h

theorem allocL {o : Oper} {rest : List Oper} {a : Act} {w : World} (c : Array Value) (t : TypeId) (hw : Region.wanted o (yielded ops a.tmps) = true)
    (hv : ∀ w, (execOp a.eval o).run P w = .ok (.value (.pointer (some ⟨w.heap.size, 0, none⟩))) (w.alloc (.cells c t)))
    (h : wpList P ops Q rest (a.put o.dst (.pointer (some ⟨w.heap.size, 0, none⟩))) (w.alloc (.cells c t))) : wpList P ops Q (o :: rest) a w := by
  unfold wpList
  rw [if_pos hw]
  refine .inl ?_
  unfold Oper.wp
  rw [hv w]
  exact h
end

/-! What stands through calls: blocks with rows of 32 bytes in them. -/
/-- The world at hand holds these rows in these blocks; what stood in 'w' stands. -/
structure Kp (w : World) (l : List (Nat × (Nat → Int))) (w' : World) : Prop where
  rows : ∀ p ∈ l, Has w' p.1 .u8 32 p.2 ∧ p.1 < w'.heap.size
  below : Below w.heap.size w w'
theorem Kp.init (w : World) : Kp w [] w := ⟨fun _ h => (by cases h), Below.refl _ _⟩
theorem Kp.drew {w w' : World} {l : List (Nat × (Nat → Int))} (h : Kp w l w') : Kp w l w'.drew := ⟨fun p hp => ⟨(h.rows p hp).1.drew, (h.rows p hp).2⟩, h.below.drew⟩
theorem Kp.call {w w' w'' : World} {l : List (Nat × (Nat → Int))} (h : Kp w l w') (b : Below w'.heap.size w' w'') : Kp w l w'' :=
  ⟨fun p hp => ⟨(h.rows p hp).1.below b (h.rows p hp).2, by have := (h.rows p hp).2; have := b.size; omega⟩, h.below.trans (b.mono h.below.size)⟩
theorem Kp.box {w w' : World} {l : List (Nat × (Nat → Int))} (h : Kp w l w') (f : Nat → Int) (t : TypeId) (b : Nat) (hb : b = w'.heap.size) : Kp w ((b, f) :: l) (w'.alloc (.cells (row .u8 32 f).toArray t)) :=
  ⟨fun p hp => by
    rcases List.mem_cons.1 hp with rfl | hp
    · exact ⟨Has.new w' .u8 32 f t b hb, by simp; omega⟩
    · exact ⟨(h.rows p hp).1.alloc _ (h.rows p hp).2, by have := (h.rows p hp).2; simp; omega⟩, h.below.alloc h.below.size _⟩
theorem Kp.get {w w' : World} {l : List (Nat × (Nat → Int))} (h : Kp w l w') (b : Nat) (f : Nat → Int) (hp : (b, f) ∈ l) : Has w' b .u8 32 f := (h.rows _ hp).1

/-! Two rows of bytes, held against each other. -/
open Extern.Stop (cell)

def bytesOf (n : Nat) (f : Nat → Int) : List UInt8 := (List.range n).map fun j => UInt8.ofNat (f j).toNat
end Go.Proofs.YtbhhboiofepnhaaDoor

namespace Go.Proofs.YtbhhboiofepnhaaDoor
open Go.RowKit

theorem there_below {w w' : World} {b n : Nat} (h : w.there b 0 n) {B : Nat} (l : Below B w w') (hb : b < B) : w'.there b 0 n := fun j hj => by
  rw [l.cell (p := ⟨b, 0 + j, none⟩) hb, l.frozen (p := ⟨b, 0 + j, none⟩) hb]; exact h j hj
/-- The rows that the blocks of l hold, the rooms R, all below m; what stood in w stands. -/
structure Kr (w : World) (m : Nat) (l : List (Nat × IntKind × Nat × (Nat → Int))) (R : List (Nat × Nat)) (w' : World) : Prop where
  rows : ∀ p ∈ l, Has w' p.1 p.2.1 p.2.2.1 p.2.2.2 ∧ p.1 < m
  room : ∀ q ∈ R, w'.there q.1 0 q.2 ∧ q.1 < m ∧ w.heap.size ≤ q.1
  apart : ∀ p ∈ l, ∀ q ∈ R, p.1 ≠ q.1
  size : m ≤ w'.heap.size
  base : w.heap.size ≤ m
  below : Below w.heap.size w w'
section
variable {w w' w'' : World} {m : Nat} {l : List (Nat × IntKind × Nat × (Nat → Int))} {R : List (Nat × Nat)}
theorem Kr.init (w : World) : Kr w w.heap.size [] [] w := ⟨fun _ h => (by cases h), fun _ h => (by cases h), fun _ h => (by cases h), Nat.le_refl _, Nat.le_refl _, Below.refl _ _⟩
theorem Kr.drew (h : Kr w m l R w') : Kr w m l R w'.drew := ⟨fun p hp => ⟨(h.rows p hp).1.drew, (h.rows p hp).2⟩, h.room, h.apart, h.size, h.base, h.below.drew⟩
theorem Kr.call (h : Kr w m l R w') (b : Below w'.heap.size w' w'') : Kr w m l R w'' :=
  ⟨fun p hp => ⟨(h.rows p hp).1.below b (Nat.lt_of_lt_of_le (h.rows p hp).2 h.size), (h.rows p hp).2⟩,
   fun q hq => ⟨there_below (h.room q hq).1 b (Nat.lt_of_lt_of_le (h.room q hq).2.1 h.size), (h.room q hq).2⟩, h.apart, Nat.le_trans h.size b.size, h.base, h.below.trans (b.mono (Nat.le_trans h.base h.size))⟩
/-- A row in a new block. -/
theorem Kr.box (h : Kr w m l R w') (k : IntKind) (n : Nat) (f : Nat → Int) (t : TypeId) (b : Nat) (hb : b = w'.heap.size) : Kr w (b + 1) ((b, k, n, f) :: l) R (w'.alloc (.cells (row k n f).toArray t)) := by
  have hc := h.call ((Below.refl w'.heap.size w').alloc (Nat.le_refl _) (.cells (row k n f).toArray t))
  refine ⟨fun p hp => ?_, fun q hq => ⟨(hc.room q hq).1, by have := (hc.room q hq).2.1; have := h.size; omega, (hc.room q hq).2.2⟩, fun p hp q hq => ?_, by simp; omega, by have := h.base; have := h.size; omega, hc.below⟩
  · rcases List.mem_cons.1 hp with rfl | hp
    · exact ⟨Has.new w' k n f t b hb, by simp⟩
    · exact ⟨(hc.rows p hp).1, by have := (hc.rows p hp).2; have := h.size; omega⟩
  · rcases List.mem_cons.1 hp with rfl | hp
    · have := (h.room q hq).2.1; have := h.size; simp only; omega
    · exact h.apart p hp q hq
theorem Kr.fill (h : Kr w m l R w') (b n : Nat) (hb : (b, n) ∈ R) (vs : List Value) : Kr w m l R (w'.setCells b 0 vs) :=
  ⟨fun p hp => ⟨(h.rows p hp).1.setAll_other _ (fun e => h.apart p hp _ hb e.symm) 0 _, (h.rows p hp).2⟩, fun q hq => ⟨World.there_setCells (h.room q hq).1 _ _ _, (h.room q hq).2⟩, h.apart, by rw [size_setAll]; exact h.size, h.base,
   below_setAll h.below _ (h.room _ hb).2.2 0 _⟩
theorem Kr.get (h : Kr w m l R w') (b : Nat) (k : IntKind) (n : Nat) (f : Nat → Int) (hp : (b, k, n, f) ∈ l) : Has w' b k n f := (h.rows _ hp).1
theorem Kr.poke (h : Kr w m l R w') (b n : Nat) (hb : (b, n) ∈ R) (o : Nat) (vs : List Value) : Kr w m l R (w'.setCells b o vs) :=
  ⟨fun p hp => ⟨(h.rows p hp).1.setAll_other _ (fun e => h.apart p hp _ hb e.symm) o _, (h.rows p hp).2⟩, fun q hq => ⟨World.there_setCells (h.room q hq).1 _ _ _, (h.room q hq).2⟩, h.apart, by rw [size_setAll]; exact h.size, h.base,
   below_setAll h.below _ (h.room _ hb).2.2 o _⟩
/-- A row is given up: its block is room. -/
theorem Kr.loose (h : Kr w m l R w') (l' : List (Nat × IntKind × Nat × (Nat → Int))) (b : Nat) (k : IntKind) (n : Nat) (f : Nat → Int) (hp : (b, k, n, f) ∈ l) (hl : ∀ p ∈ l', p ∈ l) (hne : ∀ p ∈ l', p.1 ≠ b) (hlo : w.heap.size ≤ b) : Kr w m l' ((b, n) :: R) w' :=
  ⟨fun p hp => h.rows p (hl p hp), fun q hq => by
    rcases List.mem_cons.1 hq with rfl | hq
    · exact ⟨(h.get _ _ _ _ hp).there, (h.rows _ hp).2, hlo⟩
    · exact h.room q hq, fun p hp' q hq => by
    rcases List.mem_cons.1 hq with rfl | hq
    · exact hne p hp'
    · exact h.apart p (hl p hp') q hq, h.size, h.base, h.below⟩
/-- A room holds a row. -/
theorem Kr.settle (h : Kr w m l R w') (R' : List (Nat × Nat)) (b : Nat) (k : IntKind) (n : Nat) (f : Nat → Int) (hb : (b, n) ∈ R) (hR : ∀ q ∈ R', q ∈ R) (hne : ∀ q ∈ R', q.1 ≠ b) (hf : Has w' b k n f) : Kr w m ((b, k, n, f) :: l) R' w' :=
  ⟨fun p hp => by
    rcases List.mem_cons.1 hp with rfl | hp
    · exact ⟨hf, (h.room _ hb).2.1⟩
    · exact h.rows p hp, fun q hq => h.room q (hR q hq), fun p hp q hq => by
    rcases List.mem_cons.1 hp with rfl | hp
    · exact (hne q hq).symm
    · exact h.apart p hp q (hR q hq), h.size, h.base, h.below⟩
theorem Kr.sub (h : Kr w m l R w') (l' : List (Nat × IntKind × Nat × (Nat → Int))) (hl : ∀ p ∈ l', p ∈ l) : Kr w m l' R w' :=
  ⟨fun p hp => h.rows p (hl p hp), h.room, fun p hp q hq => h.apart p (hl p hp) q hq, h.size, h.base, h.below⟩
/-- A row is written anew. -/
theorem Kr.set (h : Kr w m l R w') (l' : List (Nat × IntKind × Nat × (Nat → Int))) (b : Nat) (k : IntKind) (n : Nat) (f g : Nat → Int) (hp : (b, k, n, f) ∈ l) (hl : ∀ p ∈ l', p ∈ l) (hne : ∀ p ∈ l', p.1 ≠ b) (hlo : w.heap.size ≤ b) : Kr w m ((b, k, n, g) :: l') R (w'.setCells b 0 (row k n g)) :=
  ((h.loose l' b k n f hp hl hne hlo).fill b n List.mem_cons_self _).settle R b k n g List.mem_cons_self (fun _ hq => List.mem_cons_of_mem _ hq) (fun q hq => (h.apart _ hp q hq).symm) (Has.all (h.get _ _ _ _ hp).there k g)
end

section
variable {P : Program} {ops : Array Oper} {Q : Exit → Act → World → Prop} {md : Region.Mode} {S : World → Prop}
end


section
variable {P : Program} {ops : Array Oper} {Q : Exit → Act → World → Prop} {md : Region.Mode} {S : World → Prop}
end
end Go.Proofs.YtbhhboiofepnhaaDoor

namespace Go.Proofs.YtbhhboiofepnhaaDoor
open Go.RowKit

section
variable {P : Program} {ops : Array Oper} {Q : Exit → Act → World → Prop} {md : Region.Mode} {S : World → Prop} {c : Nat}

end

section
variable {P : Program} {ops : Array Oper} {Q : Exit → Act → World → Prop} {md : Region.Mode} {S S2 : World → Prop} {c : Nat}
/-- One cell is stored. -/
theorem run_storeAt_cell (w : World) (b o : Nat) (ty : TypeId) (k : IntKind) (n : Int) (hx : (w.cell? ⟨b, o, none⟩).isSome = true) (hf : w.frozen? ⟨b, o, none⟩ = false) (hi : (P.info? ty).map (·.size) = some 1) :
    (Instr.storeAt ty (.pointer (some ⟨b, o, none⟩)) (.int k n)).run P w = .ok () (w.setCell ⟨b, o, none⟩ (.int k n)) := by
  have h0 : ∀ j : Nat, j < [Value.int k n].length → j = 0 := fun j hj => by simpa using hj
  have := run_storeCells_cells (P := P) b o [.int k n] 0 w (fun j hj => by rw [h0 j hj]; simpa using hx) (fun j hj => by rw [h0 j hj]; simpa using hf) (fun v hv => by simp at hv; subst hv; rfl)
  cases hq : P.info? ty with
  | none => simp [hq] at hi
  | some i =>
    have hs : i.size = 1 := by simp [hq] at hi; omega
    simp only [Nat.add_zero] at this
    have e : (storeVar ty ⟨b, o, none⟩ (.int k n)).run P w = .ok () (w.setCell ⟨b, o, none⟩ (.int k n)) := by
      simp [storeVar, sizeOf, typeInfo, hq, Value.cells, hs, this, World.setCells]
    simp only [Instr.storeAt, Instr.sureAddr, Sem.run_bind, Sem.run_pure, Result.andThen_ok, e]
/-- A place within an array, and within a slice. -/
theorem idxArr {o : Oper} {a : Act} (t e : TypeId) (n : Nat) (k : IntKind) (b off i : Nat) (x y : Operand) (hu : P.underlying t = some (.array n e)) (hsz : ∀ w, (sizeOf e).run P w = .ok 1 w) (hi : i < n) (ho : o.op = .indexAddr t x y) (hx : a.eval x = .pointer (some ⟨b, off, none⟩)) (hy : a.eval y = .int k (i : Int)) (w : World) :
    (execOp a.eval o).run P w = .ok (.value (.pointer (some ⟨b, off + i, none⟩))) w := by
  have e1 : (Instr.indexAt t (.pointer (some ⟨b, off, none⟩)) (.int k (i : Int))).run P w = .ok (.pointer (some ⟨b, off + i, none⟩)) w := by
    simp [Instr.indexAt, run_underlying hu, Instr.sureAddr, asIntOf, hsz, Addr.add_mid]
    intro hf
    omega
  unfold execOp
  simp only [ho, hx, hy, Sem.run_bind, e1, Result.andThen_ok, Sem.run_pure]
theorem idxSl {o : Oper} {a : Act} (t e : TypeId) (len cap : Nat) (k : IntKind) (ad : Addr) (i : Nat) (x y : Operand) (hu : P.underlying t = some (.slice e)) (hsz : ∀ w, (sizeOf e).run P w = .ok 1 w) (hi : i < len) (ho : o.op = .indexAddr t x y) (hx : a.eval x = .slice (some ad) len cap) (hy : a.eval y = .int k (i : Int)) (w : World) :
    (execOp a.eval o).run P w = .ok (.value (.pointer (some (ad.add i)))) w := by
  have e1 : (Instr.indexAt t (.slice (some ad) len cap) (.int k (i : Int))).run P w = .ok (.pointer (some (ad.add i))) w := by
    simp [Instr.indexAt, run_underlying hu, asIntOf, hsz]
    intro hf
    omega
  unfold execOp
  simp only [ho, hx, hy, Sem.run_bind, e1, Result.andThen_ok, Sem.run_pure]
end
end Go.Proofs.YtbhhboiofepnhaaDoor

namespace Go.Proofs.YtbhhboiofepnhaaDoor
open Go.RowKit

/-- A block that was made on the way, of n cells. -/
structure Fb (n w0 B : Nat) (w : World) : Prop where
  lo : w0 ≤ B
  hi : B < w.heap.size
  th : w.there B 0 n
theorem Fb.call {n w0 B : Nat} {w w' : World} (h : Fb n w0 B w) (l : Below w.heap.size w w') : Fb n w0 B w' := ⟨h.lo, Nat.lt_of_lt_of_le h.hi l.size, there_below h.th l h.hi⟩
theorem Fb.alloc {n w0 B : Nat} {w : World} (h : Fb n w0 B w) (o : Obj) : Fb n w0 B (w.alloc o) := h.call ((Below.refl w.heap.size w).alloc (Nat.le_refl _) o)

section
variable {P : Program} {ops : Array Oper} {Q : Exit → Act → World → Prop} {md : Region.Mode} {S : World → Prop}

theorem callOp {i : Nat} {oi : Oper} {f : FuncId} {args : Array Value} {R : Ending → World → Prop} {K : Act → World → Prop} {a : Act} {w : World} (hi : ops[i]? = some oi) (hg : oi.guard = none) (he : (execOp a.eval oi).run P w = .ok (.enter f args) w)
    (hc : Calls P f args w R) (hK : ∀ e w', R e w' → ∃ v, e = .returned v ∧ K (a.put oi.dst v) w') : wpOp P ops Q i K a w := by
  have hw : Region.wanted oi (yielded ops a.tmps) = true := by unfold Region.wanted; rw [hg]
  unfold wpOp
  simp only [hi, hw, if_true]
  refine .inl ?_
  unfold Oper.wp
  rw [he]
  exact hc.mono fun e w' hR => by
    obtain ⟨v, rfl, h⟩ := hK e w' hR
    exact h
theorem wpAnyH_cast {fuel : Nat} {l l' : Array Bool} {a a' : Act} {w : World} (h : wpAnyH P md ops Q S fuel l a w) (el : l' = l) (ea : a' = a) : wpAnyH P md ops Q S fuel l' a' w := by subst el ea; exact h
theorem eval_one {a : Act} {o : Oper} (x : Tmp) (u : Value) (hs : ∀ cs b, o.op ≠ .select cs b) (h1 : x ∉ o.looksAt ops) : execOp (a.put (some x) u).eval o = execOp a.eval o :=
  execOp_put (ops := ops) o hs _ _ _ (fun d hd => by injection hd with hd; subst hd; exact h1)
theorem put_comm' (a : Act) {x y : Tmp} (v u : Value) (h : x ≠ y) : (a.put (some x) v).put (some y) u = (a.put (some y) u).put (some x) v :=
  Act.put_comm a v u (fun d hd e => by injection hd with hd; injection e with e; exact h (hd.trans e.symm))


theorem actL {o : Oper} {rest : List Oper} {a : Act} {w w' : World} (v : Value) (hw : Region.wanted o (yielded ops a.tmps) = true) (he : (execOp a.eval o).run P w = .ok (.value v) w')
    (h : wpList P ops Q rest (a.put o.dst v) w') : wpList P ops Q (o :: rest) a w := by
  unfold wpList
  rw [if_pos hw]
  refine .inl ?_
  unfold Oper.wp
  rw [he]
  exact h
end
end Go.Proofs.YtbhhboiofepnhaaDoor

namespace Go.Proofs.YtbhhboiofepnhaaDoor
open Go.RowKit

/-- A slice's first bytes, wherever they lie. -/
def Src (w : World) (sp : Option Addr) (len : Nat) (z : Nat → Int) : Prop := ∀ j, j < len → ∃ ad, sp = some ad ∧ w.cell? (ad.add j) = some (.int .u8 (z j))
theorem Src.below {w w' : World} {sp : Option Addr} {len : Nat} {z : Nat → Int} (h : Src w sp len z) {B : Nat} (l : Below B w w') (hB : w.heap.size ≤ B) : Src w' sp len z := fun j hj => by
  obtain ⟨ad, he, hc⟩ := h j hj
  have hb := World.block_lt_of_cell? w _ hc
  exact ⟨ad, he, by rw [l.cell (p := ad.add j) (Nat.lt_of_lt_of_le hb hB)]; exact hc⟩


section
variable {P : Program}
theorem run_copy_src {o : Oper} {a : Act} {w : World} (d s : Operand) (dT sT elem : TypeId) (ho : o.op = .call { callee := .builtin .copy, args := #[d, s], argTypes := #[dT, sT] }) (hu : P.underlying dT = some (.slice elem)) (hsz : (P.info? elem).map (·.size) = some 1)
    (b dLen dCap len cap n : Nat) (sp : Option Addr) (z : Nat → Int) (hd : a.eval d = .slice (some ⟨b, 0, none⟩) dLen dCap) (hs : a.eval s = .slice sp len cap) (hl : len ≤ dLen) (hn : len ≤ n) (hb : w.there b 0 n) (hc : Src w sp len z) :
    (execOp a.eval o).run P w = .ok (.value (.int .i64 (len : Int))) (w.setCells b 0 (row .u8 len z)) := by
  by_cases h0 : len = 0
  · subst h0
    have hrun := run_copy_none (P := P) w dT sT o.type elem (some ⟨b, 0, none⟩) sp dLen dCap 0 cap hu hsz (Nat.zero_min _)
    simp [execOp, ho, resolve, invoke, builtin, hd, hs, hrun, Result.andThen, goInt, row, World.setCells]
  · obtain ⟨ad, rfl, _⟩ := hc 0 (by omega)
    have hrun := run_copy_cells (P := P) w dT sT o.type elem b 0 dLen dCap ad len cap (row .u8 len z) hu hsz (by rw [row_length]; exact (Nat.min_eq_left hl).symm) (fun j v hv => by
      obtain ⟨hj, rfl⟩ := row_get_some hv
      obtain ⟨ad', he, hc'⟩ := hc j hj
      injection he with he
      subst he
      exact hc') (fun j hj => by rw [row_length] at hj; exact (hb j (by omega)).1) (fun j hj => by rw [row_length] at hj; exact (hb j (by omega)).2) (row_one .u8 len z)
    rw [row_length] at hrun
    simp [execOp, ho, resolve, invoke, builtin, hd, hs, hrun, Result.andThen, goInt]
end
end Go.Proofs.YtbhhboiofepnhaaDoor

namespace Go.Proofs.YtbhhboiofepnhaaDoor
open Go.RowKit

/-- Part of a row, written anew. -/
def over (f : Nat → Int) (o m : Nat) (g : Nat → Int) : Nat → Int := fun j => if o ≤ j ∧ j < o + m then g (j - o) else f j
theorem Has.part {w : World} {b : Nat} {k : IntKind} {n : Nat} {f : Nat → Int} (h : Has w b k n f) (o m : Nat) (ho : o + m ≤ n) (g : Nat → Int) : Has (w.setCells b o (row k m g)) b k n (over f o m g) := by
  have ht : w.there b o m := fun j hj => by rw [h.cell (o + j) (by omega)]; exact ⟨rfl, h.free (o + j) (by omega)⟩
  refine ⟨fun j hj => ?_, fun j hj => by rw [World.frozen?_setCells]; exact h.free j hj⟩
  unfold over
  by_cases e : o ≤ j ∧ j < o + m
  · rw [if_pos e]
    have := World.rangeAt_setCells_same w b o (row k m g) (by rw [row_length]; exact ht) (j - o) _ (row_get k m g (j - o) (by omega))
    rw [show o + (j - o) = j by omega] at this
    exact this
  · rw [if_neg e]
    have hr : w.rangeAt b j [.int k (f j)] := fun i v hv => by
      rcases i with _ | i
      · obtain rfl : Value.int k (f j) = v := by simpa using hv
        exact h.cell j hj
      · simp at hv
    exact World.rangeAt_setCells_apart hr b o (row k m g) (Or.inr (by rw [row_length]; simp only [List.length_cons, List.length_nil]; omega)) 0 _ rfl
end Go.Proofs.YtbhhboiofepnhaaDoor

namespace Go.Proofs.YtbhhboiofepnhaaDoor
open Go.RowKit

/-- The first bytes from a list, noughts behind them. -/
def bl (l : List Int) : Nat → Int := fun j => l.getD j 0
theorem Kr.setCell {w w' : World} {m : Nat} {l : List (Nat × IntKind × Nat × (Nat → Int))} {R : List (Nat × Nat)} (h : Kr w m l R w') (l' : List (Nat × IntKind × Nat × (Nat → Int))) (b : Nat) (k : IntKind) (n : Nat) (f : Nat → Int) (i : Nat) (hi : i < n) (x : Int) (hp : (b, k, n, f) ∈ l) (hl : ∀ p ∈ l', p ∈ l) (hne : ∀ p ∈ l', p.1 ≠ b) (hlo : w.heap.size ≤ b) :
    Kr w m ((b, k, n, upd f i x) :: l') R (w'.setCell ⟨b, i, none⟩ (.int k x)) :=
  ((h.loose l' b k n f hp hl hne hlo).poke b n List.mem_cons_self i [.int k x]).settle R b k n (upd f i x) List.mem_cons_self (fun _ hq => List.mem_cons_of_mem _ hq) (fun q hq => (h.apart _ hp q hq).symm) ((h.get _ _ _ _ hp).set i hi x)

theorem eqlI {P : Program} {o : Oper} {a : Act} (k : IntKind) (n n' : Int) (t t' : TypeId) (x y : Operand) (ho : o.op = .binOp .eql t x y t') (hx : a.eval x = .int k n) (hy : a.eval y = .int k n') (r : Bool) (hr : (n == n') = r) (w : World) :
    (execOp a.eval o).run P w = .ok (.value (.bool r)) w := by
  unfold execOp
  simp only [ho, hx, hy, Sem.run_bind, eqGuard_at_int, binOp_eql, Sem.run_pure, Result.andThen_ok, hr]
theorem leqI {P : Program} {o : Oper} {a : Act} (k : IntKind) (n n' : Int) (t t' : TypeId) (x y : Operand) (ho : o.op = .binOp .leq t x y t') (hx : a.eval x = .int k n) (hy : a.eval y = .int k n') (r : Bool) (hr : decide (n ≤ n') = r) (w : World) :
    (execOp a.eval o).run P w = .ok (.value (.bool r)) w := by
  unfold execOp
  simp only [ho, hx, hy, Sem.run_bind, eqGuard_at_int, binOp_leq, Sem.run_pure, Result.andThen_ok, hr]
end Go.Proofs.YtbhhboiofepnhaaDoor

namespace Go.Proofs.YtbhhboiofepnhaaDoor
open Go.RowKit

section
variable {P : Program} {o : Oper} {a : Act}
theorem addI (k : IntKind) (n n' r : Int) (t t' : TypeId) (x y : Operand) (ho : o.op = .binOp .add t x y t') (hx : a.eval x = .int k n) (hy : a.eval y = .int k n') (hr : k.wrap (n + n') = r) (w : World) : (execOp a.eval o).run P w = .ok (.value (.int k r)) w := by
  unfold execOp
  simp only [ho, hx, hy, Sem.run_bind, eqGuard_at_int, binOp_add, Op.intArith, Sem.run_pure, Result.andThen_ok, hr]
theorem subI (k : IntKind) (n n' r : Int) (t t' : TypeId) (x y : Operand) (ho : o.op = .binOp .sub t x y t') (hx : a.eval x = .int k n) (hy : a.eval y = .int k n') (hr : k.wrap (n - n') = r) (w : World) : (execOp a.eval o).run P w = .ok (.value (.int k r)) w := by
  unfold execOp
  simp only [ho, hx, hy, Sem.run_bind, eqGuard_at_int, binOp_sub, Op.intArith, Sem.run_pure, Result.andThen_ok, hr]
theorem mulI (k : IntKind) (n n' r : Int) (t t' : TypeId) (x y : Operand) (ho : o.op = .binOp .mul t x y t') (hx : a.eval x = .int k n) (hy : a.eval y = .int k n') (hr : k.wrap (n * n') = r) (w : World) : (execOp a.eval o).run P w = .ok (.value (.int k r)) w := by
  unfold execOp
  simp only [ho, hx, hy, Sem.run_bind, eqGuard_at_int, binOp_mul, Op.intArith, Sem.run_pure, Result.andThen_ok, hr]
theorem shrI (k yk : IntKind) (n y r : Int) (t t' : TypeId) (x x' : Operand) (ho : o.op = .binOp .shr t x x' t') (hx : a.eval x = .int k n) (hy : a.eval x' = .int yk y) (h0 : 0 ≤ y) (hr : n / 2 ^ min y.toNat k.bits = r) (w : World) : (execOp a.eval o).run P w = .ok (.value (.int k r)) w := by
  unfold execOp
  simp only [ho, hx, hy, Sem.run_bind, eqGuard_at_int, binOp_shr, shift_shr_any k yk n y h0, Sem.run_pure, Result.andThen_ok, hr]
theorem convI (k k' : IntKind) (n r : Int) (t t' : TypeId) (x : Operand) (ho : o.op = .convert t t' x) (ht : (P.underlying t).isSome = true) (ht' : P.underlying t' = some (.int k')) (hk : P.intKind t' = k') (hx : a.eval x = .int k n) (hr : k'.wrap n = r) (w : World) : (execOp a.eval o).run P w = .ok (.value (.int k' r)) w := by
  subst hk
  unfold execOp
  simp only [ho, hx, Sem.run_bind, run_convert_int w t t' k n ht ht', Sem.run_pure, Result.andThen_ok, hr]
theorem lssI (k : IntKind) (n n' : Int) (t t' : TypeId) (x y : Operand) (ho : o.op = .binOp .lss t x y t') (hx : a.eval x = .int k n) (hy : a.eval y = .int k n') (r : Bool) (hr : decide (n < n') = r) (w : World) : (execOp a.eval o).run P w = .ok (.value (.bool r)) w := by
  unfold execOp
  simp only [ho, hx, hy, Sem.run_bind, eqGuard_at_int, binOp_lss, Sem.run_pure, Result.andThen_ok, hr]
theorem neqI (k : IntKind) (n n' : Int) (t t' : TypeId) (x y : Operand) (ho : o.op = .binOp .neq t x y t') (hx : a.eval x = .int k n) (hy : a.eval y = .int k n') (r : Bool) (hr : (n != n') = r) (w : World) : (execOp a.eval o).run P w = .ok (.value (.bool r)) w := by
  unfold execOp
  simp only [ho, hx, hy, Sem.run_bind, eqGuard_at_int, binOp_neq, Sem.run_pure, Result.andThen_ok, hr]
theorem lenS (x : Operand) (t e : TypeId) (sp : Option Addr) (n c : Nat) (ho : o.op = .call { callee := .builtin .len, args := #[x], argTypes := #[t] }) (ht : P.underlying t = some (.slice e)) (hx : a.eval x = .slice sp n c) (w : World) : (execOp a.eval o).run P w = .ok (.value (.int .i64 (n : Int))) w := by
  simp [execOp, ho, resolve, invoke, builtin, hx, Builtin.len_, run_underlying ht, goInt]
/-- A slice of a slice. -/
theorem cutOp {w : World} (t : TypeId) (x y : Operand) (p q v : Value) (ho : o.op = .slice t x (some y) none none) (hx : a.eval x = p) (hy : a.eval y = q) (hr : (Instr.sliceAt t p (some q) none none).run P w = .ok v w) :
    (execOp a.eval o).run P w = .ok (.value v) w := by
  unfold execOp
  simp only [ho, hx, hy, Option.map_some, Option.map_none, Sem.run_bind, hr, Result.andThen_ok, Sem.run_pure]
theorem cutHi {w : World} (t : TypeId) (x y : Operand) (p q v : Value) (ho : o.op = .slice t x none (some y) none) (hx : a.eval x = p) (hy : a.eval y = q) (hr : (Instr.sliceAt t p none (some q) none).run P w = .ok v w) :
    (execOp a.eval o).run P w = .ok (.value v) w := by
  unfold execOp
  simp only [ho, hx, hy, Option.map_some, Option.map_none, Sem.run_bind, hr, Result.andThen_ok, Sem.run_pure]
/-- Bytes as a text. -/
def txt (n : Nat) (z : Nat → Int) : ByteArray := strOfNums ((List.range n).map z)
theorem conv_txt (t e dst : TypeId) (x : Operand) (ho : o.op = .convert t dst x) (ht : P.underlying t = some (.slice e)) (he : P.underlying e = some (.int .u8)) (hd : P.underlying dst = some .string) (sp : Option Addr) (len cap : Nat) (z : Nat → Int) (hx : a.eval x = .slice sp len cap) (w : World) (hs : Src w sp len z) (hn : sp = none → len = 0) :
    (execOp a.eval o).run P w = .ok (.value (.string (txt len z))) w := by
  have h : (convert t dst (.slice sp len cap)).run P w = .ok (.string (txt len z)) w := by
    cases sp with
    | none =>
      obtain rfl := hn rfl
      rw [run_convert_bytes_nil w t e ht he 0 cap dst hd]
      rfl
    | some ad =>
      have hl : (loadCells ad len).run P w = .ok (((List.range len).map z).map (Value.int .u8)).toArray w := by
        have := run_loadCells_list (P := P) w ad (((List.range len).map z).map (Value.int .u8)) (fun j v hj => by
          rw [List.map_map] at hj
          have hjl : j < len := by
            have := (List.getElem?_eq_some_iff.1 hj).1
            simpa using this
          obtain ⟨ad', he', hc⟩ := hs j hjl
          injection he' with he'
          subst he'
          rw [hc, ← hj]
          simp [hjl])
        simpa using this
      rw [run_convert_bytes_string w t dst e _ len cap ht he hd, run_bytesToString w ad len cap _ hl, foldl_push_bytes]
      simp [txt, strOfNums, ByteArray.empty, ByteArray.emptyWithCapacity]
      rfl
  unfold execOp
  simp only [ho, hx, Sem.run_bind, h, Result.andThen_ok, Sem.run_pure]
theorem eqlS (s s' : ByteArray) (t t' : TypeId) (x y : Operand) (ho : o.op = .binOp .eql t x y t') (hx : a.eval x = .string s) (hy : a.eval y = .string s') (h : s = s') (w : World) : (execOp a.eval o).run P w = .ok (.value (.bool true)) w := by
  subst h
  unfold execOp
  simp only [ho, hx, hy, Sem.run_bind, eqGuard_at_string, binOp_string_eql, Sem.run_pure, Result.andThen_ok, beq_self_eq_true]
end

section
variable {P : Program} {ops : Array Oper} {Q : Exit → Act → World → Prop} {md : Region.Mode} {S : World → Prop}
/-- What only looks at memory that S speaks of is taken first. -/
theorem readH {i : Nat} {oi : Oper} (dst : Option Tmp) (hdst : oi.dst = dst) {fuel : Nat} {listed : Array Bool} {a : Act} {w : World} (v : Value) (hi : ops[i]? = some oi) (hw : Region.wanted oi (yielded ops a.tmps) = true)
    (hv : ∀ w, S w → (execOp a.eval oi).run P w = .ok (.value v) w)
    (hs : Region.noSelect ops = true) (hf : Region.free md ops listed i = true) (hr : (Region.ready md ops listed).contains i = true)
    (hQ : ∀ c a w, Q (.panic c) (a.put dst v) w → Q (.panic c) a w) (hS : S w)
    (h : wpAnyH P md ops Q S fuel (listed.setIfInBounds i true) (a.put dst v) w) : wpAnyH P md ops Q S (fuel + 1) listed a w := by
  subst hdst
  exact wpAnyH_take hi hs hf hr hQ (Or.inl ⟨hw, hv⟩) hS h
theorem readL {o : Oper} {rest : List Oper} {a : Act} {w : World} (v : Value) (hw : Region.wanted o (yielded ops a.tmps) = true) (hv : (execOp a.eval o).run P w = .ok (.value v) w)
    (h : wpList P ops Q rest (a.put o.dst v) w) : wpList P ops Q (o :: rest) a w := by
  unfold wpList
  rw [if_pos hw]
  refine .inl ?_
  unfold Oper.wp
  rw [hv]
  exact h
theorem storeL {o' : Oper} {rest : List Oper} {a : Act} {w : World} (k : IntKind) (v : Int) (b o : Nat) (ty : TypeId) (x y : Operand) (hw : Region.wanted o' (yielded ops a.tmps) = true) (ho : o'.op = .store ty x y) (hx : a.eval x = .pointer (some ⟨b, o, none⟩)) (hy : a.eval y = .int k v)
    (hc : (w.cell? ⟨b, o, none⟩).isSome = true) (hf : w.frozen? ⟨b, o, none⟩ = false) (hz : (P.info? ty).map (·.size) = some 1)
    (h : wpList P ops Q rest (a.put o'.dst undef) (w.setCell ⟨b, o, none⟩ (.int k v))) : wpList P ops Q (o' :: rest) a w := by
  unfold wpList
  rw [if_pos hw]
  refine .inl ?_
  have he : (execOp a.eval o').run P w = .ok .skip (w.setCell ⟨b, o, none⟩ (.int k v)) := by
    unfold execOp
    simp only [ho, hx, hy]
    have e := run_storeAt_cell (P := P) w b o ty k v hc hf hz
    simp only [Sem.run_bind, e, Result.andThen_ok, Sem.run_pure]
  unfold Oper.wp
  rw [he]
  exact h
end
theorem Has.src {w : World} {b n : Nat} {f : Nat → Int} (h : Has w b .u8 n f) (o len : Nat) (ho : o + len ≤ n) : Src w (some ⟨b, o, none⟩) len (fun j => f (o + j)) := fun j hj => ⟨_, rfl, by rw [Addr.add_mid]; exact h.cell (o + j) (by omega)⟩
theorem Src.congr {w : World} {sp : Option Addr} {len : Nat} {z y : Nat → Int} (h : Src w sp len z) (e : ∀ j, j < len → z j = y j) : Src w sp len y := fun j hj => by
  obtain ⟨ad, h1, h2⟩ := h j hj
  exact ⟨ad, h1, by rw [← e j hj]; exact h2⟩
end Go.Proofs.YtbhhboiofepnhaaDoor

namespace Go.Proofs.YtbhhboiofepnhaaDoor
open Go.RowKit

/-- v is a slice of n numbers, made since block 'base'. -/
def Own (w : World) (base : Nat) (e : TypeId) (k : IntKind) (n : Nat) (f : Nat → Int) (v : Value) : Prop := w.ownsRow base e 1 v n (row k n f)

/-- One row behind another. -/
def app (f : Nat → Int) (n : Nat) (h : Nat → Int) : Nat → Int := fun j => if j < n then f j else h (j - n)
theorem row_app (k : IntKind) (n m : Nat) (f h : Nat → Int) : row k n f ++ row k m h = row k (n + m) (app f n h) := by
  unfold row
  rw [List.range_add, List.map_append, List.map_map]
  congr 1
  · refine List.map_congr_left fun j hj => ?_
    unfold app; rw [if_pos (List.mem_range.1 hj)]
  · refine List.map_congr_left fun j hj => ?_
    simp [app]
    omega
theorem Own.congr {w : World} {base : Nat} {e : TypeId} {k : IntKind} {n : Nat} {f g : Nat → Int} {v : Value} (h : Own w base e k n f v) (he : ∀ j, j < n → f j = g j) : Own w base e k n g v := by
  unfold Own at *
  rw [← row_congr k n he]; exact h
theorem grown_of_below {w w' : World} (l : Below w.heap.size w w') : w.grownBy w' none := ⟨l.os, l.tape, l.output, l.size, fun j hj _ => l.block j hj⟩
theorem Own.below {w w' : World} {base : Nat} {e : TypeId} {k : IntKind} {n : Nat} {f : Nat → Int} {v : Value} (h : Own w base e k n f v) (l : Below w.heap.size w w') : Own w' base e k n f v :=
  World.ownsRow.kept h (grown_of_below l) (by cases hv : v.ownBlock <;> simp)
theorem Own.grown {w w' : World} {base : Nat} {e : TypeId} {k : IntKind} {n : Nat} {f : Nat → Int} {v : Value} (h : Own w base e k n f v) {r : Option Nat} (l : w.grownBy w' r) (hr : ∀ g, r = some g → g < base) : Own w' base e k n f v := by
  refine World.ownsRow.kept h l ?_
  cases hv : v.ownBlock with
  | none => exact .inl rfl
  | some g =>
    refine .inr fun e => ?_
    have h1 := (World.ownsRow.lt h g hv).1
    have h2 := hr g e.symm
    omega
theorem Own.drew {w : World} {base : Nat} {e : TypeId} {k : IntKind} {n : Nat} {f : Nat → Int} {v : Value} (h : Own w base e k n f v) : Own w.drew base e k n f v := h.below (Below.refl _ _).drew
theorem Own.alloc {w : World} {base : Nat} {e : TypeId} {k : IntKind} {n : Nat} {f : Nat → Int} {v : Value} (h : Own w base e k n f v) (o : Obj) : Own (w.alloc o) base e k n f v := World.ownsRow.alloc h o
theorem Own.lit (w : World) (base : Nat) (e : TypeId) (k : IntKind) (n : Nat) (f : Nat → Int) (hb : base ≤ w.heap.size) (hn : n ≤ maxLen) : Own (w.alloc (.cells (row k n f).toArray e)) base e k n f (.slice (some ⟨w.heap.size, 0, none⟩) n n) :=
  ⟨by rw [row_length, Nat.mul_one], .inr ⟨w.heap.size, n, _, rfl, hb, heap_alloc_new w _, Nat.le_refl _, hn, by rw [List.size_toArray, row_length, Nat.mul_one], by rw [Nat.mul_one]; exact List.take_of_length_le (by rw [row_length]; exact Nat.le_refl _)⟩⟩
/-- What such a slice is. -/
theorem Own.has {w : World} {base : Nat} {e : TypeId} {k : IntKind} {n : Nat} {f : Nat → Int} {v : Value} (h : Own w base e k n f v) (hn : 0 < n) : ∃ g cap, v = .slice (some ⟨g, 0, none⟩) n cap ∧ base ≤ g ∧ g < w.heap.size ∧ Has w g k n f := by
  have hc := h
  rcases h.2 with ⟨rfl, h0⟩ | ⟨g, cap, cur, rfl, hb, hg, _⟩
  · omega
  · refine ⟨g, cap, rfl, hb, (Array.getElem?_eq_some_iff.1 hg).1, fun j hj => ?_, fun j _ => ?_⟩
    · have := World.ownsRow.cells hc (g := g) rfl j _ (row_get k n f j hj)
      rw [Addr.add_mid, Nat.zero_add] at this
      exact this
    · unfold World.frozen?
      rw [hg]
      simp
theorem Own.isSlice {w : World} {base : Nat} {e : TypeId} {k : IntKind} {n : Nat} {f : Nat → Int} {v : Value} (h : Own w base e k n f v) : ∃ sp cap, v = .slice sp n cap ∧ (sp = none → n = 0) ∧ ∀ j, j < n → ∃ ad, sp = some ad ∧ w.cell? (ad.add j) = some (.int k (f j)) := by
  rcases Nat.eq_zero_or_pos n with h0 | h0
  · subst h0
    rcases h.2 with ⟨rfl, _⟩ | ⟨g, cap, cur, rfl, _⟩
    · exact ⟨_, _, rfl, fun _ => rfl, fun j hj => by omega⟩
    · exact ⟨_, _, rfl, fun _ => rfl, fun j hj => by omega⟩
  · obtain ⟨g, cap, rfl, _, _, hh⟩ := h.has h0
    exact ⟨_, _, rfl, fun e => (by cases e), fun j hj => ⟨_, rfl, by rw [Addr.add_mid, Nat.zero_add]; exact hh.cell j hj⟩⟩
theorem Own.bytes {w : World} {base : Nat} {e : TypeId} {n : Nat} {f : Nat → Int} {v : Value} (h : Own w base e .u8 n f v) : ∃ sp cap, v = .slice sp n cap ∧ n ≤ cap ∧ Src w sp n f := by
  obtain ⟨sp, cap, rfl, _, hs⟩ := h.isSlice
  refine ⟨sp, cap, rfl, ?_, hs⟩
  rcases h.2 with ⟨hv, h0⟩ | ⟨g, cap', cur, hv, _, _, hnc, _⟩
  · omega
  · injection hv with _ _ hc
    omega
theorem Kr.grown {w w' w'' : World} {m : Nat} {l : List (Nat × IntKind × Nat × (Nat → Int))} {R : List (Nat × Nat)} (h : Kr w m l R w') {r : Option Nat} (g : w'.grownBy w'' r) (hr : ∀ b, r = some b → m ≤ b) : Kr w m l R w'' := by
  have hb : Below m w' w'' := ⟨g.os, g.tape, g.output, g.size, fun j hj => g.block j (Nat.lt_of_lt_of_le hj h.size) (fun e => by have := hr j e.symm; omega)⟩
  exact ⟨fun p hp => ⟨(h.rows p hp).1.below hb (h.rows p hp).2, (h.rows p hp).2⟩, fun q hq => ⟨there_below (h.room q hq).1 hb (h.room q hq).2.1, (h.room q hq).2⟩, h.apart, Nat.le_trans h.size g.size, h.base, h.below.trans (hb.mono h.base)⟩
/-- A slice of one's own, among the rows. -/
theorem Kr.own {w w' : World} {m : Nat} {l : List (Nat × IntKind × Nat × (Nat → Int))} {R : List (Nat × Nat)} (h : Kr w m l R w') {g : Nat} {k : IntKind} {n : Nat} {f : Nat → Int} (hg : m ≤ g) (hl : g < w'.heap.size) (hf : Has w' g k n f) : Kr w w'.heap.size ((g, k, n, f) :: l) R w' :=
  ⟨fun p hp => by
    rcases List.mem_cons.1 hp with rfl | hp
    · exact ⟨hf, hl⟩
    · exact ⟨(h.rows p hp).1, Nat.lt_of_lt_of_le (h.rows p hp).2 h.size⟩, fun q hq => ⟨(h.room q hq).1, Nat.lt_of_lt_of_le (h.room q hq).2.1 h.size, (h.room q hq).2.2⟩, fun p hp q hq => by
    rcases List.mem_cons.1 hp with rfl | hp
    · have := (h.room q hq).2.1; simp only; omega
    · exact h.apart p hp q hq, Nat.le_refl _, Nat.le_trans h.base h.size, h.below⟩

section
variable {P : Program}
/-- A type whose values are single numbers. -/
structure One (P : Program) (e : TypeId) (k : IntKind) (bytes : Nat) : Prop where
  info : (P.info? e).map (fun i => (i.zero, i.bytes, i.size)) = some (some (.int k 0), bytes, 1)
theorem run_append_Own {w : World} {base : Nat} {t ty e : TypeId} {k : IntKind} {bytes n : Nat} {f : Nat → Int} {v : Value} (ht : P.underlying t = some (.slice e)) (he : One P e k bytes) (h : Own w base e k n f v)
    (sp : Option Addr) (m c : Nat) (hv : Nat → Int) (hs : ∀ j, j < m → ∃ ad, sp = some ad ∧ w.cell? (ad.add j) = some (.int k (hv j))) (hz : sp = none → c = 0) (h63 : n + m ≤ maxLen) (hb : (n + m) * bytes ≤ 140737488355328) (hbase : base ≤ w.heap.size) :
    ∃ v' w', (Builtin.append_ #[t, t] ty #[v, .slice sp m c]).run P w = .ok v' w' ∧ Own w' base e k (n + m) (app f n hv) v' ∧ w.grownBy w' v.ownBlock ∧ (∀ g, v'.ownBlock = some g → v.ownBlock = some g ∨ g = w.heap.size) := by
  obtain ⟨i, hi, hq⟩ := Option.map_eq_some_iff.1 he.info
  simp only [Prod.mk.injEq] at hq
  obtain ⟨h1, h2, h3⟩ := hq
  cases sp with
  | none =>
    have hm : m = 0 := by
      rcases Nat.eq_zero_or_pos m with h0 | h0
      · exact h0
      · obtain ⟨ad, e, _⟩ := hs 0 h0; cases e
    subst hm
    obtain rfl := hz rfl
    refine ⟨v, w, run_append_owned_none (P := P) (w := w) base t ty e i 1 ht hi v n _ h, h.congr fun j hj => by unfold app; rw [if_pos hj], ⟨rfl, rfl, rfl, Nat.le_refl _, fun _ _ _ => rfl⟩, fun g hg => .inl hg⟩
  | some ad =>
    obtain ⟨v', w', hr, ho, hg, _⟩ := run_append_own (P := P) w base t ty e i (.int k 0) 1 bytes ht hi h1 h3 h2 rfl (by decide) v n _ h ad m c (row k m hv) (by rw [row_length, Nat.mul_one]) (fun j u hu => by
      obtain ⟨hj, rfl⟩ := row_get_some hu
      obtain ⟨ad', e', hc⟩ := hs j hj
      injection e' with e'
      subst e'
      exact hc) (row_one k m hv) h63 hb hbase
    rw [row_app] at ho
    refine ⟨v', w', hr, ho, hg, ?_⟩
    have hnews : ∀ j u, (row k m hv)[j]? = some u → w.cell? (ad.add j) = some u := fun j u hu => by
      obtain ⟨hj, rfl⟩ := row_get_some hu
      obtain ⟨ad', e', hc⟩ := hs j hj
      injection e' with e'
      subst e'
      exact hc
    have hml : (row k m hv).length = m * i.size := by rw [row_length, h3, Nat.mul_one]
    rcases h.2 with ⟨rfl, rfl⟩ | ⟨g, cap, cur, rfl, hbg, hgg, hnc, hcm, hcs, htake⟩
    · by_cases hm : m = 0
      · subst hm
        have hr2 : (Builtin.append_ #[t, t] ty #[.slice none 0 0, .slice (some ad) 0 c]).run P w = .ok (.slice none 0 0) w := by
          simp [Builtin.append_, run_underlying ht, sizeOf, typeInfo, hi, Builtin.lenOf, Builtin.firstCells, loadCells, loadCellsFrom]
        rw [hr] at hr2
        injection hr2 with hv' _
        rw [hv']
        intro g hg'
        cases hg'
      · have hr2 := run_append_nil (P := P) w t ty e i (.int k 0) ht hi h1 ad m c (row k m hv) hml hnews (by omega) (by unfold maxLen at h63; omega) (by rw [h2]; have := hb; simp only [Nat.zero_add] at this; omega)
        rw [hr] at hr2
        injection hr2 with hv' _
        rw [hv']
        intro g hg'
        injection hg' with hg'
        exact .inr hg'.symm
    · by_cases hroom : n + m ≤ cap
      · have hr2 := run_append_room (P := P) w t ty e i ht hi g n cap cur hgg ad m c (row k m hv) hml hnews (row_one k m hv) hroom (by rw [hml, hcs, h3]; omega)
        rw [hr] at hr2
        injection hr2 with hv' _
        rw [hv']
        intro g' hg'
        exact .inl hg'
      · have hr2 := run_append_grow (P := P) w t ty e i (.int k 0) ht hi h1 ⟨g, 0, none⟩ n cap (row k n f) (by rw [row_length, h3, Nat.mul_one]) (World.ownsRow.cells h (g := g) rfl) ad m c (row k m hv) hml hnews (by omega) (by unfold maxLen at h63; omega) (by rw [h2]; exact growslice_fits (by omega) hb)
        rw [hr] at hr2
        injection hr2 with hv' _
        rw [hv']
        intro g' hg'
        injection hg' with hg'
        exact .inr hg'.symm
theorem appendOp {o : Oper} {a : Act} {w w' : World} (s x : Operand) (t : TypeId) (v u r : Value) (ho : o.op = .call { callee := .builtin .append, args := #[s, x], argTypes := #[t, t] }) (hs : a.eval s = v) (hx : a.eval x = u) (hr : (Builtin.append_ #[t, t] o.type #[v, u]).run P w = .ok r w') :
    (execOp a.eval o).run P w = .ok (.value r) w' := by
  unfold execOp
  simp only [ho, resolve, invoke, builtin, Sem.run_bind, Sem.run_pure, Result.andThen_ok, List.map_toArray, List.map_cons, List.map_nil, hs, hx, hr]
end
end Go.Proofs.YtbhhboiofepnhaaDoor

namespace Go.Proofs.YtbhhboiofepnhaaDoor
open Go.RowKit

/-- How many bytes a number has at least; what the two highest bits tell; its bytes. -/
def vsz (n : Nat) : Nat := if n < 64 then 1 else if n < 16384 then 2 else if n < 1073741824 then 4 else 8
def vkd (k : Nat) : Nat := if k = 1 then 0 else if k = 2 then 1 else if k = 4 then 2 else 3
def fby (n s j : Nat) : Int := ((n / 256 ^ (s - 1 - j) % 256 : Nat) : Int)
def vby (n j : Nat) : Int := fby n (vsz n) j + (if j = 0 then ((64 * vkd (vsz n) : Nat) : Int) else 0)
theorem fby_in (n s j : Nat) : 0 ≤ fby n s j ∧ fby n s j < 256 := by
  unfold fby
  have := Nat.mod_lt (n / 256 ^ (s - 1 - j)) (show 0 < 256 by decide)
  omega
/-- A number read byte by byte, the highest first; the same where the first byte's two highest bits are left out. -/
def fV (z : Nat → Int) : Nat → Int
  | 0 => 0
  | i + 1 => fV z i * 256 + z i
def tV (z : Nat → Int) : Nat → Int
  | 0 => z 0 % 64
  | i + 1 => tV z i * 256 + z (i + 1)
def tK (b : Int) : Nat := 2 ^ (b / 64).toNat
theorem div_step (n e : Nat) : n / 256 ^ (e + 1) * 256 + n / 256 ^ e % 256 = n / 256 ^ e := by
  rw [Nat.pow_succ, ← Nat.div_div_eq_div_mul]
  omega
theorem fV_fby (n s : Nat) (h : n < 256 ^ s) : ∀ i, i ≤ s → fV (fby n s) i = ((n / 256 ^ (s - i) : Nat) : Int)
  | 0, _ => by
    rw [Nat.sub_zero, Nat.div_eq_of_lt h]
    rfl
  | i + 1, hi => by
    show fV (fby n s) i * 256 + fby n s i = _
    rw [fV_fby n s h i (by omega)]
    unfold fby
    have e1 : s - i = (s - (i + 1)) + 1 := by omega
    have e2 : s - 1 - i = s - (i + 1) := by omega
    have := div_step n (s - (i + 1))
    rw [e1, e2]
    omega
theorem fV_back (n s : Nat) (h : n < 256 ^ s) : fV (fby n s) s = (n : Int) := by
  rw [fV_fby n s h s (Nat.le_refl _), Nat.sub_self, Nat.pow_zero, Nat.div_one]
theorem fV_nonneg (z : Nat → Int) (m : Nat) (hz : In 256 m z) : ∀ i, i ≤ m → 0 ≤ fV z i ∧ fV z i < 256 ^ i
  | 0, _ => by
    show (0 : Int) ≤ 0 ∧ (0 : Int) < 1
    omega
  | i + 1, hi => by
    have h1 := fV_nonneg z m hz i (by omega)
    have h2 := hz i (by omega)
    show 0 ≤ fV z i * 256 + z i ∧ fV z i * 256 + z i < 256 ^ (i + 1)
    rw [Int.pow_succ]
    omega
/-- What is taken: the error, the number, how many bytes are behind. -/
def tE (len : Nat) (z : Nat → Int) : Int := if len = 0 then 3 else if len < tK (z 0) then 3 else if vsz (tV z (tK (z 0) - 1)).toNat ≠ tK (z 0) then 90 else 0
def tN (len : Nat) (z : Nat → Int) : Int := if tE len z = 0 then tV z (tK (z 0) - 1) else 0
/-- Numbers in so many bytes. -/
abbrev fbad (n s : Int) : Prop := s < 1 ∨ 7 < s ∨ n < 0 ∨ 256 ^ s.toNat ≤ n
def fL (len : Nat) (n s : Int) : Nat := if fbad n s then 0 else len + s.toNat
def fE (n s : Int) : Int := if fbad n s then 1 else 0
def fput (len : Nat) (z : Nat → Int) (n s : Int) : Nat → Int := app z len (fby n.toNat s.toNat)
def gE (len : Nat) (s : Int) : Int := if s < 1 ∨ 7 < s then 1 else if (len : Int) < s then 3 else 0
def gN (len : Nat) (z : Nat → Int) (s : Int) : Int := if gE len s = 0 then fV z s.toNat else 0
def gL (len : Nat) (s : Int) : Nat := if gE len s = 0 then len - s.toNat else 0
end Go.Proofs.YtbhhboiofepnhaaDoor

namespace Go.Proofs.YtbhhboiofepnhaaDoor
open Go.RowKit

/-- A text's bytes. -/
def zs (s : ByteArray) : Nat → Int := fun j => ((s.data.toList.getD j 0).toNat : Int)
end Go.Proofs.YtbhhboiofepnhaaDoor

namespace Go.Proofs.YtbhhboiofepnhaaDoor
open Go.RowKit

theorem fV_congr {z y : Nat → Int} : ∀ i, (∀ j, j < i → z j = y j) → fV z i = fV y i
  | 0, _ => rfl
  | i + 1, h => by
    show fV z i * 256 + z i = fV y i * 256 + y i
    rw [fV_congr i fun j hj => h j (by omega), h i (by omega)]
end Go.Proofs.YtbhhboiofepnhaaDoor

namespace Go.Proofs.YtbhhboiofepnhaaDoor
open Go.RowKit

/-- The least bytes of a number, as a list. -/
def vlst (n : Nat) : List Int := (List.range (vsz n)).map (vby n)
theorem vlst_length (n : Nat) : (vlst n).length = vsz n := by unfold vlst; rw [List.length_map, List.length_range]
theorem bl_app (a b : List Int) (j : Nat) : bl (a ++ b) j = if j < a.length then bl a j else bl b (j - a.length) := by
  unfold bl
  simp only [List.getD_eq_getElem?_getD, List.getElem?_append]
  split <;> rfl
theorem bl_vlst (n j : Nat) (h : j < vsz n) : bl (vlst n) j = vby n j := by
  unfold bl vlst
  simp [List.getD_eq_getElem?_getD, h]
def Byts (b : List Int) : Prop := ∀ x ∈ b, 0 ≤ x ∧ x < 256
theorem Byts.bl {b : List Int} (h : Byts b) : In 256 b.length (bl b) := fun j hj => by
  unfold Go.Proofs.YtbhhboiofepnhaaDoor.bl
  rw [List.getD_eq_getElem?_getD, List.getElem?_eq_getElem hj]
  exact h _ (List.getElem_mem hj)
theorem Byts.drop {b : List Int} (h : Byts b) (n : Nat) : Byts (b.drop n) := fun x hx => h x (List.mem_of_mem_drop hx)
theorem Byts.take {b : List Int} (h : Byts b) (n : Nat) : Byts (b.take n) := fun x hx => h x (List.mem_of_mem_take hx)
theorem Byts.app {a b : List Int} (ha : Byts a) (hb : Byts b) : Byts (a ++ b) := fun x hx => by
  rcases List.mem_append.1 hx with h | h
  · exact ha x h
  · exact hb x h
theorem bl_ext {a b : List Int} (hl : a.length = b.length) (h : ∀ j, j < a.length → bl a j = bl b j) : a = b := by
  apply List.ext_getElem hl
  intro j h1 h2
  have := h j h1
  unfold bl at this
  rw [List.getD_eq_getElem?_getD, List.getD_eq_getElem?_getD, List.getElem?_eq_getElem h1, List.getElem?_eq_getElem h2] at this
  exact this
theorem bl_drop (b : List Int) (n j : Nat) : bl (b.drop n) j = bl b (n + j) := by
  unfold bl
  simp [List.getD_eq_getElem?_getD, List.getElem?_drop]
theorem bl_take (b : List Int) (n j : Nat) (h : j < n) : bl (b.take n) j = bl b j := by
  unfold bl
  simp [h]

/-- A number is read. -/
def nm (b : List Int) : Except Int (Int × List Int) := if tE b.length (bl b) = 0 then .ok (tN b.length (bl b), b.drop (tK (bl b 0))) else .error (tE b.length (bl b))
/-- Ranges, texts. -/
def MX : Int := 4611686018427387903
def rd : Nat → Int → List Int → Except Int (List (Int × Int) × List Int)
  | 0, _, b => .ok ([], b)
  | n + 1, last, b => match nm b with
    | .error e => .error e
    | .ok (g, b1) => match nm b1 with
      | .error e => .error e
      | .ok (l, b2) => if MX - last < g ∨ MX - last - g < l then .error 100 else match rd n (last + g + l) b2 with
        | .error e => .error e
        | .ok (rs, b3) => .ok ((last + g, last + g + l) :: rs, b3)
def tx (b : List Int) : Except Int (List Int × List Int) := match nm b with
  | .error e => .error e
  | .ok (n, r) => if 128 < n then .error 2 else if (r.length : Int) < n then .error 3 else .ok (r.take n.toNat, r.drop n.toNat)
def rok : List (Int × Int) → Int → Bool → Int → Bool
  | [], _, _, _ => true
  | p :: l, fr, ab, upb => !(decide (p.1 < fr) || (ab && p.1 == fr) || decide (p.2 ≤ p.1) || decide (upb < p.2)) && rok l p.2 true upb
/-- A frame. -/
structure Frm where
  kind : Int
  pos : Int
  lim : Int
  rg : List (Int × Int)
  byt : List Int
  tok : List Int
def z8 : List Int := [0, 0, 0, 0, 0, 0, 0, 0]
def nmb (n : Int) : Bool := decide (0 ≤ n) && decide (n ≤ MX)
def rise (l : List (Int × Int)) (fr : Int) (ab : Bool) (upb : Int) : Bool := rok l fr ab upb && decide (l.length ≤ 8)
def fkd (f : Frm) : Bool :=
  if f.kind = 1 then decide (1 ≤ f.byt.length) && decide (f.byt.length ≤ 128)
  else if f.kind = 2 then nmb f.pos && nmb f.lim && rise f.rg f.pos true MX
  else if f.kind = 3 ∨ f.kind = 4 then f.pos == 0
  else if f.kind = 5 then decide (f.pos ≤ 65535)
  else if f.kind = 6 then true
  else if f.kind = 7 then nmb f.pos && decide (0 ≤ f.lim) && decide (f.lim ≤ 65535) && rise f.rg 0 false f.pos
  else false
def foth (f : Frm) : Bool :=
  (decide (f.kind ≠ 1) && decide (0 < f.byt.length)) || (decide (f.kind ≠ 2 ∧ f.kind ≠ 7) && decide (f.lim ≠ 0)) || (decide (f.kind ≠ 2 ∧ f.kind ≠ 7) && decide (0 < f.rg.length)) || (decide (f.kind ≠ 3 ∧ f.kind ≠ 4) && decide (f.tok ≠ z8))
def fok (f : Frm) : Bool := fkd f && !foth f && nmb f.pos
/-- What a frame that may be is, kind by kind. -/
def Ok (f : Frm) : Prop :=
  (∃ (a : Int) (t : List Int), f = ⟨1, a, 0, [], t, z8⟩ ∧ (0 ≤ a ∧ a < 4611686018427387904) ∧ 1 ≤ t.length ∧ t.length ≤ 128)
  ∨ (∃ (a l : Int) (rs : List (Int × Int)), f = ⟨2, a, l, rs, [], z8⟩ ∧ (0 ≤ a ∧ a < 4611686018427387904) ∧ (0 ≤ l ∧ l < 4611686018427387904) ∧ rok rs a true MX = true ∧ rs.length ≤ 8)
  ∨ (∃ (k : Int) (t : List Int), f = ⟨k, 0, 0, [], [], t⟩ ∧ (k = 3 ∨ k = 4))
  ∨ (∃ a : Int, f = ⟨5, a, 0, [], [], z8⟩ ∧ 0 ≤ a ∧ a ≤ 65535)
  ∨ (∃ a : Int, f = ⟨6, a, 0, [], [], z8⟩ ∧ 0 ≤ a ∧ a < 4611686018427387904)
  ∨ (∃ (a l : Int) (rs : List (Int × Int)), f = ⟨7, a, l, rs, [], z8⟩ ∧ (0 ≤ a ∧ a < 4611686018427387904) ∧ (0 ≤ l ∧ l ≤ 65535) ∧ rok rs 0 false a = true ∧ rs.length ≤ 8)
theorem Ok.data (a : Int) (t : List Int) (h : 0 ≤ a ∧ a < 4611686018427387904) (h1 : 1 ≤ t.length) (h2 : t.length ≤ 128) : Ok ⟨1, a, 0, [], t, z8⟩ := .inl ⟨a, t, rfl, h, h1, h2⟩
theorem Ok.ack (a l : Int) (rs : List (Int × Int)) (h : 0 ≤ a ∧ a < 4611686018427387904) (hl : 0 ≤ l ∧ l < 4611686018427387904) (hr : rok rs a true MX = true) (h8 : rs.length ≤ 8) : Ok ⟨2, a, l, rs, [], z8⟩ := .inr (.inl ⟨a, l, rs, rfl, h, hl, hr, h8⟩)
theorem Ok.tok (k : Int) (t : List Int) (hk : k = 3 ∨ k = 4) : Ok ⟨k, 0, 0, [], [], t⟩ := .inr (.inr (.inl ⟨k, t, rfl, hk⟩))
theorem Ok.upd (a : Int) (h : 0 ≤ a ∧ a ≤ 65535) : Ok ⟨5, a, 0, [], [], z8⟩ := .inr (.inr (.inr (.inl ⟨a, rfl, h⟩)))
theorem Ok.close (a : Int) (h : 0 ≤ a ∧ a < 4611686018427387904) : Ok ⟨6, a, 0, [], [], z8⟩ := .inr (.inr (.inr (.inr (.inl ⟨a, rfl, h⟩))))
theorem Ok.got (a l : Int) (rs : List (Int × Int)) (h : 0 ≤ a ∧ a < 4611686018427387904) (hl : 0 ≤ l ∧ l ≤ 65535) (hr : rok rs 0 false a = true) (h8 : rs.length ≤ 8) : Ok ⟨7, a, l, rs, [], z8⟩ := .inr (.inr (.inr (.inr (.inr ⟨a, l, rs, rfl, h, hl, hr, h8⟩))))
theorem Ok.elim {motive : (f : Frm) → Ok f → Prop} (data : ∀ (a : Int) (t : List Int) (h : 0 ≤ a ∧ a < 4611686018427387904) (h1 : 1 ≤ t.length) (h2 : t.length ≤ 128), motive ⟨1, a, 0, [], t, z8⟩ (Ok.data a t h h1 h2))
    (ack : ∀ (a l : Int) (rs : List (Int × Int)) (h : 0 ≤ a ∧ a < 4611686018427387904) (hl : 0 ≤ l ∧ l < 4611686018427387904) (hr : rok rs a true MX = true) (h8 : rs.length ≤ 8), motive ⟨2, a, l, rs, [], z8⟩ (Ok.ack a l rs h hl hr h8))
    (tok : ∀ (k : Int) (t : List Int) (hk : k = 3 ∨ k = 4), motive ⟨k, 0, 0, [], [], t⟩ (Ok.tok k t hk)) (upd : ∀ (a : Int) (h : 0 ≤ a ∧ a ≤ 65535), motive ⟨5, a, 0, [], [], z8⟩ (Ok.upd a h)) (close : ∀ (a : Int) (h : 0 ≤ a ∧ a < 4611686018427387904), motive ⟨6, a, 0, [], [], z8⟩ (Ok.close a h))
    (got : ∀ (a l : Int) (rs : List (Int × Int)) (h : 0 ≤ a ∧ a < 4611686018427387904) (hl : 0 ≤ l ∧ l ≤ 65535) (hr : rok rs 0 false a = true) (h8 : rs.length ≤ 8), motive ⟨7, a, l, rs, [], z8⟩ (Ok.got a l rs h hl hr h8)) {f : Frm} (h : Ok f) : motive f h := by
  rcases id h with ⟨a, t, rfl, h0, h1, h2⟩ | ⟨a, l, rs, rfl, h0, hl, hr, h8⟩ | ⟨k, t, rfl, hk⟩ | ⟨a, rfl, h0⟩ | ⟨a, rfl, h0⟩ | ⟨a, l, rs, rfl, h0, hl, hr, h8⟩
  · exact data a t h0 h1 h2
  · exact ack a l rs h0 hl hr h8
  · exact tok k t hk
  · exact upd a h0
  · exact close a h0
  · exact got a l rs h0 hl hr h8
/-- How a frame is read. -/
def fp (k : Int) (b : List Int) : Except Int (Frm × List Int) :=
  if k = 3 ∨ k = 4 then (if b.length < 8 then .error 3 else .ok (⟨k, 0, 0, [], [], b.take 8⟩, b.drop 8))
  else match nm b with
    | .error e => .error e
    | .ok (a, b1) =>
      if k = 1 then (match tx b1 with
        | .error e => .error e
        | .ok (t, b2) => .ok (⟨k, a, 0, [], t, z8⟩, b2))
      else if k = 2 ∨ k = 7 then (match nm b1 with
        | .error e => .error e
        | .ok (l, b2) => match nm b2 with
          | .error e => .error e
          | .ok (n, b3) => if 8 < n then .error 100 else match rd n.toNat (if k = 2 then a else 0) b3 with
            | .error e => .error e
            | .ok (rs, b4) => .ok (⟨k, a, l, rs, [], z8⟩, b4))
      else .ok (⟨k, a, 0, [], [], z8⟩, b1)
theorem Ok.kind {f : Frm} (h : Ok f) : 1 ≤ f.kind ∧ f.kind ≤ 7 := by
  cases h using Ok.elim with
  | tok k t hk => simp only; omega
  | _ => simp only; omega
def dc : Nat → List Int → Except Int (List Frm)
  | _, [] => .ok []
  | 0, _ :: _ => .error 2
  | n + 1, k :: b => if k < 1 ∨ 7 < k then .error 100 else match fp k b with
    | .error e => .error e
    | .ok (f, r) => if fok f = false then .error 100 else match dc n r with
      | .error e => .error e
      | .ok fs => .ok (f :: fs)
end Go.Proofs.YtbhhboiofepnhaaDoor

namespace Go.Proofs.YtbhhboiofepnhaaDoor
open Go.RowKit

structure Pkt where
  kind : Int
  role : Int
  path : Int
  epo : Int
  ctr : Int
  body : List Int
/-- A number's bytes, so many, the highest first. -/
def flst (n s : Nat) : List Int := (List.range s).map (fby n s)
theorem flst_length (n s : Nat) : (flst n s).length = s := by unfold flst; rw [List.length_map, List.length_range]
theorem bl_flst (n s j : Nat) (h : j < s) : bl (flst n s) j = fby n s j := by
  unfold bl flst
  simp [List.getD_eq_getElem?_getD, h]
theorem flst_byts (n s : Nat) : Byts (flst n s) := fun x hx => by
  obtain ⟨j, _, rfl⟩ := List.mem_map.1 hx
  exact fby_in n s j
theorem fV_cut (z : Nat → Int) (m : Nat) (hz : In 256 m z) (i : Nat) : ∀ d, i + d ≤ m → (fV z (i + d)).toNat / 256 ^ d = (fV z i).toNat
  | 0, _ => by simp
  | d + 1, h => by
    have h1 := fV_cut z m hz i d (by omega)
    have h2 := (fV_nonneg z m hz (i + d) (by omega)).1
    have h3 := hz (i + d) (by omega)
    have e : fV z (i + (d + 1)) = fV z (i + d) * 256 + z (i + d) := rfl
    have e2 : (fV z (i + (d + 1))).toNat = (fV z (i + d)).toNat * 256 + (z (i + d)).toNat := by rw [e]; omega
    rw [e2, Nat.pow_succ, Nat.mul_comm (256 ^ d) 256, ← Nat.div_div_eq_div_mul, show ((fV z (i + d)).toNat * 256 + (z (i + d)).toNat) / 256 = (fV z (i + d)).toNat by omega, h1]
theorem fby_back (z : Nat → Int) (s : Nat) (hz : In 256 s z) (j : Nat) (hj : j < s) : fby (fV z s).toNat s j = z j := by
  have h1 := fV_cut z s hz (j + 1) (s - 1 - j) (by omega)
  rw [show j + 1 + (s - 1 - j) = s by omega] at h1
  have h2 := (fV_nonneg z s hz j (by omega)).1
  have h3 := hz j hj
  have e : fV z (j + 1) = fV z j * 256 + z j := rfl
  unfold fby
  rw [h1, e]
  omega
/-- Which may be. -/
abbrev Rec (p : Pkt) : Prop := (0 ≤ p.role ∧ p.role ≤ 1) ∧ (0 ≤ p.path ∧ p.path ≤ 255) ∧ (0 ≤ p.epo ∧ p.epo ≤ 65535) ∧ (0 ≤ p.ctr ∧ p.ctr ≤ 281474976710655) ∧ 16 ≤ p.body.length ∧ p.body.length ≤ 272
abbrev Hlo (p : Pkt) : Prop := (1 ≤ p.body.length ∧ p.body.length ≤ 300) ∧ p.role = 0 ∧ p.path = 0 ∧ p.epo = 0 ∧ p.ctr = 0
def pok (p : Pkt) : Bool := if p.kind = 1 ∨ p.kind = 2 then decide (Hlo p) else if p.kind = 3 then decide (Rec p) else false
theorem pok_rec {p : Pkt} (hk : p.kind = 3) : pok p = decide (Rec p) := by unfold pok; rw [if_neg (by omega), if_pos hk]
theorem pok_hlo {p : Pkt} (hk : p.kind = 1 ∨ p.kind = 2) : pok p = decide (Hlo p) := by unfold pok; rw [if_pos hk]
theorem pok_none {p : Pkt} (h1 : ¬ (p.kind = 1 ∨ p.kind = 2)) (h3 : ¬ p.kind = 3) : pok p = false := by unfold pok; rw [if_neg h1, if_neg h3]
theorem pok_iff (p : Pkt) : pok p = true ↔ ((p.kind = 1 ∨ p.kind = 2) ∧ Hlo p) ∨ (p.kind = 3 ∧ Rec p) := by
  by_cases h1 : p.kind = 1 ∨ p.kind = 2
  · rw [pok_hlo h1]
    simp only [decide_eq_true_eq]
    constructor
    · exact fun h => .inl ⟨h1, h⟩
    · rintro (h | h)
      · exact h.2
      · omega
  · by_cases h3 : p.kind = 3
    · rw [pok_rec h3]
      simp only [decide_eq_true_eq]
      constructor
      · exact fun h => .inr ⟨h3, h⟩
      · rintro (h | h)
        · exact absurd h.1 h1
        · exact h.2
    · rw [pok_none h1 h3]
      simp [h1, h3]
/-- A record's head; a packet's bytes; a record's nonce. -/
def hdr (p : Pkt) : List Int := 3 :: p.role :: p.path :: (flst p.epo.toNat 2 ++ flst p.ctr.toNat 6)
def phd (p : Pkt) : List Int := if p.kind = 3 ∧ pok p = true then hdr p else []
def pby (p : Pkt) : List Int := if p.kind = 3 then hdr p ++ p.body else p.kind :: p.body
def ppr (p : Pkt) : Except Int (List Int) := if pok p = true then .ok (pby p) else .error 110
def pno (p : Pkt) : List Int := if p.kind = 3 ∧ pok p = true then p.path :: (flst p.epo.toNat 2 ++ (0 :: 0 :: 0 :: flst p.ctr.toNat 6)) else List.replicate 12 0
/-- How bytes are read. -/
def prs (b : List Int) : Pkt := if bl b 0 = 3 then ⟨3, bl b 1, bl b 2, fV (fun j => bl b (3 + j)) 2, fV (fun j => bl b (5 + j)) 6, b.drop 11⟩ else ⟨bl b 0, 0, 0, 0, 0, b.drop 1⟩
def pps (b : List Int) : Except Int Pkt := if b.length = 0 ∨ (bl b 0 = 3 ∧ b.length < 27) then .error 3 else if pok (prs b) = true then .ok (prs b) else .error 110
theorem hdr_length (p : Pkt) : (hdr p).length = 11 := by unfold hdr; simp [flst_length]
theorem hdr_three (p : Pkt) (t : List Int) : bl (hdr p ++ t) 0 = 3 ∧ bl (hdr p ++ t) 1 = p.role ∧ bl (hdr p ++ t) 2 = p.path := ⟨rfl, rfl, rfl⟩
theorem hdr_epo (p : Pkt) (t : List Int) (j : Nat) (hj : j < 2) : bl (hdr p ++ t) (3 + j) = fby p.epo.toNat 2 j := by
  rw [bl_app, if_pos (by rw [hdr_length]; omega)]
  show bl (3 :: p.role :: p.path :: (flst p.epo.toNat 2 ++ flst p.ctr.toNat 6)) (3 + j) = _
  rw [show 3 + j = j + 1 + 1 + 1 by omega]
  show bl (flst p.epo.toNat 2 ++ flst p.ctr.toNat 6) j = _
  rw [bl_app, if_pos (by rw [flst_length]; exact hj), bl_flst _ _ _ hj]
theorem hdr_ctr (p : Pkt) (t : List Int) (j : Nat) (hj : j < 6) : bl (hdr p ++ t) (5 + j) = fby p.ctr.toNat 6 j := by
  rw [bl_app, if_pos (by rw [hdr_length]; omega)]
  show bl (3 :: p.role :: p.path :: (flst p.epo.toNat 2 ++ flst p.ctr.toNat 6)) (5 + j) = _
  rw [show 5 + j = 2 + j + 1 + 1 + 1 by omega]
  show bl (flst p.epo.toNat 2 ++ flst p.ctr.toNat 6) (2 + j) = _
  rw [bl_app, if_neg (by rw [flst_length]; omega), flst_length, show 2 + j - 2 = j by omega, bl_flst _ _ _ hj]
theorem num_back (z : Nat → Int) (n : Int) (s : Nat) (h0 : 0 ≤ n) (h1 : n.toNat < 256 ^ s) (hz : ∀ j, j < s → z j = fby n.toNat s j) : fV z s = n := by
  rw [fV_congr s hz, fV_back n.toNat s h1]
  omega
/-- What is written is read. -/
theorem prs_pby (p : Pkt) (h : pok p = true) : prs (pby p) = p := by
  rcases (pok_iff p).1 h with ⟨hk, h1⟩ | ⟨hk, h1⟩
  · have e : pby p = p.kind :: p.body := by unfold pby; rw [if_neg (by omega)]
    obtain ⟨_, r1, r2, r3, r4⟩ := h1
    rw [e]
    unfold prs
    rw [if_neg (show ¬ bl (p.kind :: p.body) 0 = 3 from fun h => by have : p.kind = 3 := h; omega)]
    obtain ⟨k, r, pa, e, c, b⟩ := p
    simp only at r1 r2 r3 r4
    subst r1 r2 r3 r4
    rfl
  · have e : pby p = hdr p ++ p.body := by unfold pby; rw [if_pos hk]
    obtain ⟨r1, r2, r3, r4, _⟩ := h1
    rw [e]
    unfold prs
    rw [if_pos (hdr_three p _).1, (hdr_three p _).2.1, (hdr_three p _).2.2, num_back _ p.epo 2 r3.1 (by have := r3.2; omega) (hdr_epo p _), num_back _ p.ctr 6 r4.1 (by have := r4.2; omega) (hdr_ctr p _), List.drop_left' (hdr_length p)]
    obtain ⟨k, r, pa, e, c, b⟩ := p
    simp only at hk
    subst hk
    rfl
theorem pby_len (p : Pkt) (h : pok p = true) : 1 ≤ (pby p).length ∧ (pby p).length ≤ 301 ∧ (bl (pby p) 0 = 3 → 27 ≤ (pby p).length) := by
  rcases (pok_iff p).1 h with ⟨hk, h1⟩ | ⟨hk, h1⟩
  · have e : pby p = p.kind :: p.body := by unfold pby; rw [if_neg (by omega)]
    have h2 := h1.1
    rw [e, List.length_cons]
    exact ⟨by omega, by omega, fun h => by have : p.kind = 3 := h; omega⟩
  · have e : pby p = hdr p ++ p.body := by unfold pby; rw [if_pos hk]
    have h2 := h1.2.2.2.2
    rw [e, List.length_append, hdr_length]
    exact ⟨by omega, by omega, fun _ => by omega⟩
theorem pps_pby (p : Pkt) (h : pok p = true) : pps (pby p) = .ok p := by
  have h1 := pby_len p h
  unfold pps
  rw [if_neg (by rintro (h2 | h2); omega; have := h1.2.2 h2.1; omega), prs_pby p h, if_pos h]
/-- What is read is written. -/
theorem pby_prs (b : List Int) (hb : Byts b) (h0 : b.length ≠ 0) (h3 : bl b 0 = 3 → 27 ≤ b.length) : pby (prs b) = b := by
  have hz := hb.bl
  by_cases hk : bl b 0 = 3
  · have h27 := h3 hk
    have e : prs b = ⟨3, bl b 1, bl b 2, fV (fun j => bl b (3 + j)) 2, fV (fun j => bl b (5 + j)) 6, b.drop 11⟩ := by unfold prs; rw [if_pos hk]
    have e2 : pby (prs b) = hdr (prs b) ++ b.drop 11 := by rw [e]; rfl
    rw [e2]
    refine bl_ext (by rw [List.length_append, hdr_length, List.length_drop]; omega) fun j hj => ?_
    rw [List.length_append, hdr_length, List.length_drop] at hj
    by_cases j11 : j < 11
    · by_cases j3 : j < 3
      · rw [bl_app, if_pos (by rw [hdr_length]; omega), e]
        have : j = 0 ∨ j = 1 ∨ j = 2 := by omega
        rcases this with rfl | rfl | rfl
        · exact hk.symm
        · rfl
        · rfl
      · by_cases j5 : j < 5
        · obtain ⟨i, rfl⟩ : ∃ i, j = 3 + i := ⟨j - 3, by omega⟩
          rw [hdr_epo _ _ i (by omega), e]
          exact fby_back (fun j => bl b (3 + j)) 2 (fun q hq => hz (3 + q) (by omega)) i (by omega)
        · obtain ⟨i, rfl⟩ : ∃ i, j = 5 + i := ⟨j - 5, by omega⟩
          rw [hdr_ctr _ _ i (by omega), e]
          exact fby_back (fun j => bl b (5 + j)) 6 (fun q hq => hz (5 + q) (by omega)) i (by omega)
    · rw [bl_app, if_neg (by rw [hdr_length]; omega), hdr_length, bl_drop, show 11 + (j - 11) = j by omega]
  · have e : pby (prs b) = bl b 0 :: b.drop 1 := by
      unfold prs
      rw [if_neg hk]
      unfold pby
      rw [if_neg hk]
    rw [e]
    match b, h0 with
    | x :: t, _ => rfl
theorem ppr_pps {b : List Int} {p : Pkt} (hb : Byts b) (h : pps b = .ok p) : ppr p = .ok b := by
  unfold pps at h
  split at h
  · cases h
  · rename_i hne
    split at h
    · rename_i hok
      injection h with h
      subst h
      unfold ppr
      rw [if_pos hok, pby_prs b hb (fun e => hne (.inl e)) (fun e => by rcases Nat.lt_or_ge b.length 27 with h | h; exact absurd (.inr ⟨e, h⟩) hne; exact h)]
    · cases h
end Go.Proofs.YtbhhboiofepnhaaDoor

namespace Go.Proofs.YtbhhboiofepnhaaDoor
open Go.RowKit

theorem one8 : One Tryd.prog 5 .u8 1 := ⟨by kernel_rfl⟩
end Go.Proofs.YtbhhboiofepnhaaDoor

namespace Go.Proofs.YtbhhboiofepnhaaDoor
open Go.RowKit

theorem Below.grown {B : Nat} {w w1 w2 : World} (l : Below B w w1) {r : Option Nat} (g : w1.grownBy w2 r) (hB : B ≤ w1.heap.size) (hr : ∀ b, r = some b → B ≤ b) : Below B w w2 :=
  ⟨g.os.trans l.os, g.tape.trans l.tape, g.output.trans l.output, Nat.le_trans l.size g.size, fun j hj => (g.block j (Nat.lt_of_lt_of_le hj hB) (fun e => by have := hr j e.symm; omega)).trans (l.block j hj)⟩
theorem Has.grown {w w' : World} {b : Nat} {k : IntKind} {n : Nat} {f : Nat → Int} (h : Has w b k n f) {r : Option Nat} (g : w.grownBy w' r) (hb : b < w.heap.size) (hne : some b ≠ r) : Has w' b k n f :=
  ⟨fun j hj => by rw [World.cell?_of_block (a := ⟨b, j, none⟩) (g.block b hb hne)]; exact h.cell j hj, fun j hj => by rw [World.frozen?_of_block (a := ⟨b, j, none⟩) (g.block b hb hne)]; exact h.free j hj⟩
theorem Own.nilCap {w : World} {base : Nat} {e : TypeId} {k : IntKind} {n : Nat} {f : Nat → Int} {sp : Option Addr} {c : Nat} (h : Own w base e k n f (.slice sp n c)) : sp = none → c = 0 := fun e => by
  rcases h.2 with ⟨hv, _⟩ | ⟨g, cap, cur, hv, _⟩
  · injection hv
  · injection hv with hv _ _
    rw [e] at hv
    cases hv
theorem Own.lower {w : World} {base base' : Nat} {e : TypeId} {k : IntKind} {n : Nat} {f : Nat → Int} {v : Value} (h : Own w base e k n f v) (hb : base' ≤ base) : Own w base' e k n f v := by
  refine ⟨h.1, ?_⟩
  rcases h.2 with h2 | ⟨g, cap, cur, h1, h2, h3⟩
  · exact .inl h2
  · exact .inr ⟨g, cap, cur, h1, Nat.le_trans hb h2, h3⟩
theorem Own.le {w : World} {base : Nat} {e : TypeId} {k : IntKind} {n : Nat} {f : Nat → Int} {sp : Option Addr} {c : Nat} (h : Own w base e k n f (.slice sp n c)) : n ≤ c := by
  rcases h.2 with ⟨hv, h0⟩ | ⟨g, cap, cur, hv, _, _, hc, _⟩
  · omega
  · injection hv with _ _ hc2
    omega
end Go.Proofs.YtbhhboiofepnhaaDoor

namespace Go.Proofs.YtbhhboiofepnhaaDoor
open Go.RowKit

theorem run_equalIn_row {P : Program} (w : World) (d : Nat) (t e : TypeId) (n : Nat) (k : IntKind) (ht : P.underlying t = some (.array n e)) (he : P.underlying e = some (.int k)) (hsz : ∀ w, (sizeOf e).run P w = .ok 1 w) (f : Nat → Int) :
    (Op.equalIn (d + 2) t (.agg (row k n f).toArray) (.agg (row k n f).toArray)).run P w = .ok true w := by
  rw [Op.equalIn]
  simp only [Sem.run_bind, run_underlying ht, Result.andThen_ok, hsz, Std.Legacy.Range.forIn_eq_forIn_range', Std.Legacy.Range.size, Nat.sub_zero, Nat.add_sub_cancel, Nat.div_one]
  have hl : ∀ i ∈ List.range' 0 n 1, i < n := fun i hi => by simpa using (List.mem_range'_1.1 hi).2
  generalize List.range' 0 n 1 = l at hl ⊢
  induction l with
  | nil => simp
  | cons i l ih =>
    have hi : i < n := hl i (by simp)
    have px : (part e (row k n f).toArray (i * 1)).run P w = .ok (.int k (f i)) w := by
      simp [part, isAgg, run_underlying he, row_get k n f i hi]
    have pe : (Op.equalIn (d + 1) e (.int k (f i)) (.int k (f i))).run P w = .ok true w := by
      rw [run_equalIn_int w d e k k _ _ he, beq_self_eq_true]
    simp only [List.forIn_cons, Sem.run_bind, px, pe, Result.andThen_ok, Bool.not_true, Bool.false_eq_true, if_false, Sem.run_pure]
    exact ih fun j hj => hl j (by simp [hj])
theorem eqlRow {P : Program} {o : Oper} {a : Act} (n : Nat) (k : IntKind) (f g : Nat → Int) (t e t' : TypeId) (x y : Operand) (ho : o.op = .binOp .eql t x y t') (hx : a.eval x = .agg (row k n f).toArray) (hy : a.eval y = .agg (row k n g).toArray)
    (ht : P.underlying t = some (.array n e)) (he : P.underlying e = some (.int k)) (hsz : ∀ w, (sizeOf e).run P w = .ok 1 w) (hm : P.eqGuardType P.depth t = false) (h : ∀ j, j < n → f j = g j) (w : World) :
    (execOp a.eval o).run P w = .ok (.value (.bool true)) w := by
  rw [← row_congr k n h] at hy
  have e1 : (binOp .eql t (.agg (row k n f).toArray) (.agg (row k n f).toArray)).run P w = .ok (.bool true) w := by
    rw [run_eql_struct, run_equalIn_row w 9998 t e n k ht he hsz f]
    rfl
  unfold execOp
  simp only [ho, hx, hy, Sem.run_bind, run_eqGuard_agg w .eql t x y _ _ hm, Result.andThen_ok, e1, Sem.run_pure]
end Go.Proofs.YtbhhboiofepnhaaDoor

namespace Go.Proofs.YtbhhboiofepnhaaDoor
open Go.RowKit

theorem there_grown {w w' : World} {B n : Nat} {r : Option Nat} (h : w.there B 0 n) (g : w.grownBy w' r) (hb : B < w.heap.size) (hne : r ≠ some B) : w'.there B 0 n := fun j hj => by
  have e := g.block B hb (fun e => hne e.symm)
  have := h j hj
  rw [World.cell?_of_block (a := ⟨B, 0 + j, none⟩) e, World.frozen?_of_block (a := ⟨B, 0 + j, none⟩) e]
  exact this
theorem Fb.grown {n w0 B : Nat} {w w' : World} {r : Option Nat} (h : Fb n w0 B w) (g : w.grownBy w' r) (hne : r ≠ some B) : Fb n w0 B w' := ⟨h.lo, Nat.lt_of_lt_of_le h.hi g.size, there_grown h.th g h.hi hne⟩
theorem Src.grown {w w' : World} {p n : Nat} {f : Nat → Int} {r : Option Nat} (h : Src w (some ⟨p, 0, Option.none⟩) n f) (g : w.grownBy w' r) (hp : p < w.heap.size) (hne : r ≠ some p) : Src w' (some ⟨p, 0, Option.none⟩) n f := fun j hj => by
  obtain ⟨ad, e, hc⟩ := h j hj
  injection e with e
  subst e
  refine ⟨_, rfl, ?_⟩
  rw [Addr.add_mid] at hc ⊢
  rw [World.cell?_of_block (a := ⟨p, 0 + j, Option.none⟩) (g.block p hp (fun e => hne e.symm))]
  exact hc
section
variable {P : Program} {ops : Array Oper} {Q : Exit → Act → World → Prop} {md : Region.Mode} {S : World → Prop}
theorem skipL {o : Oper} {rest : List Oper} {a : Act} {w : World} (hw : Region.wanted o (yielded ops a.tmps) = false) (h : wpList P ops Q rest (a.put o.dst undef) w) : wpList P ops Q (o :: rest) a w := by
  unfold wpList
  rw [if_neg (by rw [hw]; decide)]
  exact h
end
end Go.Proofs.YtbhhboiofepnhaaDoor

namespace Go.Proofs.YtbhhboiofepnhaaDoor
open Go.RowKit

theorem Src.none {w : World} {sp : Option Addr} {len : Nat} {z : Nat → Int} (h : Src w sp len z) : sp = none → len = 0 := fun e => by
  rcases Nat.eq_zero_or_pos len with h0 | h0
  · exact h0
  · obtain ⟨ad, he, _⟩ := h 0 h0
    rw [e] at he
    cases he

section
variable {P : Program} {o : Oper} {a : Act}
/-- The first bytes of a slice, and what stands behind them. -/
theorem cut_hi {t : TypeId} (ht : P.underlying t = some (.slice (P.elem t))) (hsz : ∀ w, (sizeOf (P.elem t)).run P w = .ok 1 w) (sp : Option Addr) (len cap m : Nat) (hm : m ≤ len) (hc : len ≤ cap) :
    ∃ sp', (∀ w, (Instr.sliceAt t (.slice sp len cap) none (some (.int .i64 (m : Int))) none).run P w = .ok (.slice sp' m cap) w) ∧ ∀ w z, Src w sp len z → Src w sp' m z := by
  refine ⟨if cap = 0 then sp else sp.map (·.add (0 * 1)), fun w => ?_, fun w z h j hj => ?_⟩
  · rw [run_sliceAt_slice w t _ _ _ _ ht, run_slice_h w t sp len cap ht .i64 (m : Int) (by omega) (by omega), hsz]
    simp only [Result.andThen, sliced, Int.toNat_natCast, Nat.sub_zero]
  · obtain ⟨ad, rfl, hc'⟩ := h j (by omega)
    rw [if_neg (by omega)]
    exact ⟨ad.add (0 * 1), rfl, by rw [Nat.zero_mul, Addr.add_add, Nat.zero_add]; exact hc'⟩
end
end Go.Proofs.YtbhhboiofepnhaaDoor

namespace Go.Proofs.YtbhhboiofepnhaaDoor
open Go.RowKit

section
variable {P : Program} {o : Oper} {a : Act}
theorem shlI (k yk : IntKind) (n y r : Int) (t t' : TypeId) (x x' : Operand) (ho : o.op = .binOp .shl t x x' t') (hx : a.eval x = .int k n) (hy : a.eval x' = .int yk y) (h0 : 0 ≤ y) (hr : k.wrap (n * 2 ^ min y.toNat k.bits) = r) (w : World) : (execOp a.eval o).run P w = .ok (.value (.int k r)) w := by
  unfold execOp
  simp only [ho, hx, hy, Sem.run_bind, eqGuard_at_int, binOp_shl, shift_shl_any k yk n y h0, Sem.run_pure, Result.andThen_ok, hr]
theorem vorI (k : IntKind) (n n' r : Int) (t t' : TypeId) (x y : Operand) (ho : o.op = .binOp .or t x y t') (hx : a.eval x = .int k n) (hy : a.eval y = .int k n') (hr : bits .or k n n' = r) (w : World) : (execOp a.eval o).run P w = .ok (.value (.int k r)) w := by
  unfold execOp
  simp only [ho, hx, hy, Sem.run_bind, eqGuard_at_int, binOp_or, intBits_or, Sem.run_pure, Result.andThen_ok, hr]
theorem gtrI (k : IntKind) (n n' : Int) (t t' : TypeId) (x y : Operand) (ho : o.op = .binOp .gtr t x y t') (hx : a.eval x = .int k n) (hy : a.eval y = .int k n') (r : Bool) (hr : decide (n > n') = r) (w : World) : (execOp a.eval o).run P w = .ok (.value (.bool r)) w := by
  unfold execOp
  simp only [ho, hx, hy, Sem.run_bind, eqGuard_at_int, binOp_gtr, Sem.run_pure, Result.andThen_ok, hr]
theorem geqI (k : IntKind) (n n' : Int) (t t' : TypeId) (x y : Operand) (ho : o.op = .binOp .geq t x y t') (hx : a.eval x = .int k n) (hy : a.eval y = .int k n') (r : Bool) (hr : decide (n ≥ n') = r) (w : World) : (execOp a.eval o).run P w = .ok (.value (.bool r)) w := by
  unfold execOp
  simp only [ho, hx, hy, Sem.run_bind, eqGuard_at_int, binOp_geq, Sem.run_pure, Result.andThen_ok, hr]
end
theorem loadAny {P : Program} {o : Oper} {a : Act} {w : World} (ty : TypeId) (k : IntKind) (x : Operand) (p : Addr) (v : Value) (ho : o.op = .load ty x) (hx : a.eval x = .pointer (some p)) (hu : P.underlying ty = some (.int k)) (hc : w.cell? p = some v) : (execOp a.eval o).run P w = .ok (.value v) w := by
  have hagg : (isAgg ty).run P w = .ok false w := by
    unfold isAgg
    rw [Sem.run_bind, run_underlying hu w]
    rfl
  have e : (loadVar ty p).run P w = .ok v w := by simp [loadVar, Sem.run_bind, hagg, hc]
  unfold execOp
  simp only [ho, hx, Instr.loadAt, Instr.sureAddr, Sem.run_bind, Sem.run_pure, Result.andThen_ok, e]
theorem cut_loN {P : Program} {t : TypeId} (ht : P.underlying t = some (.slice (P.elem t))) (hsz : ∀ w, (sizeOf (P.elem t)).run P w = .ok 1 w) (sp : Option Addr) (len cap m : Nat) (hm : m ≤ len) (hc : len ≤ cap) (hn : sp = none → cap = 0) :
    ∃ sp', (∀ w, (Instr.sliceAt t (.slice sp len cap) (some (.int .i64 (m : Int))) none none).run P w = .ok (.slice sp' (len - m) (cap - m)) w) ∧ (∀ w z, Src w sp len z → Src w sp' (len - m) (fun j => z (m + j))) ∧ (sp' = none → cap - m = 0) := by
  refine ⟨if cap = m then sp else sp.map (·.add (m * 1)), fun w => ?_, fun w z h j hj => ?_, fun e => ?_⟩
  · rw [run_sliceAt_slice w t _ _ _ _ ht, run_slice_l w t sp len cap ht .i64 (m : Int) (by omega) (by omega), hsz]
    simp only [Result.andThen, sliced, Int.toNat_natCast]
  · obtain ⟨ad, rfl, hc'⟩ := h (m + j) (by omega)
    rw [if_neg (by omega)]
    exact ⟨ad.add (m * 1), rfl, by rw [Nat.mul_one, Addr.add_add]; exact hc'⟩
  · by_cases hm : cap = m
    · omega
    · rw [if_neg hm] at e
      cases sp with
      | none => have := hn rfl; omega
      | some ad => cases e
theorem cut_hiN {P : Program} {t : TypeId} (ht : P.underlying t = some (.slice (P.elem t))) (hsz : ∀ w, (sizeOf (P.elem t)).run P w = .ok 1 w) (sp : Option Addr) (len cap m : Nat) (hm : m ≤ len) (hc : len ≤ cap) (hn : sp = none → cap = 0) :
    ∃ sp', (∀ w, (Instr.sliceAt t (.slice sp len cap) none (some (.int .i64 (m : Int))) none).run P w = .ok (.slice sp' m cap) w) ∧ (∀ w z, Src w sp len z → Src w sp' m z) ∧ (sp' = none → cap = 0) := by
  refine ⟨if cap = 0 then sp else sp.map (·.add (0 * 1)), fun w => ?_, fun w z h j hj => ?_, fun e => ?_⟩
  · rw [run_sliceAt_slice w t _ _ _ _ ht, run_slice_h w t sp len cap ht .i64 (m : Int) (by omega) (by omega), hsz]
    simp only [Result.andThen, sliced, Int.toNat_natCast, Nat.sub_zero]
  · obtain ⟨ad, rfl, hc'⟩ := h j (by omega)
    rw [if_neg (by omega)]
    exact ⟨ad.add (0 * 1), rfl, by rw [Nat.zero_mul, Addr.add_add, Nat.zero_add]; exact hc'⟩
  · by_cases hm : cap = 0
    · exact hm
    · rw [if_neg hm] at e
      cases sp with
      | none => exact hn rfl
      | some ad => cases e
theorem shr_byte (n e : Nat) (he : e ≤ 7) : (n : Int) / 2 ^ min ((8 * e : Nat) : Int).toNat IntKind.i64.bits = ((n / 256 ^ e : Nat) : Int) := by
  have h1 : min ((8 * e : Nat) : Int).toNat IntKind.i64.bits = 8 * e := by
    show min ((8 * e : Nat) : Int).toNat 64 = 8 * e
    omega
  rw [h1, show (2 : Int) ^ (8 * e) = ((256 ^ e : Nat) : Int) by rw [show (256 : Nat) = 2 ^ 8 from rfl, ← Nat.pow_mul]; norm_cast]
  norm_cast
end Go.Proofs.YtbhhboiofepnhaaDoor

namespace Go.Proofs.YtbhhboiofepnhaaDoor
open Go.RowKit

section
variable {P : Program} {ops : Array Oper} {Q : Exit → Act → World → Prop} {md : Region.Mode} {S : World → Prop}
/-- An operation that is done if c. -/
theorem mayL {o : Oper} {rest : List Oper} {a : Act} {w : World} (c : Bool) (v x : Value) (hc : Region.wanted o (yielded ops a.tmps) = c) (hx : x = (bif c then v else undef)) (hv : c = true → (execOp a.eval o).run P w = .ok (.value v) w)
    (h : wpList P ops Q rest (a.put o.dst x) w) : wpList P ops Q (o :: rest) a w := by
  subst hx
  unfold wpList
  rw [hc]
  cases c with
  | true =>
    rw [if_pos rfl]
    refine .inl ?_
    unfold Oper.wp
    rw [hv rfl]
    exact h
  | false =>
    rw [if_neg (by decide)]
    exact h
/-- A call that is done if c. -/
theorem mayCallL {o : Oper} {rest : List Oper} {a : Act} {w : World} (c : Bool) (v x : Value) (f : FuncId) (args : Array Value) (hc : Region.wanted o (yielded ops a.tmps) = c) (hx : x = (bif c then v else undef))
    (he : c = true → ∀ w, (execOp a.eval o).run P w = .ok (.enter f args) w) (hC : c = true → Calls P f args w fun e w' => e = .returned v ∧ Below w.heap.size w w')
    (h : ∀ w', Below w.heap.size w w' → wpList P ops Q rest (a.put o.dst x) w') : wpList P ops Q (o :: rest) a w := by
  subst hx
  unfold wpList
  rw [hc]
  cases c with
  | true =>
    rw [if_pos rfl]
    refine .inl ?_
    unfold Oper.wp
    rw [he rfl w]
    refine (hC rfl).mono fun e w' hR => ?_
    obtain ⟨rfl, l⟩ := hR
    exact h w' l
  | false =>
    rw [if_neg (by decide)]
    exact h w (Below.refl _ _)
/-- What only one operation may do, a skip. -/
theorem storeAny {o : Oper} {a : Act} {w : World} (v : Value) (b j : Nat) (ty : TypeId) (x y : Operand) (ho : o.op = .store ty x y) (hx : a.eval x = .pointer (some ⟨b, j, none⟩)) (hy : a.eval y = v) (hv : v.cells = #[v]) (h1 : v.oneCell' = true)
    (hc : (w.cell? ⟨b, j, none⟩).isSome = true) (hf : w.frozen? ⟨b, j, none⟩ = false) (hz : (P.info? ty).map (·.size) = some 1) : (execOp a.eval o).run P w = .ok .skip (w.setCell ⟨b, j, none⟩ v) := by
  have h0 : ∀ k : Nat, k < [v].length → k = 0 := fun k hk => by simpa using hk
  have hst := run_storeCells_cells (P := P) b j [v] 0 w (fun k hk => by rw [h0 k hk]; simpa using hc) (fun k hk => by rw [h0 k hk]; simpa using hf) (fun u hu => by simp at hu; subst hu; exact h1)
  cases hq : P.info? ty with
  | none => simp [hq] at hz
  | some i =>
    have hs : i.size = 1 := by simp [hq] at hz; omega
    simp only [Nat.add_zero] at hst
    have e : (storeVar ty ⟨b, j, none⟩ v).run P w = .ok () (w.setCell ⟨b, j, none⟩ v) := by
      simp [storeVar, sizeOf, typeInfo, hq, hv, hs, hst, World.setCells]
    unfold execOp
    simp only [ho, hx, hy, Instr.storeAt, Instr.sureAddr, Sem.run_bind, Sem.run_pure, Result.andThen_ok, e]
theorem skipOpL {o : Oper} {rest : List Oper} {a : Act} {w w' : World} (hw : Region.wanted o (yielded ops a.tmps) = true) (he : (execOp a.eval o).run P w = .ok .skip w') (h : wpList P ops Q rest (a.put o.dst undef) w') : wpList P ops Q (o :: rest) a w := by
  unfold wpList
  rw [if_pos hw]
  refine .inl ?_
  unfold Oper.wp
  rw [he]
  exact h
/-- One cell is loaded, wherever it lies, whatever is in it; several. -/
theorem load1 {o : Oper} {a : Act} {w : World} (ty : TypeId) (x : Operand) (p : Addr) (v : Value) (ho : o.op = .load ty x) (hx : a.eval x = .pointer (some p)) (hagg : ∀ w, (isAgg ty).run P w = .ok false w) (hc : w.cell? p = some v) : (execOp a.eval o).run P w = .ok (.value v) w := by
  have e : (loadVar ty p).run P w = .ok v w := by simp [loadVar, Sem.run_bind, hagg, hc]
  unfold execOp
  simp only [ho, hx, Instr.loadAt, Instr.sureAddr, Sem.run_bind, Sem.run_pure, Result.andThen_ok, e]
theorem loadN {o : Oper} {a : Act} {w : World} (ty : TypeId) (x : Operand) (p : Addr) (cs : List Value) (ho : o.op = .load ty x) (hx : a.eval x = .pointer (some p)) (hagg : ∀ w, (isAgg ty).run P w = .ok true w) (hz : ∀ w, (sizeOf ty).run P w = .ok cs.length w)
    (hc : ∀ j v, cs[j]? = some v → w.cell? (p.add j) = some v) : (execOp a.eval o).run P w = .ok (.value (.agg cs.toArray)) w := by
  have e : (loadVar ty p).run P w = .ok (.agg cs.toArray) w := by simp [loadVar, Sem.run_bind, hagg, hz, run_loadCells_list w p cs hc]
  unfold execOp
  simp only [ho, hx, Instr.loadAt, Instr.sureAddr, Sem.run_bind, Sem.run_pure, Result.andThen_ok, e]
end

theorem Own.src {w : World} {base : Nat} {e : TypeId} {n : Nat} {f : Nat → Int} {sp : Option Addr} {c : Nat} (h : Own w base e .u8 n f (.slice sp n c)) : Src w sp n f := by
  obtain ⟨sp', c', e, _, hs⟩ := h.bytes
  injection e with e1 _ _
  subst e1
  exact hs
/-- Blocks of one's own, with what is in them; what stood in w0 stands. -/
structure Mm (w0 : World) (l : List (Nat × List Value)) (w : World) : Prop where
  rows : ∀ p ∈ l, (∀ j, j < p.2.length → w.cell? ⟨p.1, j, none⟩ = p.2[j]? ∧ w.frozen? ⟨p.1, j, none⟩ = false) ∧ w0.heap.size ≤ p.1 ∧ p.1 < w.heap.size
  apart : l.Pairwise fun p q => p.1 ≠ q.1
  below : Below w0.heap.size w0 w
section
variable {w0 w w' : World} {l : List (Nat × List Value)}
theorem Mm.init (w : World) : Mm w [] w := ⟨fun _ h => (by cases h), List.Pairwise.nil, Below.refl _ _⟩
theorem Mm.of (b : Below w0.heap.size w0 w) : Mm w0 [] w := ⟨fun _ h => (by cases h), List.Pairwise.nil, b⟩
theorem Mm.call (h : Mm w0 l w) (b : Below w.heap.size w w') : Mm w0 l w' :=
  ⟨fun p hp => ⟨fun j hj => by
    have hlt := (h.rows p hp).2.2
    rw [b.cell (p := ⟨p.1, j, none⟩) hlt, b.frozen (p := ⟨p.1, j, none⟩) hlt]
    exact (h.rows p hp).1 j hj, (h.rows p hp).2.1, Nat.lt_of_lt_of_le (h.rows p hp).2.2 b.size⟩, h.apart, h.below.trans (b.mono h.below.size)⟩
theorem Mm.drew (h : Mm w0 l w) : Mm w0 l w.drew := h.call (Below.refl _ _).drew
theorem Mm.sub (h : Mm w0 l w) (l' : List (Nat × List Value)) (hl : l'.Sublist l) : Mm w0 l' w := ⟨fun p hp => h.rows p (hl.subset hp), h.apart.sublist hl, h.below⟩
theorem Mm.box (h : Mm w0 l w) (c : Array Value) (t : TypeId) (b : Nat) (hb : b = w.heap.size) : Mm w0 ((b, c.toList) :: l) (w.alloc (.cells c t)) := by
  subst hb
  have hc := h.call ((Below.refl w.heap.size w).alloc (Nat.le_refl _) (.cells c t))
  refine ⟨fun p hp => ?_, List.pairwise_cons.2 ⟨fun q hq e => ?_, h.apart⟩, hc.below⟩
  · rcases List.mem_cons.1 hp with rfl | hp
    · refine ⟨fun j hj => ⟨?_, World.frozen?_alloc_at _ _ _ _ rfl⟩, h.below.size, by simp⟩
      rw [World.cell?_alloc_at _ _ _ _ rfl]
      simp
    · exact hc.rows p hp
  · have := (h.rows q hq).2.2
    simp only at e
    omega
theorem Mm.get (h : Mm w0 l w) {b : Nat} {cs : List Value} (hp : (b, cs) ∈ l) (j : Nat) (v : Value) (hv : cs[j]? = some v) : w.cell? ⟨b, j, none⟩ = some v := by
  have hj : j < cs.length := by
    rcases Nat.lt_or_ge j cs.length with h' | h'
    · exact h'
    · rw [List.getElem?_eq_none h'] at hv; cases hv
  rw [((h.rows _ hp).1 j hj).1, hv]
theorem Mm.isSome (h : Mm w0 l w) {b : Nat} {cs : List Value} (hp : (b, cs) ∈ l) (j : Nat) (hj : j < cs.length) : (w.cell? ⟨b, j, none⟩).isSome = true := by
  rw [((h.rows _ hp).1 j hj).1, List.getElem?_eq_getElem hj]
  rfl
theorem Mm.free (h : Mm w0 l w) {b : Nat} {cs : List Value} (hp : (b, cs) ∈ l) (j : Nat) (hj : j < cs.length) : w.frozen? ⟨b, j, none⟩ = false := ((h.rows _ hp).1 j hj).2
theorem Mm.rangeAt (h : Mm w0 l w) {b : Nat} {cs : List Value} (hp : (b, cs) ∈ l) : ∀ j v, cs[j]? = some v → w.cell? ((⟨b, 0, none⟩ : Addr).add j) = some v := fun j v hv => by
  rw [Addr.add_mid, Nat.zero_add]
  exact h.get hp j v hv
theorem Mm.part (h : Mm w0 l w) {b : Nat} {cs : List Value} (hp : (b, cs) ∈ l) (o : Nat) (ds : List Value) (hd : (cs.drop o).take ds.length = ds) : ∀ j v, ds[j]? = some v → w.cell? ((⟨b, o, none⟩ : Addr).add j) = some v := fun j v hv => by
  rw [Addr.add_mid]
  refine h.get hp (o + j) v ?_
  have hj : j < ds.length := by
    rcases Nat.lt_or_ge j ds.length with h' | h'
    · exact h'
    · rw [List.getElem?_eq_none h'] at hv; cases hv
  rw [← hd, List.getElem?_take, if_pos hj, List.getElem?_drop] at hv
  exact hv
theorem size_setCell (w : World) (p : Addr) (v : Value) : (w.setCell p v).heap.size = w.heap.size := by simp
/-- One cell of the first block is stored. -/
theorem Mm.set {b : Nat} {cs : List Value} (h : Mm w0 ((b, cs) :: l) w) (j : Nat) (hj : j < cs.length) (v : Value) : Mm w0 ((b, cs.set j v) :: l) (w.setCell ⟨b, j, none⟩ v) := by
  have hb := h.rows _ List.mem_cons_self
  have hne := (List.pairwise_cons.1 h.apart).1
  refine ⟨fun p hp => ?_, List.pairwise_cons.2 ⟨hne, (List.pairwise_cons.1 h.apart).2⟩, below_setAll h.below b hb.2.1 j [v]⟩
  rcases List.mem_cons.1 hp with rfl | hp
  · refine ⟨fun i hi => ⟨?_, by rw [World.frozen?_setCell]; exact (hb.1 i (by simpa using hi)).2⟩, hb.2.1, by rw [size_setCell]; exact hb.2.2⟩
    simp only [List.length_set] at hi
    by_cases e : i = j
    · subst e
      rw [World.cell?_setCell_same' _ _ _ (h.isSome List.mem_cons_self i hj), List.getElem?_set_self hj]
    · have e2 := World.cell?_setCell_other (w := w) (v := v) (a := ⟨b, j, none⟩) (b := ⟨b, i, none⟩) (by intro e'; injection e' with _ e'; exact e e'.symm)
      simp only
      rw [e2, List.getElem?_set_ne (Ne.symm e)]
      exact (hb.1 i hi).1
  · have h2 := h.rows p (List.mem_cons_of_mem _ hp)
    refine ⟨fun i hi => ⟨?_, by rw [World.frozen?_setCell]; exact (h2.1 i hi).2⟩, h2.2.1, by rw [size_setCell]; exact h2.2.2⟩
    rw [World.cell?_setCell_far _ _ _ _ (hne p hp)]
    exact (h2.1 i hi).1
/-- The blocks in another order. -/
theorem Mm.swap {p q : Nat × List Value} (h : Mm w0 (p :: q :: l) w) : Mm w0 (q :: p :: l) w := by
  obtain ⟨h1, h2⟩ := List.pairwise_cons.1 h.apart
  obtain ⟨h3, h4⟩ := List.pairwise_cons.1 h2
  refine ⟨fun x hx => h.rows x ?_, List.pairwise_cons.2 ⟨fun x hx => ?_, List.pairwise_cons.2 ⟨fun x hx => h1 x (List.mem_cons_of_mem _ hx), h4⟩⟩, h.below⟩
  · rcases List.mem_cons.1 hx with rfl | hx
    · exact List.mem_cons_of_mem _ List.mem_cons_self
    · rcases List.mem_cons.1 hx with rfl | hx
      · exact List.mem_cons_self
      · exact List.mem_cons_of_mem _ (List.mem_cons_of_mem _ hx)
  · rcases List.mem_cons.1 hx with rfl | hx
    · exact (h1 q List.mem_cons_self).symm
    · exact h3 x hx
theorem Mm.grown (h : Mm w0 l w) {r : Option Nat} (g : w.grownBy w' r) (m : Nat) (hm : ∀ p ∈ l, p.1 < m) (h0 : w0.heap.size ≤ m) (hz : m ≤ w.heap.size) (hr : ∀ b, r = some b → m ≤ b) : Mm w0 l w' := by
  have hb : Below m w w' := ⟨g.os, g.tape, g.output, g.size, fun j hj => g.block j (Nat.lt_of_lt_of_le hj hz) (fun e => by have := hr j e.symm; omega)⟩
  exact ⟨fun p hp => ⟨fun j hj => by
    rw [hb.cell (p := ⟨p.1, j, none⟩) (hm p hp), hb.frozen (p := ⟨p.1, j, none⟩) (hm p hp)]
    exact (h.rows p hp).1 j hj, (h.rows p hp).2.1, Nat.lt_of_lt_of_le (h.rows p hp).2.2 g.size⟩, h.apart, h.below.trans (hb.mono h0)⟩
theorem Mm.lt (h : Mm w0 l w) {b : Nat} {cs : List Value} (hp : (b, cs) ∈ l) : b < w.heap.size := (h.rows _ hp).2.2
theorem Mm.lo (h : Mm w0 l w) {b : Nat} {cs : List Value} (hp : (b, cs) ∈ l) : w0.heap.size ≤ b := (h.rows _ hp).2.1
end
end Go.Proofs.YtbhhboiofepnhaaDoor

namespace Go.Proofs.YtbhhboiofepnhaaDoor
open Go.RowKit

def i64 (n : Int) : Prop := -9223372036854775808 ≤ n ∧ n < 9223372036854775808
/-- Nothing that stood is changed but in the blocks X. -/
structure Off (X : List Nat) (w w' : World) : Prop where
  size : w.heap.size ≤ w'.heap.size
  blk : ∀ b, b < w.heap.size → b ∉ X → w'.heap[b]? = w.heap[b]?
section
variable {X Y : List Nat} {w w1 w2 : World}
theorem Off.refl (X : List Nat) (w : World) : Off X w w := ⟨Nat.le_refl _, fun _ _ _ => rfl⟩
theorem Off.trans (h : Off X w w1) (g : Off X w1 w2) : Off X w w2 := ⟨Nat.le_trans h.size g.size, fun b hb hX => (g.blk b (Nat.lt_of_lt_of_le hb h.size) hX).trans (h.blk b hb hX)⟩
theorem Off.mono (h : Off X w w1) (hX : ∀ b ∈ X, b ∈ Y) : Off Y w w1 := ⟨h.size, fun b hb hY => h.blk b hb fun e => hY (hX b e)⟩
theorem Off.of_below (l : Below w.heap.size w w1) : Off X w w1 := ⟨l.size, fun b hb _ => l.block b hb⟩
theorem Off.below (h : Off X w w1) (l : Below w1.heap.size w1 w2) : Off X w w2 := h.trans (.of_below l)
theorem Off.set (h : Off X w w1) {b : Nat} (hb : b ∈ X) (j : Nat) (v : Value) : Off X w (w1.setCell ⟨b, j, none⟩ v) :=
  h.trans ⟨by simp, fun c _ hX => by
    have : c ≠ b := fun e => hX (e ▸ hb)
    simp [World.setCell, Array.getElem?_modify, Ne.symm this]⟩
theorem Off.grown (h : Off X w w1) {r : Option Nat} (g : w1.grownBy w2 r) (hr : ∀ b, r = some b → b ∈ X ∨ w.heap.size ≤ b) : Off X w w2 :=
  ⟨Nat.le_trans h.size g.size, fun b hb hX => by
    rw [g.block b (Nat.lt_of_lt_of_le hb h.size) (fun e => by
      rcases hr b e.symm with h' | h'
      · exact hX h'
      · omega)]
    exact h.blk b hb hX⟩
theorem Off.cell (h : Off X w w1) {p : Addr} {v : Value} (hc : w.cell? p = some v) (hX : p.block ∉ X) : w1.cell? p = some v := by
  rw [World.cell?_of_block (h.blk p.block (World.block_lt_of_cell? w p hc) hX)]
  exact hc
end
/-- Bytes that lie in none of the blocks X. -/
def SrcA (X : List Nat) (w : World) (sp : Option Addr) (n : Nat) (z : Nat → Int) : Prop := Src w sp n z ∧ ∀ ad, sp = some ad → 0 < n → ad.block ∉ X
theorem add_block (p : Addr) (j : Nat) : (p.add j).block = p.block := by unfold Addr.add; split <;> rfl
theorem SrcA.off {X : List Nat} {w w' : World} {sp : Option Addr} {n : Nat} {z : Nat → Int} (h : SrcA X w sp n z) (o : Off X w w') : SrcA X w' sp n z :=
  ⟨fun j hj => by
    obtain ⟨ad, rfl, hc⟩ := h.1 j hj
    exact ⟨ad, rfl, o.cell hc (by rw [add_block]; exact h.2 ad rfl (by omega))⟩, h.2⟩
theorem SrcA.more {X : List Nat} {w : World} {sp : Option Addr} {n : Nat} {z : Nat → Int} (h : SrcA X w sp n z) (b : Nat) (hb : w.heap.size ≤ b) : SrcA (b :: X) w sp n z :=
  ⟨h.1, fun ad e hn hm => by
    obtain ⟨ad', e', hc⟩ := h.1 0 hn
    rw [e] at e'
    injection e' with e'
    subst e'
    have := World.block_lt_of_cell? w _ hc
    rw [add_block] at this
    rcases List.mem_cons.1 hm with rfl | hm
    · omega
    · exact h.2 ad e hn hm⟩
theorem ownsRow_off {X : List Nat} {w w' : World} {base size n : Nat} {e : TypeId} {v : Value} {xs : List Value} (h : w.ownsRow base e size v n xs) (o : Off X w w') (hX : ∀ b ∈ X, v.ownBlock ≠ some b) : w'.ownsRow base e size v n xs := by
  refine ⟨h.1, ?_⟩
  rcases h.2 with h0 | ⟨g, cap, cur, hv, hb, hg, h5, h6, h7, h8⟩
  · exact .inl h0
  · refine .inr ⟨g, cap, cur, hv, hb, ?_, h5, h6, h7, h8⟩
    have hlt : g < w.heap.size := by
      rcases Nat.lt_or_ge g w.heap.size with h' | h'
      · exact h'
      · rw [Array.getElem?_eq_none h'] at hg; cases hg
    rw [o.blk g hlt (fun hm => hX g hm (by rw [hv]; rfl))]
    exact hg

section
variable {P : Program}
end
theorem Mm.off {w0 w w' : World} {l : List (Nat × List Value)} (h : Mm w0 l w) {X : List Nat} (o : Off X w w') (hX : ∀ b ∈ X, w0.heap.size ≤ b) (hl : ∀ p ∈ l, p.1 ∉ X) (hos : w'.os = w.os ∧ w'.tape = w.tape ∧ w'.output = w.output) : Mm w0 l w' :=
  ⟨fun p hp => ⟨fun j hj => by
    have e := o.blk p.1 (h.rows p hp).2.2 (hl p hp)
    rw [World.cell?_of_block (a := ⟨p.1, j, none⟩) e, World.frozen?_of_block (a := ⟨p.1, j, none⟩) e]
    exact (h.rows p hp).1 j hj, (h.rows p hp).2.1, Nat.lt_of_lt_of_le (h.rows p hp).2.2 o.size⟩, h.apart,
   ⟨hos.1.trans h.below.os, hos.2.1.trans h.below.tape, hos.2.2.trans h.below.output, Nat.le_trans h.below.size o.size, fun b hb => (o.blk b (Nat.lt_of_lt_of_le hb h.below.size) (fun hm => by have := hX b hm; omega)).trans (h.below.block b hb)⟩⟩
end Go.Proofs.YtbhhboiofepnhaaDoor

namespace Go.Proofs.YtbhhboiofepnhaaDoor
open Go.RowKit

def pcs (p : Pkt) (bp : Option Addr) (bc : Nat) : List Value := [.int .i64 p.kind, .int .i64 p.role, .int .i64 p.path, .int .i64 p.epo, .int .i64 p.ctr, .slice bp p.body.length bc]
/-- What a packet's cells speak of. -/
structure PV (w : World) (p : Pkt) (bp : Option Addr) (bc : Nat) : Prop where
  src : Src w bp p.body.length (bl p.body)
  le : p.body.length ≤ bc
  nil : bp = none → bc = 0
  max : p.body.length ≤ 140737488351232
  byts : Byts p.body
  kind : i64 p.kind
  role : i64 p.role
  path : i64 p.path
  epo : i64 p.epo
  ctr : i64 p.ctr
theorem PV.below {w w' : World} {p : Pkt} {bp : Option Addr} {bc : Nat} (h : PV w p bp bc) {B : Nat} (b : Below B w w') (hB : w.heap.size ≤ B) : PV w' p bp bc :=
  ⟨h.src.below b hB, h.le, h.nil, h.max, h.byts, h.kind, h.role, h.path, h.epo, h.ctr⟩

/-- The table of packet: how many bytes each number of a head has. -/
def szs : Nat → Int
  | 3 => 2
  | 4 => 6
  | _ => 1
structure PG (w : World) : Prop where
  sz : ∀ j, j < 5 → w.cell? ⟨0, j, none⟩ = some (.int .i64 (szs j))
  size : 1 ≤ w.heap.size
theorem PG.below {w w' : World} (h : PG w) {B : Nat} (l : Below B w w') (hB : 1 ≤ B) : PG w' :=
  ⟨fun j hj => by rw [l.cell (p := ⟨0, j, none⟩) (Nat.lt_of_lt_of_le (show 0 < 1 by decide) hB)]; exact h.sz j hj, by have := h.size; have := l.size; omega⟩
theorem PG.mm {w w' : World} {l : List (Nat × List Value)} (g : PG w) (h : Mm w l w') : PG w' := g.below h.below g.size

end Go.Proofs.YtbhhboiofepnhaaDoor

namespace Go.Proofs.YtbhhboiofepnhaaDoor
open Go.RowKit

abbrev OwnL (w : World) (base : Nat) (l : List Int) (v : Value) : Prop := Own w base 5 .u8 l.length (bl l) v
theorem bl_app' (a b : List Int) (j : Nat) : app (bl a) a.length (bl b) j = bl (a ++ b) j := by
  rw [bl_app]
  rfl
theorem OwnL.app {w : World} {base : Nat} {a b : List Int} {v : Value} (h : Own w base 5 .u8 (a.length + b.length) (app (bl a) a.length (bl b)) v) : OwnL w base (a ++ b) v := by
  unfold OwnL
  rw [List.length_append]
  exact h.congr fun j _ => bl_app' a b j
theorem OwnL.put {w : World} {base : Nat} {l : List Int} {n : Nat} {v : Value} (h : Own w base 5 .u8 (l.length + vsz n) (Go.Proofs.YtbhhboiofepnhaaDoor.app (bl l) l.length (vby n)) v) : OwnL w base (l ++ vlst n) v := by
  refine OwnL.app ?_
  rw [vlst_length]
  refine h.congr fun j hj => ?_
  unfold Go.Proofs.YtbhhboiofepnhaaDoor.app
  split
  · rfl
  · exact (bl_vlst n (j - l.length) (by omega)).symm
theorem OwnL.fix {w : World} {base : Nat} {l : List Int} {n s : Nat} {v : Value} (h : Own w base 5 .u8 (l.length + s) (Go.Proofs.YtbhhboiofepnhaaDoor.app (bl l) l.length (fby n s)) v) : OwnL w base (l ++ (List.range s).map (fby n s)) v := by
  refine OwnL.app ?_
  rw [List.length_map, List.length_range]
  refine h.congr fun j hj => ?_
  unfold Go.Proofs.YtbhhboiofepnhaaDoor.app
  split
  · rfl
  · unfold bl
    rw [List.getD_eq_getElem?_getD, List.getElem?_map, List.getElem?_range (by omega)]
    rfl
end Go.Proofs.YtbhhboiofepnhaaDoor

namespace Go.Proofs.YtbhhboiofepnhaaDoor
open Go.RowKit

def NewF (w : World) (base n : Nat) (f : Nat → Int) (v : Value) : Prop := ∃ sp cap, v = .slice sp n cap ∧ n ≤ cap ∧ (sp = none → cap = 0) ∧ Src w sp n f ∧ ∀ a, sp = some a → base ≤ a.block ∧ a.block < w.heap.size
theorem NewF.nil (w : World) (base : Nat) (f : Nat → Int) : NewF w base 0 f (.slice none 0 0) := ⟨none, 0, rfl, Nat.le_refl _, fun _ => rfl, fun j hj => absurd hj (Nat.not_lt_zero j), fun _ h => by cases h⟩
theorem NewF.src {w : World} {base n : Nat} {f : Nat → Int} {sp : Option Addr} {cap : Nat} (h : NewF w base n f (.slice sp n cap)) : Src w sp n f := by
  obtain ⟨sp', cap', hv, _, _, hs, _⟩ := h
  injection hv with h1 _ _
  subst h1
  exact hs
theorem NewF.le {w : World} {base n : Nat} {f : Nat → Int} {sp : Option Addr} {cap : Nat} (h : NewF w base n f (.slice sp n cap)) : n ≤ cap := by
  obtain ⟨sp', cap', hv, hc, _⟩ := h
  injection hv with _ _ h3
  subst h3
  exact hc
theorem NewF.nilCap {w : World} {base n : Nat} {f : Nat → Int} {sp : Option Addr} {cap : Nat} (h : NewF w base n f (.slice sp n cap)) : sp = none → cap = 0 := by
  obtain ⟨sp', cap', hv, _, hn, _⟩ := h
  injection hv with h1 _ h3
  subst h1 h3
  exact hn
theorem NewF.bytes {w : World} {base n : Nat} {f : Nat → Int} {v : Value} (h : NewF w base n f v) : ∃ sp cap, v = .slice sp n cap ∧ n ≤ cap ∧ Src w sp n f := by
  obtain ⟨sp, cap, hv, hc, _, hs, _⟩ := h
  exact ⟨sp, cap, hv, hc, hs⟩
theorem NewF.congr {w : World} {base n : Nat} {f g : Nat → Int} {v : Value} (h : NewF w base n f v) (he : ∀ j, j < n → f j = g j) : NewF w base n g v := by
  obtain ⟨sp, cap, hv, hc, hn, hs, ha⟩ := h
  exact ⟨sp, cap, hv, hc, hn, fun j hj => by rw [← he j hj]; exact hs j hj, ha⟩
/-- Bytes in a slice that was made behind base. -/
def NewL (w : World) (base : Nat) (l : List Int) (v : Value) : Prop := NewF w base l.length (bl l) v
theorem NewF.off {w w' : World} {base n : Nat} {f : Nat → Int} {v : Value} {X : List Nat} (h : NewF w base n f v) (o : Off X w w') (hX : ∀ b ∈ X, b < base) : NewF w' base n f v := by
  obtain ⟨sp, cap, hv, hc, hn, hs, ha⟩ := h
  have hsz := o.size
  refine ⟨sp, cap, hv, hc, hn, fun j hj => ?_, fun a e => ⟨(ha a e).1, by have := (ha a e).2; omega⟩⟩
  obtain ⟨p, hp, hcell⟩ := hs j hj
  exact ⟨p, hp, o.cell hcell (by rw [add_block]; exact fun hm => by have := hX _ hm; have := (ha p hp).1; omega)⟩
theorem NewF.below {w w' : World} {base n : Nat} {f : Nat → Int} {v : Value} (h : NewF w base n f v) (l : Below w.heap.size w w') : NewF w' base n f v := h.off (X := []) (Off.of_below l) (fun _ hb => by cases hb)
theorem NewF.lower {w : World} {base base' n : Nat} {f : Nat → Int} {v : Value} (h : NewF w base n f v) (hb : base' ≤ base) : NewF w base' n f v := by
  obtain ⟨sp, cap, hv, hc, hn, hs, ha⟩ := h
  exact ⟨sp, cap, hv, hc, hn, hs, fun a e => ⟨Nat.le_trans hb (ha a e).1, (ha a e).2⟩⟩
end Go.Proofs.YtbhhboiofepnhaaDoor

namespace Go.Proofs.YtbhhboiofepnhaaDoor
open Go.RowKit

def pE (p : Pkt) : Int := if pok p = true then 0 else 110
def pL (p : Pkt) : List Int := if pok p = true then pby p else []
def PrintOK : Prop := ∀ (p : Pkt) (bp : Option Addr) (bc : Nat) (w : World), PG w → PV w p bp bc → Calls Tryd.prog 9 #[.agg (pcs p bp bc).toArray] w fun e w' => (∃ v, e = .returned (.tuple #[v, .int .i64 (pE p)]) ∧ OwnL w' w.heap.size (pL p) v) ∧ Below w.heap.size w w'
def HeadOK : Prop := ∀ (p : Pkt) (bp : Option Addr) (bc : Nat) (w : World), PG w → PV w p bp bc → Calls Tryd.prog 11 #[.agg (pcs p bp bc).toArray] w fun e w' => (∃ v, e = .returned v ∧ NewL w' w.heap.size (phd p) v) ∧ Below w.heap.size w w'
theorem phd_rec {p : Pkt} (h : p.kind = 3) (ho : pok p = true) : phd p = hdr p := by unfold phd; rw [if_pos ⟨h, ho⟩]
theorem phd_none {p : Pkt} (h : ¬ (p.kind = 3 ∧ pok p = true)) : phd p = [] := by unfold phd; rw [if_neg h]

end Go.Proofs.YtbhhboiofepnhaaDoor

namespace Go.Proofs.YtbhhboiofepnhaaDoor
open Go.RowKit

set_option maxRecDepth 10000 in
set_option maxHeartbeats 32000000 in
theorem pksame_any (p : Pkt) (bp : Option Addr) (bc : Nat) (bp' : Option Addr) (bc' : Nat) (w : World) (hf : PV w p bp bc) (hg : PV w p bp' bc') :
    Calls Tryd.prog 17 #[.agg (pcs p bp bc).toArray, .agg (pcs p bp' bc').toArray] w fun e w' => e = .returned (.bool true) ∧ Below w.heap.size w w' := by
  have M := Mm.init w
  unfold pcs
  go_enter Tryd.func17, Tryd.ntmps17
  go_upto_region 0 with fail
  refine wp_region_list ?_
  refine actL (w' := w.alloc (.cells #[.int .i64 p.kind, .int .i64 p.role, .int .i64 p.path, .int .i64 p.epo, .int .i64 p.ctr, .slice bp p.body.length bc] 24)) (.pointer (some ⟨w.heap.size, 0, none⟩)) rfl (by kernel_rfl) ?_
  simp only [aP, lI, l0, lS]
  replace M := M.box #[.int .i64 p.kind, .int .i64 p.role, .int .i64 p.path, .int .i64 p.epo, .int .i64 p.ctr, .slice bp p.body.length bc] 24 w.heap.size rfl
  generalize w.alloc (.cells #[.int .i64 p.kind, .int .i64 p.role, .int .i64 p.path, .int .i64 p.epo, .int .i64 p.ctr, .slice bp p.body.length bc] 24) = w1 at M ⊢
  generalize w.heap.size = B1 at *
  replace M : Mm w [(B1, [.int .i64 p.kind, .int .i64 p.role, .int .i64 p.path, .int .i64 p.epo, .int .i64 p.ctr, .slice bp p.body.length bc])] w1 := M
  refine actL (w' := w1.alloc (.cells #[.int .i64 p.kind, .int .i64 p.role, .int .i64 p.path, .int .i64 p.epo, .int .i64 p.ctr, .slice bp' p.body.length bc'] 24)) (.pointer (some ⟨w1.heap.size, 0, none⟩)) rfl (by kernel_rfl) ?_
  simp only [aP, lI, l0, lS]
  replace M := M.box #[.int .i64 p.kind, .int .i64 p.role, .int .i64 p.path, .int .i64 p.epo, .int .i64 p.ctr, .slice bp' p.body.length bc'] 24 w1.heap.size rfl
  generalize w1.alloc (.cells #[.int .i64 p.kind, .int .i64 p.role, .int .i64 p.path, .int .i64 p.epo, .int .i64 p.ctr, .slice bp' p.body.length bc'] 24) = w2 at M ⊢
  generalize w1.heap.size = B2 at *
  replace M : Mm w [(B2, [.int .i64 p.kind, .int .i64 p.role, .int .i64 p.path, .int .i64 p.epo, .int .i64 p.ctr, .slice bp' p.body.length bc']), (B1, [.int .i64 p.kind, .int .i64 p.role, .int .i64 p.path, .int .i64 p.epo, .int .i64 p.ctr, .slice bp p.body.length bc])] w2 := M
  refine readL (.bool false) rfl (by kernel_rfl) ?_
  simp only [aP, lI, l0, lS]
  first | show Exit.then _ _ _ _ _ | show Exit.inBlock _ _ _ _ _
  go_upto_region 1 with fail
  refine wp_region_list ?_
  refine readL (.pointer (some ⟨B1, 0, none⟩)) rfl (by kernel_rfl) ?_
  simp only [aP, lI, l0, lS]
  refine readL (.int .i64 p.kind) rfl (load1 3 _ ⟨B1, 0, none⟩ _ rfl rfl (fun _ => by kernel_rfl) (M.get (List.mem_cons_of_mem _ List.mem_cons_self) 0 _ rfl)) ?_
  simp only [aP, lI, l0, lS]
  refine readL (.pointer (some ⟨B2, 0, none⟩)) rfl (by kernel_rfl) ?_
  simp only [aP, lI, l0, lS]
  refine readL (.int .i64 p.kind) rfl (load1 3 _ ⟨B2, 0, none⟩ _ rfl rfl (fun _ => by kernel_rfl) (M.get List.mem_cons_self 0 _ rfl)) ?_
  simp only [aP, lI, l0, lS]
  refine readL (.bool true) rfl (eqlI .i64 _ _ _ _ _ _ rfl rfl rfl true (beq_self_eq_true _) _) ?_
  simp only [aP, lI, l0, lS]
  refine readL (.bool true) rfl (by kernel_rfl) ?_
  simp only [aP, lI, l0, lS]
  refine readL (.pointer (some ⟨B1, 1, none⟩)) rfl (by kernel_rfl) ?_
  simp only [aP, lI, l0, lS]
  refine readL (.int .i64 p.role) rfl (load1 3 _ ⟨B1, 1, none⟩ _ rfl rfl (fun _ => by kernel_rfl) (M.get (List.mem_cons_of_mem _ List.mem_cons_self) 1 _ rfl)) ?_
  simp only [aP, lI, l0, lS]
  refine readL (.pointer (some ⟨B2, 1, none⟩)) rfl (by kernel_rfl) ?_
  simp only [aP, lI, l0, lS]
  refine readL (.int .i64 p.role) rfl (load1 3 _ ⟨B2, 1, none⟩ _ rfl rfl (fun _ => by kernel_rfl) (M.get List.mem_cons_self 1 _ rfl)) ?_
  simp only [aP, lI, l0, lS]
  refine readL (.bool true) rfl (eqlI .i64 _ _ _ _ _ _ rfl rfl rfl true (beq_self_eq_true _) _) ?_
  simp only [aP, lI, l0, lS]
  refine readL (.bool true) rfl (by kernel_rfl) ?_
  simp only [aP, lI, l0, lS]
  refine readL (.bool true) rfl (by kernel_rfl) ?_
  simp only [aP, lI, l0, lS]
  refine readL (.pointer (some ⟨B1, 2, none⟩)) rfl (by kernel_rfl) ?_
  simp only [aP, lI, l0, lS]
  refine readL (.int .i64 p.path) rfl (load1 3 _ ⟨B1, 2, none⟩ _ rfl rfl (fun _ => by kernel_rfl) (M.get (List.mem_cons_of_mem _ List.mem_cons_self) 2 _ rfl)) ?_
  simp only [aP, lI, l0, lS]
  refine readL (.pointer (some ⟨B2, 2, none⟩)) rfl (by kernel_rfl) ?_
  simp only [aP, lI, l0, lS]
  refine readL (.int .i64 p.path) rfl (load1 3 _ ⟨B2, 2, none⟩ _ rfl rfl (fun _ => by kernel_rfl) (M.get List.mem_cons_self 2 _ rfl)) ?_
  simp only [aP, lI, l0, lS]
  refine readL (.bool true) rfl (eqlI .i64 _ _ _ _ _ _ rfl rfl rfl true (beq_self_eq_true _) _) ?_
  simp only [aP, lI, l0, lS]
  refine readL (.bool true) rfl (by kernel_rfl) ?_
  simp only [aP, lI, l0, lS]
  refine readL (.bool true) rfl (by kernel_rfl) ?_
  simp only [aP, lI, l0, lS]
  refine readL (.pointer (some ⟨B1, 3, none⟩)) rfl (by kernel_rfl) ?_
  simp only [aP, lI, l0, lS]
  refine readL (.int .i64 p.epo) rfl (load1 3 _ ⟨B1, 3, none⟩ _ rfl rfl (fun _ => by kernel_rfl) (M.get (List.mem_cons_of_mem _ List.mem_cons_self) 3 _ rfl)) ?_
  simp only [aP, lI, l0, lS]
  refine readL (.pointer (some ⟨B2, 3, none⟩)) rfl (by kernel_rfl) ?_
  simp only [aP, lI, l0, lS]
  refine readL (.int .i64 p.epo) rfl (load1 3 _ ⟨B2, 3, none⟩ _ rfl rfl (fun _ => by kernel_rfl) (M.get List.mem_cons_self 3 _ rfl)) ?_
  simp only [aP, lI, l0, lS]
  refine readL (.bool true) rfl (eqlI .i64 _ _ _ _ _ _ rfl rfl rfl true (beq_self_eq_true _) _) ?_
  simp only [aP, lI, l0, lS]
  refine readL (.bool true) rfl (by kernel_rfl) ?_
  simp only [aP, lI, l0, lS]
  refine readL (.bool true) rfl (by kernel_rfl) ?_
  simp only [aP, lI, l0, lS]
  refine readL (.pointer (some ⟨B1, 4, none⟩)) rfl (by kernel_rfl) ?_
  simp only [aP, lI, l0, lS]
  refine readL (.int .i64 p.ctr) rfl (load1 3 _ ⟨B1, 4, none⟩ _ rfl rfl (fun _ => by kernel_rfl) (M.get (List.mem_cons_of_mem _ List.mem_cons_self) 4 _ rfl)) ?_
  simp only [aP, lI, l0, lS]
  refine readL (.pointer (some ⟨B2, 4, none⟩)) rfl (by kernel_rfl) ?_
  simp only [aP, lI, l0, lS]
  refine readL (.int .i64 p.ctr) rfl (load1 3 _ ⟨B2, 4, none⟩ _ rfl rfl (fun _ => by kernel_rfl) (M.get List.mem_cons_self 4 _ rfl)) ?_
  simp only [aP, lI, l0, lS]
  refine readL (.bool true) rfl (eqlI .i64 _ _ _ _ _ _ rfl rfl rfl true (beq_self_eq_true _) _) ?_
  simp only [aP, lI, l0, lS]
  refine readL (.bool true) rfl (by kernel_rfl) ?_
  simp only [aP, lI, l0, lS]
  refine readL (.bool true) rfl (by kernel_rfl) ?_
  simp only [aP, lI, l0, lS]
  refine readL (.pointer (some ⟨B1, 5, none⟩)) rfl (by kernel_rfl) ?_
  simp only [aP, lI, l0, lS]
  refine readL (.slice bp p.body.length bc) rfl (load1 22 _ ⟨B1, 5, none⟩ _ rfl rfl (fun _ => by kernel_rfl) (M.get (List.mem_cons_of_mem _ List.mem_cons_self) 5 _ rfl)) ?_
  simp only [aP, lI, l0, lS]
  refine readL (.string (txt p.body.length (bl p.body))) rfl (conv_txt 22 5 9 _ rfl Tryd.underlying22 Tryd.underlying5 Tryd.underlying9 bp p.body.length bc (bl p.body) rfl _ (hf.src.below M.below (Nat.le_refl _)) (fun e => by have := hf.nil e; have := hf.le; omega)) ?_
  simp only [aP, lI, l0, lS]
  refine readL (.pointer (some ⟨B2, 5, none⟩)) rfl (by kernel_rfl) ?_
  simp only [aP, lI, l0, lS]
  refine readL (.slice bp' p.body.length bc') rfl (load1 22 _ ⟨B2, 5, none⟩ _ rfl rfl (fun _ => by kernel_rfl) (M.get List.mem_cons_self 5 _ rfl)) ?_
  simp only [aP, lI, l0, lS]
  refine readL (.string (txt p.body.length (bl p.body))) rfl (conv_txt 22 5 9 _ rfl Tryd.underlying22 Tryd.underlying5 Tryd.underlying9 bp' p.body.length bc' (bl p.body) rfl _ (hg.src.below M.below (Nat.le_refl _)) (fun e => by have := hg.nil e; have := hg.le; omega)) ?_
  simp only [aP, lI, l0, lS]
  refine readL (.bool true) rfl (eqlS _ _ _ _ _ _ rfl rfl rfl rfl _) ?_
  simp only [aP, lI, l0, lS]
  refine readL (.bool true) rfl (by kernel_rfl) ?_
  simp only [aP, lI, l0, lS]
  refine readL (.bool true) rfl (by kernel_rfl) ?_
  simp only [aP, lI, l0, lS]
  first | show Exit.then _ _ _ _ _ | show Exit.inBlock _ _ _ _ _
  go_wp2
  go_ret
  exact ⟨rfl, M.below⟩
end Go.Proofs.YtbhhboiofepnhaaDoor

namespace Go.Proofs.YtbhhboiofepnhaaDoor
open Go.RowKit

theorem Mm.there {w0 w : World} {l : List (Nat × List Value)} (h : Mm w0 l w) {b : Nat} {cs : List Value} (hp : (b, cs) ∈ l) (n : Nat) (hn : n = cs.length) : w.there b 0 n := fun j hj => by
  rw [Nat.zero_add]
  exact ⟨h.isSome hp j (by omega), h.free hp j (by omega)⟩
theorem Mm.setAll {w0 w : World} {l : List (Nat × List Value)} {b : Nat} {cs : List Value} (h : Mm w0 ((b, cs) :: l) w) (ds : List Value) (hd : ds.length = cs.length) : Mm w0 ((b, ds) :: l) (w.setCells b 0 ds) := by
  have hb := h.rows _ List.mem_cons_self
  have hne := (List.pairwise_cons.1 h.apart).1
  have hall : ∀ j, j < ds.length → (w.cell? ⟨b, 0 + j, none⟩).isSome = true := fun j hj => by rw [Nat.zero_add]; exact h.isSome List.mem_cons_self j (by omega)
  refine ⟨fun p hp => ?_, List.pairwise_cons.2 ⟨hne, (List.pairwise_cons.1 h.apart).2⟩, below_setAll h.below b hb.2.1 0 ds⟩
  rcases List.mem_cons.1 hp with rfl | hp
  · refine ⟨fun j hj => ⟨?_, by rw [World.frozen?_setCells]; exact (hb.1 j (by have hj' : j < ds.length := hj; show j < cs.length; omega)).2⟩, hb.2.1, by rw [size_setAll]; exact hb.2.2⟩
    simp only at hj ⊢
    have e := World.cell?_setCells_in b ds 0 w hall j hj
    rw [Nat.zero_add] at e
    rw [e, List.getElem?_eq_getElem hj]
  · have h2 := h.rows p (List.mem_cons_of_mem _ hp)
    refine ⟨fun j hj => ⟨?_, by rw [World.frozen?_setCells]; exact (h2.1 j hj).2⟩, h2.2.1, by rw [size_setAll]; exact h2.2.2⟩
    rw [World.cell?_setCells_out b ds 0 w ⟨p.1, j, none⟩ (fun e _ => absurd e.symm (hne p hp))]
    exact (h2.1 j hj).1
theorem Off.setAll {X : List Nat} {w w1 : World} (h : Off X w w1) {b : Nat} (hb : b ∈ X) : ∀ (o : Nat) (vs : List Value), Off X w (w1.setCells b o vs)
  | _, [] => h
  | o, v :: vs => (h.set hb o v).setAll hb (o + 1) vs
theorem Src.at {w : World} {ad : Addr} {n : Nat} {z : Nat → Int} (h : Src w (some ad) n z) (j : Nat) (hj : j < n) : w.cell? (ad.add j) = some (.int .u8 (z j)) := by
  obtain ⟨ad', e, hc⟩ := h j hj
  injection e with e
  subst e
  exact hc
theorem cut_loA {P : Program} {t : TypeId} (ht : P.underlying t = some (.slice (P.elem t))) (hsz : ∀ w, (sizeOf (P.elem t)).run P w = .ok 1 w) (sp : Option Addr) (len cap m : Nat) (hm : m ≤ len) (hc : len ≤ cap) (hn : sp = none → cap = 0) :
    ∃ sp', (∀ w, (Instr.sliceAt t (.slice sp len cap) (some (.int .i64 (m : Int))) none none).run P w = .ok (.slice sp' (len - m) (cap - m)) w) ∧ (∀ X w z, SrcA X w sp len z → SrcA X w sp' (len - m) (fun j => z (m + j))) ∧ (sp' = none → cap - m = 0) := by
  refine ⟨if cap = m then sp else sp.map (·.add (m * 1)), fun w => ?_, fun X w z h => ⟨fun j hj => ?_, fun ad e hp => ?_⟩, fun e => ?_⟩
  · rw [run_sliceAt_slice w t _ _ _ _ ht, run_slice_l w t sp len cap ht .i64 (m : Int) (by omega) (by omega), hsz]
    simp only [Result.andThen, sliced, Int.toNat_natCast]
  · obtain ⟨ad, rfl, hc'⟩ := h.1 (m + j) (by omega)
    rw [if_neg (by omega)]
    exact ⟨ad.add (m * 1), rfl, by rw [Nat.mul_one, Addr.add_add]; exact hc'⟩
  · rw [if_neg (by omega)] at e
    cases sp with
    | none => cases e
    | some a =>
      injection e with e
      subst e
      rw [add_block]
      exact h.2 a rfl (by omega)
  · by_cases hm : cap = m
    · omega
    · rw [if_neg hm] at e
      cases sp with
      | none => have := hn rfl; omega
      | some ad => cases e
end Go.Proofs.YtbhhboiofepnhaaDoor

namespace Go.Proofs.YtbhhboiofepnhaaDoor
open Go.RowKit

/-- Some cells of a block are stored. -/
theorem storeP {P : Program} {o : Oper} {a : Act} {w : World} (cs : List Value) (b off : Nat) (ty : TypeId) (x y : Operand) (ho : o.op = .store ty x y) (hx : a.eval x = .pointer (some ⟨b, off, none⟩)) (hy : a.eval y = .agg cs.toArray) (ht : w.there b off cs.toArray.size) (hz : (P.info? ty).map (·.size) = some cs.toArray.size) (h1 : ∀ u ∈ cs, u.oneCell' = true) :
    (execOp a.eval o).run P w = .ok .skip (w.setCells b off cs) := by
  unfold execOp
  simp only [ho, hx, hy]
  have e := run_storeAt_mid (P := P) w b off ty cs.toArray ht hz (all_oneCell_toArray h1)
  simp only [Sem.run_bind, e, Result.andThen_ok, Sem.run_pure]
def setL (cs : List Value) : Nat → List Value → List Value
  | _, [] => cs
  | o, v :: vs => setL (cs.set o v) (o + 1) vs
section
variable {w0 w : World} {l : List (Nat × List Value)} {b : Nat} {cs : List Value}
theorem Mm.thereP (h : Mm w0 l w) (hp : (b, cs) ∈ l) (o n : Nat) (hn : o + n ≤ cs.length) : w.there b o n := fun j hj => ⟨h.isSome hp (o + j) (by omega), h.free hp (o + j) (by omega)⟩
theorem Mm.setPartG : ∀ (ds : List Value) (o : Nat) (cs : List Value) (w : World), o + ds.length ≤ cs.length → Mm w0 ((b, cs) :: l) w → Mm w0 ((b, setL cs o ds) :: l) (w.setCells b o ds)
  | [], _, _, _, _, h => h
  | v :: vs, o, cs, w, hl, h => by
    rw [List.length_cons] at hl
    exact Mm.setPartG vs (o + 1) (cs.set o v) _ (by rw [List.length_set]; omega) (h.set o (by omega) v)
theorem Mm.setPart (h : Mm w0 ((b, cs) :: l) w) (ds : List Value) (o : Nat) (hl : o + ds.length ≤ cs.length) : Mm w0 ((b, setL cs o ds) :: l) (w.setCells b o ds) := Mm.setPartG ds o cs w hl h
theorem Mm.perm {l' : List (Nat × List Value)} (h : Mm w0 l w) (hp : l.Perm l') : Mm w0 l' w :=
  ⟨fun p hq => h.rows p (hp.mem_iff.2 hq), hp.pairwise h.apart (fun e => Ne.symm e), h.below⟩
theorem Mm.rot3 {p q r : Nat × List Value} (h : Mm w0 (p :: q :: r :: l) w) : Mm w0 (r :: p :: q :: l) w :=
  h.perm (((List.Perm.swap r q l).cons p).trans (List.Perm.swap r p (q :: l)))
end
theorem Own.off1 {w w' : World} {base : Nat} {e : TypeId} {k : IntKind} {n : Nat} {f : Nat → Int} {v : Value} {b : Nat} (h : Own w base e k n f v) (o : Off [b] w w') (hb : b < base) : Own w' base e k n f v :=
  ownsRow_off h o (fun x hx e => by
    obtain rfl := List.mem_singleton.1 hx
    have h1 := (World.ownsRow.lt h _ e).1
    omega)
theorem retCell {P : Program} {fn : Func} {tmps : Array Value} {w : World} (t : Tmp) (ty : TypeId) (p : Addr) (cs : List Value) (hr : fn.results = #[.cell t ty]) (ha : tmps.getD t undef = .pointer (some p)) (hagg : ∀ w, (isAgg ty).run P w = .ok true w) (hz : ∀ w, (sizeOf ty).run P w = .ok cs.length w) (hc : ∀ j v, cs[j]? = some v → w.cell? (p.add j) = some v) :
    (results fn tmps).run P w = .ok (.agg cs.toArray) w := by
  have e : (loadVar ty p).run P w = .ok (.agg cs.toArray) w := by simp [loadVar, Sem.run_bind, hagg, hz, run_loadCells_list w p cs hc]
  rw [Array.getD_eq_getD_getElem?] at ha
  simp [results, hr, ha, asAddr, e]
theorem retCellTmp {P : Program} {fn : Func} {tmps : Array Value} {w : World} (t t2 : Tmp) (ty : TypeId) (p : Addr) (cs : List Value) (v : Value) (hr : fn.results = #[.cell t ty, .tmp t2]) (ha : tmps.getD t undef = .pointer (some p)) (hb : tmps.getD t2 undef = v) (hagg : ∀ w, (isAgg ty).run P w = .ok true w) (hz : ∀ w, (sizeOf ty).run P w = .ok cs.length w) (hc : ∀ j v, cs[j]? = some v → w.cell? (p.add j) = some v) :
    (results fn tmps).run P w = .ok (.tuple #[.agg cs.toArray, v]) w := by
  have e : (loadVar ty p).run P w = .ok (.agg cs.toArray) w := by simp [loadVar, Sem.run_bind, hagg, hz, run_loadCells_list w p cs hc]
  rw [Array.getD_eq_getD_getElem?] at ha hb
  simp [results, hr, ha, hb, asAddr, e]
end Go.Proofs.YtbhhboiofepnhaaDoor

namespace Go.Proofs.YtbhhboiofepnhaaDoor
open Go.RowKit

def NonceOK : Prop := ∀ (p : Pkt) (bp : Option Addr) (bc : Nat) (w : World), PG w → PV w p bp bc → Calls Tryd.prog 13 #[.agg (pcs p bp bc).toArray] w fun e w' => e = .returned (.agg (row .u8 12 (bl (pno p))).toArray) ∧ Below w.heap.size w w'
theorem pno_rec {p : Pkt} (hk : p.kind = 3 ∧ pok p = true) : pno p = p.path :: (flst p.epo.toNat 2 ++ (0 :: 0 :: 0 :: flst p.ctr.toNat 6)) := by unfold pno; rw [if_pos hk]
theorem pno_none {p : Pkt} (hk : ¬ (p.kind = 3 ∧ pok p = true)) : pno p = List.replicate 12 0 := by unfold pno; rw [if_neg hk]
end Go.Proofs.YtbhhboiofepnhaaDoor

namespace Go.Proofs.YtbhhboiofepnhaaDoor
open Go.RowKit
section
variable {P : Program} {md : Region.Mode} {ops : Array Oper} {Q : Exit → Act → World → Prop} {S : World → Prop}
/-- The one operation that may come up yields something, and may change the world. -/
theorem actO {i : Nat} {oi : Oper} (dst : Option Tmp) (hdst : oi.dst = dst) {K : Act → World → Prop} {a : Act} {w w' : World} (v : Value) (hi : ops[i]? = some oi) (hw : Region.wanted oi (yielded ops a.tmps) = true)
    (he : (execOp a.eval oi).run P w = .ok (.value v) w') (h : K (a.put dst v) w') : wpOp P ops Q i K a w := by
  unfold wpOp
  simp only [hi, hw, if_true]
  refine .inl ?_
  unfold Oper.wp
  rw [he]
  subst hdst
  exact h
theorem onlyH {i : Nat} {oi : Oper} (dst : Option Tmp) (hdst : oi.dst = dst) {fuel : Nat} {listed : Array Bool} {a : Act} {w w' : World} (v : Value) (hr : Region.ready md ops listed = [i]) (hi : ops[i]? = some oi) (hw : Region.wanted oi (yielded ops a.tmps) = true)
    (he : (execOp a.eval oi).run P w = .ok (.value v) w') (hS : S w') (h : wpAnyH P md ops Q S fuel (listed.setIfInBounds i true) (a.put dst v) w') : wpAnyH P md ops Q S (fuel + 1) listed a w :=
  ⟨fun h0 => (by rw [h0] at hr; cases hr), fun j hj => by
    rw [hr] at hj
    obtain rfl := List.mem_singleton.1 hj
    exact actO dst hdst v hi hw he ⟨hS, h⟩⟩
end
end Go.Proofs.YtbhhboiofepnhaaDoor

namespace Go.Proofs.YtbhhboiofepnhaaDoor
open Go.RowKit

def pk0 : Pkt := ⟨0, 0, 0, 0, 0, []⟩
def psP (b : List Int) : Pkt := match pps b with
  | .ok p => p
  | .error _ => pk0
def psE (b : List Int) : Int := match pps b with
  | .ok _ => 0
  | .error e => e
def ParseOK : Prop := ∀ (sp : Option Addr) (cap : Nat) (b : List Int) (w : World), PG w → b.length ≤ 140737488351232 → b.length ≤ cap → (sp = none → cap = 0) → Byts b → Src w sp b.length (bl b) → Calls Tryd.prog 15 #[.slice sp b.length cap] w fun e w' => (∃ bp bc, e = .returned (.tuple #[.agg (pcs (psP b) bp bc).toArray, .int .i64 (psE b)]) ∧ PV w' (psP b) bp bc) ∧ Below w.heap.size w w'
theorem pv0 (w : World) : PV w pk0 none 0 := ⟨fun j hj => absurd hj (Nat.not_lt_zero j), Nat.le_refl _, fun _ => rfl, Nat.zero_le _, fun x hx => (by cases hx), show i64 0 by unfold i64; decide, show i64 0 by unfold i64; decide, show i64 0 by unfold i64; decide, show i64 0 by unfold i64; decide, show i64 0 by unfold i64; decide⟩
theorem ps_err {b : List Int} {e : Int} (h : pps b = .error e) : psP b = pk0 ∧ psE b = e := by unfold psP psE; rw [h]; exact ⟨rfl, rfl⟩
theorem ps_ok {b : List Int} {p : Pkt} (h : pps b = .ok p) : psP b = p ∧ psE b = 0 := by unfold psP psE; rw [h]; exact ⟨rfl, rfl⟩
theorem pps_short {b : List Int} (h : b.length = 0 ∨ (bl b 0 = 3 ∧ b.length < 27)) : pps b = .error 3 := by unfold pps; rw [if_pos h]
theorem pps_bad {b : List Int} (h : ¬ (b.length = 0 ∨ (bl b 0 = 3 ∧ b.length < 27))) (ho : pok (prs b) = false) : pps b = .error 110 := by unfold pps; rw [if_neg h, ho]; rfl
theorem pps_good {b : List Int} (h : ¬ (b.length = 0 ∨ (bl b 0 = 3 ∧ b.length < 27))) (ho : pok (prs b) = true) : pps b = .ok (prs b) := by unfold pps; rw [if_neg h, if_pos ho]
theorem i64_byte {x : Int} (h : 0 ≤ x ∧ x < 256) : i64 x := by unfold i64; omega
theorem fV_i64 (z : Nat → Int) (s : Nat) (hs : s ≤ 6) (hz : In 256 s z) : i64 (fV z s) := by
  have h1 := fV_nonneg z s hz s (Nat.le_refl s)
  have h2 : (256 : Int) ^ s ≤ 281474976710656 := by
    have : s = 0 ∨ s = 1 ∨ s = 2 ∨ s = 3 ∨ s = 4 ∨ s = 5 ∨ s = 6 := by omega
    rcases this with rfl | rfl | rfl | rfl | rfl | rfl | rfl <;> decide
  unfold i64
  omega

end Go.Proofs.YtbhhboiofepnhaaDoor

namespace Go.Proofs.YtbhhboiofepnhaaDoor
open Go.RowKit

theorem Mm.src {w0 w : World} {l : List (Nat × List Value)} (h : Mm w0 l w) {b : Nat} {cs : List Value} (hp : (b, cs) ∈ l) (bs : List Int) (hc : cs = bs.map (Value.int .u8)) : Src w (some ⟨b, 0, none⟩) bs.length (bl bs) := fun j hj => ⟨_, rfl, by
  rw [Addr.add_mid, Nat.zero_add]
  refine h.get hp j _ ?_
  rw [hc, List.getElem?_map, List.getElem?_eq_getElem hj]
  show some (Value.int .u8 bs[j]) = _
  unfold bl
  rw [List.getD_eq_getElem?_getD, List.getElem?_eq_getElem hj]
  rfl⟩
theorem Mm.srcRow {w0 w : World} {l : List (Nat × List Value)} (h : Mm w0 l w) {b : Nat} {cs : List Value} (hp : (b, cs) ∈ l) (o n : Nat) (f : Nat → Int) (hd : (cs.drop o).take (row .u8 n f).length = row .u8 n f) : Src w (some ⟨b, o, none⟩) n f := fun j hj => ⟨_, rfl, h.part hp o _ hd j _ (row_get .u8 n f j hj)⟩
end Go.Proofs.YtbhhboiofepnhaaDoor

namespace Go.Proofs.YtbhhboiofepnhaaDoor
open Go.RowKit

section
variable {P : Program} {ops : Array Oper} {Q : Exit → Act → World → Prop} {md : Region.Mode}
theorem wpAnyH_more {S S' : World → Prop} (h : ∀ w, S' w → S w) : ∀ (n : Nat) (l : Array Bool) (a : Act) (w : World), wpAnyH P md ops Q S' n l a w → wpAnyH P md ops Q S n l a w
  | 0, _, _, _, H => H
  | n + 1, _, _, _, H => ⟨H.1, fun j hj => wpOp_mono (fun a' w' h3 => ⟨h w' h3.1, wpAnyH_more h n _ a' w' h3.2⟩) (H.2 j hj)⟩
end
end Go.Proofs.YtbhhboiofepnhaaDoor

namespace Go.Proofs.YtbhhboiofepnhaaDoor
open Go.RowKit

theorem PV.off1 {w w' : World} {p : Pkt} {bp : Option Addr} {bc b : Nat} (h : PV w p bp bc) (o : Off [b] w w') (hb : ∀ ad, bp = some ad → 0 < p.body.length → ad.block ≠ b) : PV w' p bp bc :=
  { h with src := (SrcA.off ⟨h.src, fun ad e hn hm => hb ad e hn (List.mem_singleton.1 hm)⟩ o).1 }
theorem pL_ok {p : Pkt} (h : pok p = true) : pL p = pby p ∧ pE p = 0 := by unfold pL pE; rw [if_pos h, if_pos h]; exact ⟨rfl, rfl⟩
theorem pL_bad {p : Pkt} (h : pok p = false) : pL p = [] ∧ pE p = 110 := by unfold pL pE; rw [h]; exact ⟨rfl, rfl⟩
theorem pps_ne {b : List Int} {e : Int} (h : pps b = .error e) : e ≠ 0 := by
  unfold pps at h
  split at h
  · injection h with h; subst h; decide
  · split at h
    · cases h
    · injection h with h; subst h; decide
theorem ppr_ok {p : Pkt} {b : List Int} (h : ppr p = .ok b) : pL p = b ∧ pE p = 0 := by
  unfold ppr at h
  split at h
  · rename_i ho
    injection h with h
    subst h
    exact pL_ok ho
  · cases h
theorem hdr_byts {p : Pkt} (hR : Rec p) : Byts (hdr p) := by
  obtain ⟨r1, r2, _⟩ := hR
  intro x hx
  rcases List.mem_cons.1 hx with rfl | hx
  · decide
  · rcases List.mem_cons.1 hx with rfl | hx
    · omega
    · rcases List.mem_cons.1 hx with rfl | hx
      · omega
      · rcases List.mem_append.1 hx with hx | hx
        · exact flst_byts _ _ x hx
        · exact flst_byts _ _ x hx
theorem pby_byts {p : Pkt} (h : pok p = true) (hb : Byts p.body) : Byts (pby p) := by
  unfold pby
  rcases (pok_iff p).1 h with ⟨hk, _⟩ | ⟨hk, hR⟩
  · rw [if_neg (by omega)]
    intro x hx
    rcases List.mem_cons.1 hx with rfl | hx
    · omega
    · exact hb x hx
  · rw [if_pos hk]
    exact (hdr_byts hR).app hb
def rec0 : Pkt := ⟨3, 1, 2, 3, 4, [0, 0, 0, 0, 0, 0, 0, 0, 0, 0, 0, 0, 0, 0, 0, 0]⟩

set_option maxRecDepth 10000 in
set_option maxHeartbeats 32000000 in
theorem shown11 (hP : PrintOK) (hD : ParseOK) (hH : HeadOK) (hN : NonceOK) (w : World) (hg : PG w) : Calls Tryd.prog 8 #[] w fun e w' => e = .returned (.bool true) ∧ Below w.heap.size w w' := by
  have M := Mm.init w
  go_enter Tryd.func8, Tryd.ntmps8
  go_upto_region 0 with fail
  refine wp_region_list ?_
  refine readL (.bool false) rfl (by kernel_rfl) ?_
  simp only [aP, lI, l0]
  first | show Exit.then _ _ _ _ _ | show Exit.inBlock _ _ _ _ _
  go_upto_region 1 with fail
  refine wp_region_list ?_
  refine actL (w' := w.alloc (.cells #[.int .u8 0, .int .u8 0, .int .u8 0, .int .u8 0, .int .u8 0, .int .u8 0, .int .u8 0, .int .u8 0, .int .u8 0, .int .u8 0, .int .u8 0, .int .u8 0, .int .u8 0, .int .u8 0, .int .u8 0, .int .u8 0] 5)) (.slice (some ⟨w.heap.size, 0, none⟩) 16 16) rfl (by kernel_rfl) ?_
  simp only [aP, lI, l0, lS]
  replace M := M.box #[.int .u8 0, .int .u8 0, .int .u8 0, .int .u8 0, .int .u8 0, .int .u8 0, .int .u8 0, .int .u8 0, .int .u8 0, .int .u8 0, .int .u8 0, .int .u8 0, .int .u8 0, .int .u8 0, .int .u8 0, .int .u8 0] 5 w.heap.size rfl
  generalize w.alloc (.cells #[.int .u8 0, .int .u8 0, .int .u8 0, .int .u8 0, .int .u8 0, .int .u8 0, .int .u8 0, .int .u8 0, .int .u8 0, .int .u8 0, .int .u8 0, .int .u8 0, .int .u8 0, .int .u8 0, .int .u8 0, .int .u8 0] 5) = w1 at M  ⊢
  generalize w.heap.size = B1 at *
  replace M : Mm w [(B1, [.int .u8 0, .int .u8 0, .int .u8 0, .int .u8 0, .int .u8 0, .int .u8 0, .int .u8 0, .int .u8 0, .int .u8 0, .int .u8 0, .int .u8 0, .int .u8 0, .int .u8 0, .int .u8 0, .int .u8 0, .int .u8 0])] w1 := M
  refine readL (.agg #[.int .i64 3, .int .i64 1, .int .i64 2, .int .i64 3, .int .i64 4, .slice (some ⟨B1, 0, none⟩) 16 16]) rfl (by kernel_rfl) ?_
  simp only [aP, lI, l0, lS]
  refine actL (w' := w1.alloc (.cells #[.int .i64 0, .int .i64 0, .int .i64 0, .int .i64 0, .int .i64 0, .slice none 0 0] 24)) (.pointer (some ⟨w1.heap.size, 0, none⟩)) rfl (by kernel_rfl) ?_
  simp only [aP, lI, l0, lS]
  have hB_B2 : w.heap.size ≤ w1.heap.size := M.below.size
  replace M := M.box #[.int .i64 0, .int .i64 0, .int .i64 0, .int .i64 0, .int .i64 0, .slice none 0 0] 24 w1.heap.size rfl
  generalize w1.alloc (.cells #[.int .i64 0, .int .i64 0, .int .i64 0, .int .i64 0, .int .i64 0, .slice none 0 0] 24) = w2 at M  ⊢
  generalize eB : w1.heap.size = B2 at M hB_B2  ⊢
  have hE_B2 : w1.heap.size ≤ B2 := Nat.le_of_eq eB
  have hF_B2 : B2 ≤ w1.heap.size := Nat.le_of_eq eB.symm
  clear eB
  replace M : Mm w ([(B2, [.int .i64 0, .int .i64 0, .int .i64 0, .int .i64 0, .int .i64 0, .slice none 0 0]), (B1, [.int .u8 0, .int .u8 0, .int .u8 0, .int .u8 0, .int .u8 0, .int .u8 0, .int .u8 0, .int .u8 0, .int .u8 0, .int .u8 0, .int .u8 0, .int .u8 0, .int .u8 0, .int .u8 0, .int .u8 0, .int .u8 0])]) w2 := M
  refine skipOpL rfl (storeP [.int .i64 3, .int .i64 1, .int .i64 2, .int .i64 3, .int .i64 4, .slice (some ⟨B1, 0, none⟩) 16 16] B2 0 24 _ _ rfl rfl rfl (M.thereP List.mem_cons_self 0 6 (Nat.le_of_ble_eq_true rfl)) (by kernel_rfl) (List.all_eq_true.1 (rfl : ([.int .i64 3, .int .i64 1, .int .i64 2, .int .i64 3, .int .i64 4, .slice (some ⟨B1, 0, none⟩) 16 16] : List Value).all (fun u => u.oneCell') = true))) ?_
  simp only [Act.put]
  replace M := M.setPart [.int .i64 3, .int .i64 1, .int .i64 2, .int .i64 3, .int .i64 4, .slice (some ⟨B1, 0, none⟩) 16 16] 0 (Nat.le_of_ble_eq_true rfl)
  generalize w2.setCells B2 0 [.int .i64 3, .int .i64 1, .int .i64 2, .int .i64 3, .int .i64 4, .slice (some ⟨B1, 0, none⟩) 16 16] = w3 at M  ⊢
  replace M : Mm w ([(B2, [.int .i64 3, .int .i64 1, .int .i64 2, .int .i64 3, .int .i64 4, .slice (some ⟨B1, 0, none⟩) 16 16]), (B1, [.int .u8 0, .int .u8 0, .int .u8 0, .int .u8 0, .int .u8 0, .int .u8 0, .int .u8 0, .int .u8 0, .int .u8 0, .int .u8 0, .int .u8 0, .int .u8 0, .int .u8 0, .int .u8 0, .int .u8 0, .int .u8 0])]) w3 := M
  first | show Exit.then _ _ _ _ _ | show Exit.inBlock _ _ _ _ _
  go_upto_region 2 with fail
  refine wp_region_list ?_
  refine readL (.agg #[.int .i64 3, .int .i64 1, .int .i64 2, .int .i64 3, .int .i64 4, .slice (some ⟨B1, 0, none⟩) 16 16]) rfl (loadN 24 _ ⟨B2, 0, none⟩ [.int .i64 3, .int .i64 1, .int .i64 2, .int .i64 3, .int .i64 4, .slice (some ⟨B1, 0, none⟩) 16 16] rfl rfl (fun _ => by kernel_rfl) (fun _ => by kernel_rfl) (M.rangeAt List.mem_cons_self)) ?_
  simp only [aP, lI, l0, lS]
  refine callL rfl (fun _ => by kernel_rfl) (hP rec0 (some ⟨B1, 0, none⟩) 16 _ (hg.mm M) (⟨M.src (List.mem_cons_of_mem _ List.mem_cons_self) rec0.body rfl, Nat.le_refl _, fun e => (by cases e), show (16 : Nat) ≤ 140737488351232 by decide, show Byts rec0.body by intro x hx; unfold rec0 at hx; simp at hx; omega, show i64 3 by unfold i64; decide, show i64 1 by unfold i64; decide, show i64 2 by unfold i64; decide, show i64 3 by unfold i64; decide, show i64 4 by unfold i64; decide⟩ : PV _ rec0 (some ⟨B1, 0, none⟩) 16)) ?_
  rintro e w4 ⟨⟨v4, rfl, O_4⟩, l⟩
  replace M := M.call l
  clear l
  rw [show pL rec0 = [3, 1, 2, 0, 3, 0, 0, 0, 0, 0, 4, 0, 0, 0, 0, 0, 0, 0, 0, 0, 0, 0, 0, 0, 0, 0, 0] from by kernel_rfl] at O_4
  rw [show pE rec0 = 0 from by kernel_rfl]
  obtain ⟨p4, c4, rfl, _, _⟩ := O_4.bytes
  refine ⟨_, rfl, ?_⟩
  simp only [aP, lI, l0, lS]
  refine readL (.tuple #[.slice p4 (([3, 1, 2, 0, 3, 0, 0, 0, 0, 0, 4, 0, 0, 0, 0, 0, 0, 0, 0, 0, 0, 0, 0, 0, 0, 0, 0]).length) c4, .int .i64 0]) rfl (by kernel_rfl) ?_
  simp only [aP, lI, l0, lS]
  refine readL (.slice p4 (([3, 1, 2, 0, 3, 0, 0, 0, 0, 0, 4, 0, 0, 0, 0, 0, 0, 0, 0, 0, 0, 0, 0, 0, 0, 0, 0]).length) c4) rfl (by kernel_rfl) ?_
  simp only [aP, lI, l0, lS]
  refine readL (.int .i64 0) rfl (by kernel_rfl) ?_
  simp only [aP, lI, l0, lS]
  refine readL (.slice p4 (([3, 1, 2, 0, 3, 0, 0, 0, 0, 0, 4, 0, 0, 0, 0, 0, 0, 0, 0, 0, 0, 0, 0, 0, 0, 0, 0]).length) c4) rfl (by kernel_rfl) ?_
  simp only [aP, lI, l0, lS]
  refine readL (.int .i64 0) rfl (by kernel_rfl) ?_
  simp only [aP, lI, l0, lS]
  first | show Exit.then _ _ _ _ _ | show Exit.inBlock _ _ _ _ _
  go_upto_region 3 with fail
  refine wp_region_list ?_
  refine callL rfl (fun _ => by kernel_rfl) (hD none 0 ([]) _ (hg.mm M) (by decide) (by decide) (fun _ => rfl) (fun x hx => by cases hx) (fun j hj => absurd hj (Nat.not_lt_zero j))) ?_
  rintro e w5 ⟨⟨bp5, bc5, rfl, F_5⟩, l⟩
  replace M := M.call l
  replace O_4 := O_4.below l
  clear l
  rw [show psP ([]) = pk0 from by kernel_rfl] at F_5
  rw [show psP ([]) = pk0 from by kernel_rfl, show psE ([]) = 3 from by kernel_rfl]
  unfold pcs
  refine ⟨_, rfl, ?_⟩
  simp only [aP, lI, l0, lS]
  refine readL (.tuple #[.agg #[.int .i64 pk0.kind, .int .i64 pk0.role, .int .i64 pk0.path, .int .i64 pk0.epo, .int .i64 pk0.ctr, .slice bp5 pk0.body.length bc5], .int .i64 3]) rfl (by kernel_rfl) ?_
  simp only [aP, lI, l0, lS]
  refine readL (.agg #[.int .i64 pk0.kind, .int .i64 pk0.role, .int .i64 pk0.path, .int .i64 pk0.epo, .int .i64 pk0.ctr, .slice bp5 pk0.body.length bc5]) rfl (by kernel_rfl) ?_
  simp only [aP, lI, l0, lS]
  refine readL (.int .i64 3) rfl (by kernel_rfl) ?_
  simp only [aP, lI, l0, lS]
  have hnew := Below.refl w5.heap.size w5
  have hnz := Nat.le_refl w5.heap.size
  refine actL (w' := w5.alloc (.cells #[.int .i64 0, .int .i64 0, .int .i64 0, .int .i64 0, .int .i64 0, .slice none 0 0] 24)) (.pointer (some ⟨w5.heap.size, 0, none⟩)) rfl (by kernel_rfl) ?_
  simp only [aP, lI, l0, lS]
  have hlb := (Below.refl w5.heap.size w5).alloc (Nat.le_refl _) (.cells #[.int .i64 0, .int .i64 0, .int .i64 0, .int .i64 0, .int .i64 0, .slice none 0 0] 24)
  replace hnew := hnew.trans (hlb.mono hnew.size)
  clear hlb
  have hB_B6 : w.heap.size ≤ w5.heap.size := M.below.size
  replace M := M.box #[.int .i64 0, .int .i64 0, .int .i64 0, .int .i64 0, .int .i64 0, .slice none 0 0] 24 w5.heap.size rfl
  generalize w5.alloc (.cells #[.int .i64 0, .int .i64 0, .int .i64 0, .int .i64 0, .int .i64 0, .slice none 0 0] 24) = w6 at M hnew ⊢
  generalize eB : w5.heap.size = B6 at M hB_B6  ⊢
  have hE_B6 : w5.heap.size ≤ B6 := Nat.le_of_eq eB
  have hF_B6 : B6 ≤ w5.heap.size := Nat.le_of_eq eB.symm
  clear eB
  replace M : Mm w ([(B6, [.int .i64 0, .int .i64 0, .int .i64 0, .int .i64 0, .int .i64 0, .slice none 0 0]), (B2, [.int .i64 3, .int .i64 1, .int .i64 2, .int .i64 3, .int .i64 4, .slice (some ⟨B1, 0, none⟩) 16 16]), (B1, [.int .u8 0, .int .u8 0, .int .u8 0, .int .u8 0, .int .u8 0, .int .u8 0, .int .u8 0, .int .u8 0, .int .u8 0, .int .u8 0, .int .u8 0, .int .u8 0, .int .u8 0, .int .u8 0, .int .u8 0, .int .u8 0])]) w6 := M
  refine skipOpL rfl (storeP [.int .i64 pk0.kind, .int .i64 pk0.role, .int .i64 pk0.path, .int .i64 pk0.epo, .int .i64 pk0.ctr, .slice bp5 pk0.body.length bc5] B6 0 24 _ _ rfl rfl rfl (M.thereP List.mem_cons_self 0 6 (Nat.le_of_ble_eq_true rfl)) (by kernel_rfl) (List.all_eq_true.1 (rfl : ([.int .i64 pk0.kind, .int .i64 pk0.role, .int .i64 pk0.path, .int .i64 pk0.epo, .int .i64 pk0.ctr, .slice bp5 pk0.body.length bc5] : List Value).all (fun u => u.oneCell') = true))) ?_
  simp only [Act.put]
  replace M := M.setPart [.int .i64 pk0.kind, .int .i64 pk0.role, .int .i64 pk0.path, .int .i64 pk0.epo, .int .i64 pk0.ctr, .slice bp5 pk0.body.length bc5] 0 (Nat.le_of_ble_eq_true rfl)
  replace hnew := below_setAll hnew B6 (by have := hnew.size; omega) 0 [.int .i64 pk0.kind, .int .i64 pk0.role, .int .i64 pk0.path, .int .i64 pk0.epo, .int .i64 pk0.ctr, .slice bp5 pk0.body.length bc5]
  generalize w6.setCells B6 0 [.int .i64 pk0.kind, .int .i64 pk0.role, .int .i64 pk0.path, .int .i64 pk0.epo, .int .i64 pk0.ctr, .slice bp5 pk0.body.length bc5] = w7 at M hnew ⊢
  replace M : Mm w ([(B6, [.int .i64 pk0.kind, .int .i64 pk0.role, .int .i64 pk0.path, .int .i64 pk0.epo, .int .i64 pk0.ctr, .slice bp5 pk0.body.length bc5]), (B2, [.int .i64 3, .int .i64 1, .int .i64 2, .int .i64 3, .int .i64 4, .slice (some ⟨B1, 0, none⟩) 16 16]), (B1, [.int .u8 0, .int .u8 0, .int .u8 0, .int .u8 0, .int .u8 0, .int .u8 0, .int .u8 0, .int .u8 0, .int .u8 0, .int .u8 0, .int .u8 0, .int .u8 0, .int .u8 0, .int .u8 0, .int .u8 0, .int .u8 0])]) w7 := M
  refine readL (.int .i64 3) rfl (by kernel_rfl) ?_
  simp only [aP, lI, l0, lS]
  first | show Exit.then _ _ _ _ _ | show Exit.inBlock _ _ _ _ _
  replace O_4 := O_4.below hnew
  replace F_5 := F_5.below hnew (Nat.le_refl _)
  clear hnew hnz
  go_upto_region 4 with fail
  refine wp_region_list ?_
  refine actL (w' := w7.alloc (.cells #[.int .u8 1] 5)) (.slice (some ⟨w7.heap.size, 0, none⟩) 1 1) rfl (by kernel_rfl) ?_
  simp only [aP, lI, l0, lS]
  have hlb := (Below.refl w7.heap.size w7).alloc (Nat.le_refl _) (.cells #[.int .u8 1] 5)
  replace O_4 := O_4.below hlb
  replace F_5 := F_5.below hlb (Nat.le_refl _)
  clear hlb
  replace M := M.box #[.int .u8 1] 5 w7.heap.size rfl
  generalize w7.alloc (.cells #[.int .u8 1] 5) = w8 at M O_4 F_5 ⊢
  generalize w7.heap.size = B8 at *
  replace M : Mm w [(B8, [.int .u8 1]), (B6, [.int .i64 pk0.kind, .int .i64 pk0.role, .int .i64 pk0.path, .int .i64 pk0.epo, .int .i64 pk0.ctr, .slice bp5 pk0.body.length bc5]), (B2, [.int .i64 3, .int .i64 1, .int .i64 2, .int .i64 3, .int .i64 4, .slice (some ⟨B1, 0, none⟩) 16 16]), (B1, [.int .u8 0, .int .u8 0, .int .u8 0, .int .u8 0, .int .u8 0, .int .u8 0, .int .u8 0, .int .u8 0, .int .u8 0, .int .u8 0, .int .u8 0, .int .u8 0, .int .u8 0, .int .u8 0, .int .u8 0, .int .u8 0])] w8 := M
  refine callL rfl (fun _ => by kernel_rfl) (hD (some ⟨B8, 0, none⟩) 1 ([1]) _ (hg.mm M) (by decide) (by decide) (fun e => by cases e) (by intro x hx; simp at hx; omega) (M.src List.mem_cons_self [1] rfl)) ?_
  rintro e w9 ⟨⟨bp9, bc9, rfl, F_9⟩, l⟩
  replace M := M.call l
  replace O_4 := O_4.below l
  replace F_5 := F_5.below l (Nat.le_refl _)
  clear l
  rw [show psP ([1]) = pk0 from by kernel_rfl] at F_9
  rw [show psP ([1]) = pk0 from by kernel_rfl, show psE ([1]) = 110 from by kernel_rfl]
  unfold pcs
  refine ⟨_, rfl, ?_⟩
  simp only [aP, lI, l0, lS]
  refine readL (.tuple #[.agg #[.int .i64 pk0.kind, .int .i64 pk0.role, .int .i64 pk0.path, .int .i64 pk0.epo, .int .i64 pk0.ctr, .slice bp9 pk0.body.length bc9], .int .i64 110]) rfl (by kernel_rfl) ?_
  simp only [aP, lI, l0, lS]
  refine readL (.agg #[.int .i64 pk0.kind, .int .i64 pk0.role, .int .i64 pk0.path, .int .i64 pk0.epo, .int .i64 pk0.ctr, .slice bp9 pk0.body.length bc9]) rfl (by kernel_rfl) ?_
  simp only [aP, lI, l0, lS]
  refine readL (.int .i64 110) rfl (by kernel_rfl) ?_
  simp only [aP, lI, l0, lS]
  have hnew := Below.refl w9.heap.size w9
  have hnz := Nat.le_refl w9.heap.size
  refine actL (w' := w9.alloc (.cells #[.int .i64 0, .int .i64 0, .int .i64 0, .int .i64 0, .int .i64 0, .slice none 0 0] 24)) (.pointer (some ⟨w9.heap.size, 0, none⟩)) rfl (by kernel_rfl) ?_
  simp only [aP, lI, l0, lS]
  have hlb := (Below.refl w9.heap.size w9).alloc (Nat.le_refl _) (.cells #[.int .i64 0, .int .i64 0, .int .i64 0, .int .i64 0, .int .i64 0, .slice none 0 0] 24)
  replace hnew := hnew.trans (hlb.mono hnew.size)
  clear hlb
  have hB_B10 : w.heap.size ≤ w9.heap.size := M.below.size
  replace M := M.box #[.int .i64 0, .int .i64 0, .int .i64 0, .int .i64 0, .int .i64 0, .slice none 0 0] 24 w9.heap.size rfl
  generalize w9.alloc (.cells #[.int .i64 0, .int .i64 0, .int .i64 0, .int .i64 0, .int .i64 0, .slice none 0 0] 24) = w10 at M hnew ⊢
  generalize eB : w9.heap.size = B10 at M hB_B10  ⊢
  have hE_B10 : w9.heap.size ≤ B10 := Nat.le_of_eq eB
  have hF_B10 : B10 ≤ w9.heap.size := Nat.le_of_eq eB.symm
  clear eB
  replace M : Mm w ([(B10, [.int .i64 0, .int .i64 0, .int .i64 0, .int .i64 0, .int .i64 0, .slice none 0 0]), (B8, [.int .u8 1]), (B6, [.int .i64 pk0.kind, .int .i64 pk0.role, .int .i64 pk0.path, .int .i64 pk0.epo, .int .i64 pk0.ctr, .slice bp5 pk0.body.length bc5]), (B2, [.int .i64 3, .int .i64 1, .int .i64 2, .int .i64 3, .int .i64 4, .slice (some ⟨B1, 0, none⟩) 16 16]), (B1, [.int .u8 0, .int .u8 0, .int .u8 0, .int .u8 0, .int .u8 0, .int .u8 0, .int .u8 0, .int .u8 0, .int .u8 0, .int .u8 0, .int .u8 0, .int .u8 0, .int .u8 0, .int .u8 0, .int .u8 0, .int .u8 0])]) w10 := M
  refine skipOpL rfl (storeP [.int .i64 pk0.kind, .int .i64 pk0.role, .int .i64 pk0.path, .int .i64 pk0.epo, .int .i64 pk0.ctr, .slice bp9 pk0.body.length bc9] B10 0 24 _ _ rfl rfl rfl (M.thereP List.mem_cons_self 0 6 (Nat.le_of_ble_eq_true rfl)) (by kernel_rfl) (List.all_eq_true.1 (rfl : ([.int .i64 pk0.kind, .int .i64 pk0.role, .int .i64 pk0.path, .int .i64 pk0.epo, .int .i64 pk0.ctr, .slice bp9 pk0.body.length bc9] : List Value).all (fun u => u.oneCell') = true))) ?_
  simp only [Act.put]
  replace M := M.setPart [.int .i64 pk0.kind, .int .i64 pk0.role, .int .i64 pk0.path, .int .i64 pk0.epo, .int .i64 pk0.ctr, .slice bp9 pk0.body.length bc9] 0 (Nat.le_of_ble_eq_true rfl)
  replace hnew := below_setAll hnew B10 (by have := hnew.size; omega) 0 [.int .i64 pk0.kind, .int .i64 pk0.role, .int .i64 pk0.path, .int .i64 pk0.epo, .int .i64 pk0.ctr, .slice bp9 pk0.body.length bc9]
  generalize w10.setCells B10 0 [.int .i64 pk0.kind, .int .i64 pk0.role, .int .i64 pk0.path, .int .i64 pk0.epo, .int .i64 pk0.ctr, .slice bp9 pk0.body.length bc9] = w11 at M hnew ⊢
  replace M : Mm w ([(B10, [.int .i64 pk0.kind, .int .i64 pk0.role, .int .i64 pk0.path, .int .i64 pk0.epo, .int .i64 pk0.ctr, .slice bp9 pk0.body.length bc9]), (B8, [.int .u8 1]), (B6, [.int .i64 pk0.kind, .int .i64 pk0.role, .int .i64 pk0.path, .int .i64 pk0.epo, .int .i64 pk0.ctr, .slice bp5 pk0.body.length bc5]), (B2, [.int .i64 3, .int .i64 1, .int .i64 2, .int .i64 3, .int .i64 4, .slice (some ⟨B1, 0, none⟩) 16 16]), (B1, [.int .u8 0, .int .u8 0, .int .u8 0, .int .u8 0, .int .u8 0, .int .u8 0, .int .u8 0, .int .u8 0, .int .u8 0, .int .u8 0, .int .u8 0, .int .u8 0, .int .u8 0, .int .u8 0, .int .u8 0, .int .u8 0])]) w11 := M
  refine readL (.int .i64 110) rfl (by kernel_rfl) ?_
  simp only [aP, lI, l0, lS]
  first | show Exit.then _ _ _ _ _ | show Exit.inBlock _ _ _ _ _
  replace O_4 := O_4.below hnew
  replace F_5 := F_5.below hnew (Nat.le_refl _)
  replace F_9 := F_9.below hnew (Nat.le_refl _)
  clear hnew hnz
  go_upto_region 5 with fail
  refine wp_region_list ?_
  refine actL (w' := w11.alloc (.cells #[.int .u8 3, .int .u8 0] 5)) (.slice (some ⟨w11.heap.size, 0, none⟩) 2 2) rfl (by kernel_rfl) ?_
  simp only [aP, lI, l0, lS]
  have hlb := (Below.refl w11.heap.size w11).alloc (Nat.le_refl _) (.cells #[.int .u8 3, .int .u8 0] 5)
  replace O_4 := O_4.below hlb
  replace F_5 := F_5.below hlb (Nat.le_refl _)
  replace F_9 := F_9.below hlb (Nat.le_refl _)
  clear hlb
  replace M := M.box #[.int .u8 3, .int .u8 0] 5 w11.heap.size rfl
  generalize w11.alloc (.cells #[.int .u8 3, .int .u8 0] 5) = w12 at M O_4 F_5 F_9 ⊢
  generalize w11.heap.size = B12 at *
  replace M : Mm w [(B12, [.int .u8 3, .int .u8 0]), (B10, [.int .i64 pk0.kind, .int .i64 pk0.role, .int .i64 pk0.path, .int .i64 pk0.epo, .int .i64 pk0.ctr, .slice bp9 pk0.body.length bc9]), (B8, [.int .u8 1]), (B6, [.int .i64 pk0.kind, .int .i64 pk0.role, .int .i64 pk0.path, .int .i64 pk0.epo, .int .i64 pk0.ctr, .slice bp5 pk0.body.length bc5]), (B2, [.int .i64 3, .int .i64 1, .int .i64 2, .int .i64 3, .int .i64 4, .slice (some ⟨B1, 0, none⟩) 16 16]), (B1, [.int .u8 0, .int .u8 0, .int .u8 0, .int .u8 0, .int .u8 0, .int .u8 0, .int .u8 0, .int .u8 0, .int .u8 0, .int .u8 0, .int .u8 0, .int .u8 0, .int .u8 0, .int .u8 0, .int .u8 0, .int .u8 0])] w12 := M
  refine callL rfl (fun _ => by kernel_rfl) (hD (some ⟨B12, 0, none⟩) 2 ([3, 0]) _ (hg.mm M) (by decide) (by decide) (fun e => by cases e) (by intro x hx; simp at hx; omega) (M.src List.mem_cons_self [3, 0] rfl)) ?_
  rintro e w13 ⟨⟨bp13, bc13, rfl, F_13⟩, l⟩
  replace M := M.call l
  replace O_4 := O_4.below l
  replace F_5 := F_5.below l (Nat.le_refl _)
  replace F_9 := F_9.below l (Nat.le_refl _)
  clear l
  rw [show psP ([3, 0]) = pk0 from by kernel_rfl] at F_13
  rw [show psP ([3, 0]) = pk0 from by kernel_rfl, show psE ([3, 0]) = 3 from by kernel_rfl]
  unfold pcs
  refine ⟨_, rfl, ?_⟩
  simp only [aP, lI, l0, lS]
  refine readL (.tuple #[.agg #[.int .i64 pk0.kind, .int .i64 pk0.role, .int .i64 pk0.path, .int .i64 pk0.epo, .int .i64 pk0.ctr, .slice bp13 pk0.body.length bc13], .int .i64 3]) rfl (by kernel_rfl) ?_
  simp only [aP, lI, l0, lS]
  refine readL (.agg #[.int .i64 pk0.kind, .int .i64 pk0.role, .int .i64 pk0.path, .int .i64 pk0.epo, .int .i64 pk0.ctr, .slice bp13 pk0.body.length bc13]) rfl (by kernel_rfl) ?_
  simp only [aP, lI, l0, lS]
  refine readL (.int .i64 3) rfl (by kernel_rfl) ?_
  simp only [aP, lI, l0, lS]
  have hnew := Below.refl w13.heap.size w13
  have hnz := Nat.le_refl w13.heap.size
  refine actL (w' := w13.alloc (.cells #[.int .i64 0, .int .i64 0, .int .i64 0, .int .i64 0, .int .i64 0, .slice none 0 0] 24)) (.pointer (some ⟨w13.heap.size, 0, none⟩)) rfl (by kernel_rfl) ?_
  simp only [aP, lI, l0, lS]
  have hlb := (Below.refl w13.heap.size w13).alloc (Nat.le_refl _) (.cells #[.int .i64 0, .int .i64 0, .int .i64 0, .int .i64 0, .int .i64 0, .slice none 0 0] 24)
  replace hnew := hnew.trans (hlb.mono hnew.size)
  clear hlb
  have hB_B14 : w.heap.size ≤ w13.heap.size := M.below.size
  replace M := M.box #[.int .i64 0, .int .i64 0, .int .i64 0, .int .i64 0, .int .i64 0, .slice none 0 0] 24 w13.heap.size rfl
  generalize w13.alloc (.cells #[.int .i64 0, .int .i64 0, .int .i64 0, .int .i64 0, .int .i64 0, .slice none 0 0] 24) = w14 at M hnew ⊢
  generalize eB : w13.heap.size = B14 at M hB_B14  ⊢
  have hE_B14 : w13.heap.size ≤ B14 := Nat.le_of_eq eB
  have hF_B14 : B14 ≤ w13.heap.size := Nat.le_of_eq eB.symm
  clear eB
  replace M : Mm w ([(B14, [.int .i64 0, .int .i64 0, .int .i64 0, .int .i64 0, .int .i64 0, .slice none 0 0]), (B12, [.int .u8 3, .int .u8 0]), (B10, [.int .i64 pk0.kind, .int .i64 pk0.role, .int .i64 pk0.path, .int .i64 pk0.epo, .int .i64 pk0.ctr, .slice bp9 pk0.body.length bc9]), (B8, [.int .u8 1]), (B6, [.int .i64 pk0.kind, .int .i64 pk0.role, .int .i64 pk0.path, .int .i64 pk0.epo, .int .i64 pk0.ctr, .slice bp5 pk0.body.length bc5]), (B2, [.int .i64 3, .int .i64 1, .int .i64 2, .int .i64 3, .int .i64 4, .slice (some ⟨B1, 0, none⟩) 16 16]), (B1, [.int .u8 0, .int .u8 0, .int .u8 0, .int .u8 0, .int .u8 0, .int .u8 0, .int .u8 0, .int .u8 0, .int .u8 0, .int .u8 0, .int .u8 0, .int .u8 0, .int .u8 0, .int .u8 0, .int .u8 0, .int .u8 0])]) w14 := M
  refine skipOpL rfl (storeP [.int .i64 pk0.kind, .int .i64 pk0.role, .int .i64 pk0.path, .int .i64 pk0.epo, .int .i64 pk0.ctr, .slice bp13 pk0.body.length bc13] B14 0 24 _ _ rfl rfl rfl (M.thereP List.mem_cons_self 0 6 (Nat.le_of_ble_eq_true rfl)) (by kernel_rfl) (List.all_eq_true.1 (rfl : ([.int .i64 pk0.kind, .int .i64 pk0.role, .int .i64 pk0.path, .int .i64 pk0.epo, .int .i64 pk0.ctr, .slice bp13 pk0.body.length bc13] : List Value).all (fun u => u.oneCell') = true))) ?_
  simp only [Act.put]
  replace M := M.setPart [.int .i64 pk0.kind, .int .i64 pk0.role, .int .i64 pk0.path, .int .i64 pk0.epo, .int .i64 pk0.ctr, .slice bp13 pk0.body.length bc13] 0 (Nat.le_of_ble_eq_true rfl)
  replace hnew := below_setAll hnew B14 (by have := hnew.size; omega) 0 [.int .i64 pk0.kind, .int .i64 pk0.role, .int .i64 pk0.path, .int .i64 pk0.epo, .int .i64 pk0.ctr, .slice bp13 pk0.body.length bc13]
  generalize w14.setCells B14 0 [.int .i64 pk0.kind, .int .i64 pk0.role, .int .i64 pk0.path, .int .i64 pk0.epo, .int .i64 pk0.ctr, .slice bp13 pk0.body.length bc13] = w15 at M hnew ⊢
  replace M : Mm w ([(B14, [.int .i64 pk0.kind, .int .i64 pk0.role, .int .i64 pk0.path, .int .i64 pk0.epo, .int .i64 pk0.ctr, .slice bp13 pk0.body.length bc13]), (B12, [.int .u8 3, .int .u8 0]), (B10, [.int .i64 pk0.kind, .int .i64 pk0.role, .int .i64 pk0.path, .int .i64 pk0.epo, .int .i64 pk0.ctr, .slice bp9 pk0.body.length bc9]), (B8, [.int .u8 1]), (B6, [.int .i64 pk0.kind, .int .i64 pk0.role, .int .i64 pk0.path, .int .i64 pk0.epo, .int .i64 pk0.ctr, .slice bp5 pk0.body.length bc5]), (B2, [.int .i64 3, .int .i64 1, .int .i64 2, .int .i64 3, .int .i64 4, .slice (some ⟨B1, 0, none⟩) 16 16]), (B1, [.int .u8 0, .int .u8 0, .int .u8 0, .int .u8 0, .int .u8 0, .int .u8 0, .int .u8 0, .int .u8 0, .int .u8 0, .int .u8 0, .int .u8 0, .int .u8 0, .int .u8 0, .int .u8 0, .int .u8 0, .int .u8 0])]) w15 := M
  refine readL (.int .i64 3) rfl (by kernel_rfl) ?_
  simp only [aP, lI, l0, lS]
  first | show Exit.then _ _ _ _ _ | show Exit.inBlock _ _ _ _ _
  replace O_4 := O_4.below hnew
  replace F_5 := F_5.below hnew (Nat.le_refl _)
  replace F_9 := F_9.below hnew (Nat.le_refl _)
  replace F_13 := F_13.below hnew (Nat.le_refl _)
  clear hnew hnz
  go_upto_region 6 with fail
  refine wp_region_list ?_
  refine actL (w' := w15.alloc (.cells #[.int .u8 4, .int .u8 0] 5)) (.slice (some ⟨w15.heap.size, 0, none⟩) 2 2) rfl (by kernel_rfl) ?_
  simp only [aP, lI, l0, lS]
  have hlb := (Below.refl w15.heap.size w15).alloc (Nat.le_refl _) (.cells #[.int .u8 4, .int .u8 0] 5)
  replace O_4 := O_4.below hlb
  replace F_5 := F_5.below hlb (Nat.le_refl _)
  replace F_9 := F_9.below hlb (Nat.le_refl _)
  replace F_13 := F_13.below hlb (Nat.le_refl _)
  clear hlb
  replace M := M.box #[.int .u8 4, .int .u8 0] 5 w15.heap.size rfl
  generalize w15.alloc (.cells #[.int .u8 4, .int .u8 0] 5) = w16 at M O_4 F_5 F_9 F_13 ⊢
  generalize w15.heap.size = B16 at *
  replace M : Mm w [(B16, [.int .u8 4, .int .u8 0]), (B14, [.int .i64 pk0.kind, .int .i64 pk0.role, .int .i64 pk0.path, .int .i64 pk0.epo, .int .i64 pk0.ctr, .slice bp13 pk0.body.length bc13]), (B12, [.int .u8 3, .int .u8 0]), (B10, [.int .i64 pk0.kind, .int .i64 pk0.role, .int .i64 pk0.path, .int .i64 pk0.epo, .int .i64 pk0.ctr, .slice bp9 pk0.body.length bc9]), (B8, [.int .u8 1]), (B6, [.int .i64 pk0.kind, .int .i64 pk0.role, .int .i64 pk0.path, .int .i64 pk0.epo, .int .i64 pk0.ctr, .slice bp5 pk0.body.length bc5]), (B2, [.int .i64 3, .int .i64 1, .int .i64 2, .int .i64 3, .int .i64 4, .slice (some ⟨B1, 0, none⟩) 16 16]), (B1, [.int .u8 0, .int .u8 0, .int .u8 0, .int .u8 0, .int .u8 0, .int .u8 0, .int .u8 0, .int .u8 0, .int .u8 0, .int .u8 0, .int .u8 0, .int .u8 0, .int .u8 0, .int .u8 0, .int .u8 0, .int .u8 0])] w16 := M
  refine callL rfl (fun _ => by kernel_rfl) (hD (some ⟨B16, 0, none⟩) 2 ([4, 0]) _ (hg.mm M) (by decide) (by decide) (fun e => by cases e) (by intro x hx; simp at hx; omega) (M.src List.mem_cons_self [4, 0] rfl)) ?_
  rintro e w17 ⟨⟨bp17, bc17, rfl, F_17⟩, l⟩
  replace M := M.call l
  replace O_4 := O_4.below l
  replace F_5 := F_5.below l (Nat.le_refl _)
  replace F_9 := F_9.below l (Nat.le_refl _)
  replace F_13 := F_13.below l (Nat.le_refl _)
  clear l
  rw [show psP ([4, 0]) = pk0 from by kernel_rfl] at F_17
  rw [show psP ([4, 0]) = pk0 from by kernel_rfl, show psE ([4, 0]) = 110 from by kernel_rfl]
  unfold pcs
  refine ⟨_, rfl, ?_⟩
  simp only [aP, lI, l0, lS]
  refine readL (.tuple #[.agg #[.int .i64 pk0.kind, .int .i64 pk0.role, .int .i64 pk0.path, .int .i64 pk0.epo, .int .i64 pk0.ctr, .slice bp17 pk0.body.length bc17], .int .i64 110]) rfl (by kernel_rfl) ?_
  simp only [aP, lI, l0, lS]
  refine readL (.agg #[.int .i64 pk0.kind, .int .i64 pk0.role, .int .i64 pk0.path, .int .i64 pk0.epo, .int .i64 pk0.ctr, .slice bp17 pk0.body.length bc17]) rfl (by kernel_rfl) ?_
  simp only [aP, lI, l0, lS]
  refine readL (.int .i64 110) rfl (by kernel_rfl) ?_
  simp only [aP, lI, l0, lS]
  have hnew := Below.refl w17.heap.size w17
  have hnz := Nat.le_refl w17.heap.size
  refine actL (w' := w17.alloc (.cells #[.int .i64 0, .int .i64 0, .int .i64 0, .int .i64 0, .int .i64 0, .slice none 0 0] 24)) (.pointer (some ⟨w17.heap.size, 0, none⟩)) rfl (by kernel_rfl) ?_
  simp only [aP, lI, l0, lS]
  have hlb := (Below.refl w17.heap.size w17).alloc (Nat.le_refl _) (.cells #[.int .i64 0, .int .i64 0, .int .i64 0, .int .i64 0, .int .i64 0, .slice none 0 0] 24)
  replace hnew := hnew.trans (hlb.mono hnew.size)
  clear hlb
  have hB_B18 : w.heap.size ≤ w17.heap.size := M.below.size
  replace M := M.box #[.int .i64 0, .int .i64 0, .int .i64 0, .int .i64 0, .int .i64 0, .slice none 0 0] 24 w17.heap.size rfl
  generalize w17.alloc (.cells #[.int .i64 0, .int .i64 0, .int .i64 0, .int .i64 0, .int .i64 0, .slice none 0 0] 24) = w18 at M hnew ⊢
  generalize eB : w17.heap.size = B18 at M hB_B18  ⊢
  have hE_B18 : w17.heap.size ≤ B18 := Nat.le_of_eq eB
  have hF_B18 : B18 ≤ w17.heap.size := Nat.le_of_eq eB.symm
  clear eB
  replace M : Mm w ([(B18, [.int .i64 0, .int .i64 0, .int .i64 0, .int .i64 0, .int .i64 0, .slice none 0 0]), (B16, [.int .u8 4, .int .u8 0]), (B14, [.int .i64 pk0.kind, .int .i64 pk0.role, .int .i64 pk0.path, .int .i64 pk0.epo, .int .i64 pk0.ctr, .slice bp13 pk0.body.length bc13]), (B12, [.int .u8 3, .int .u8 0]), (B10, [.int .i64 pk0.kind, .int .i64 pk0.role, .int .i64 pk0.path, .int .i64 pk0.epo, .int .i64 pk0.ctr, .slice bp9 pk0.body.length bc9]), (B8, [.int .u8 1]), (B6, [.int .i64 pk0.kind, .int .i64 pk0.role, .int .i64 pk0.path, .int .i64 pk0.epo, .int .i64 pk0.ctr, .slice bp5 pk0.body.length bc5]), (B2, [.int .i64 3, .int .i64 1, .int .i64 2, .int .i64 3, .int .i64 4, .slice (some ⟨B1, 0, none⟩) 16 16]), (B1, [.int .u8 0, .int .u8 0, .int .u8 0, .int .u8 0, .int .u8 0, .int .u8 0, .int .u8 0, .int .u8 0, .int .u8 0, .int .u8 0, .int .u8 0, .int .u8 0, .int .u8 0, .int .u8 0, .int .u8 0, .int .u8 0])]) w18 := M
  refine skipOpL rfl (storeP [.int .i64 pk0.kind, .int .i64 pk0.role, .int .i64 pk0.path, .int .i64 pk0.epo, .int .i64 pk0.ctr, .slice bp17 pk0.body.length bc17] B18 0 24 _ _ rfl rfl rfl (M.thereP List.mem_cons_self 0 6 (Nat.le_of_ble_eq_true rfl)) (by kernel_rfl) (List.all_eq_true.1 (rfl : ([.int .i64 pk0.kind, .int .i64 pk0.role, .int .i64 pk0.path, .int .i64 pk0.epo, .int .i64 pk0.ctr, .slice bp17 pk0.body.length bc17] : List Value).all (fun u => u.oneCell') = true))) ?_
  simp only [Act.put]
  replace M := M.setPart [.int .i64 pk0.kind, .int .i64 pk0.role, .int .i64 pk0.path, .int .i64 pk0.epo, .int .i64 pk0.ctr, .slice bp17 pk0.body.length bc17] 0 (Nat.le_of_ble_eq_true rfl)
  replace hnew := below_setAll hnew B18 (by have := hnew.size; omega) 0 [.int .i64 pk0.kind, .int .i64 pk0.role, .int .i64 pk0.path, .int .i64 pk0.epo, .int .i64 pk0.ctr, .slice bp17 pk0.body.length bc17]
  generalize w18.setCells B18 0 [.int .i64 pk0.kind, .int .i64 pk0.role, .int .i64 pk0.path, .int .i64 pk0.epo, .int .i64 pk0.ctr, .slice bp17 pk0.body.length bc17] = w19 at M hnew ⊢
  replace M : Mm w ([(B18, [.int .i64 pk0.kind, .int .i64 pk0.role, .int .i64 pk0.path, .int .i64 pk0.epo, .int .i64 pk0.ctr, .slice bp17 pk0.body.length bc17]), (B16, [.int .u8 4, .int .u8 0]), (B14, [.int .i64 pk0.kind, .int .i64 pk0.role, .int .i64 pk0.path, .int .i64 pk0.epo, .int .i64 pk0.ctr, .slice bp13 pk0.body.length bc13]), (B12, [.int .u8 3, .int .u8 0]), (B10, [.int .i64 pk0.kind, .int .i64 pk0.role, .int .i64 pk0.path, .int .i64 pk0.epo, .int .i64 pk0.ctr, .slice bp9 pk0.body.length bc9]), (B8, [.int .u8 1]), (B6, [.int .i64 pk0.kind, .int .i64 pk0.role, .int .i64 pk0.path, .int .i64 pk0.epo, .int .i64 pk0.ctr, .slice bp5 pk0.body.length bc5]), (B2, [.int .i64 3, .int .i64 1, .int .i64 2, .int .i64 3, .int .i64 4, .slice (some ⟨B1, 0, none⟩) 16 16]), (B1, [.int .u8 0, .int .u8 0, .int .u8 0, .int .u8 0, .int .u8 0, .int .u8 0, .int .u8 0, .int .u8 0, .int .u8 0, .int .u8 0, .int .u8 0, .int .u8 0, .int .u8 0, .int .u8 0, .int .u8 0, .int .u8 0])]) w19 := M
  refine readL (.int .i64 110) rfl (by kernel_rfl) ?_
  simp only [aP, lI, l0, lS]
  first | show Exit.then _ _ _ _ _ | show Exit.inBlock _ _ _ _ _
  replace O_4 := O_4.below hnew
  replace F_5 := F_5.below hnew (Nat.le_refl _)
  replace F_9 := F_9.below hnew (Nat.le_refl _)
  replace F_13 := F_13.below hnew (Nat.le_refl _)
  replace F_17 := F_17.below hnew (Nat.le_refl _)
  clear hnew hnz
  go_upto_region 7 with fail
  refine wp_region_held_drew (S := fun w' => (((((Mm w [(B18, [.int .i64 pk0.kind, .int .i64 pk0.role, .int .i64 pk0.path, .int .i64 pk0.epo, .int .i64 pk0.ctr, .slice bp17 pk0.body.length bc17]), (B16, [.int .u8 4, .int .u8 0]), (B14, [.int .i64 pk0.kind, .int .i64 pk0.role, .int .i64 pk0.path, .int .i64 pk0.epo, .int .i64 pk0.ctr, .slice bp13 pk0.body.length bc13]), (B12, [.int .u8 3, .int .u8 0]), (B10, [.int .i64 pk0.kind, .int .i64 pk0.role, .int .i64 pk0.path, .int .i64 pk0.epo, .int .i64 pk0.ctr, .slice bp9 pk0.body.length bc9]), (B8, [.int .u8 1]), (B6, [.int .i64 pk0.kind, .int .i64 pk0.role, .int .i64 pk0.path, .int .i64 pk0.epo, .int .i64 pk0.ctr, .slice bp5 pk0.body.length bc5]), (B2, [.int .i64 3, .int .i64 1, .int .i64 2, .int .i64 3, .int .i64 4, .slice (some ⟨B1, 0, none⟩) 16 16]), (B1, [.int .u8 0, .int .u8 0, .int .u8 0, .int .u8 0, .int .u8 0, .int .u8 0, .int .u8 0, .int .u8 0, .int .u8 0, .int .u8 0, .int .u8 0, .int .u8 0, .int .u8 0, .int .u8 0, .int .u8 0, .int .u8 0])] w') ∧ OwnL w' w3.heap.size ([3, 1, 2, 0, 3, 0, 0, 0, 0, 0, 4, 0, 0, 0, 0, 0, 0, 0, 0, 0, 0, 0, 0, 0, 0, 0, 0]) (.slice p4 ([3, 1, 2, 0, 3, 0, 0, 0, 0, 0, 4, 0, 0, 0, 0, 0, 0, 0, 0, 0, 0, 0, 0, 0, 0, 0, 0]).length c4)) ∧ PV w' pk0 bp5 bc5) ∧ PV w' pk0 bp9 bc9) ∧ PV w' pk0 bp13 bc13) ∧ PV w' pk0 bp17 bc17) (by kernel_rfl) ⟨⟨⟨⟨⟨M.drew, (O_4.below (Below.refl _ _).drew)⟩, (F_5.below (Below.refl _ _).drew (Nat.le_refl _))⟩, (F_9.below (Below.refl _ _).drew (Nat.le_refl _))⟩, (F_13.below (Below.refl _ _).drew (Nat.le_refl _))⟩, (F_17.below (Below.refl _ _).drew (Nat.le_refl _))⟩ ?_
  clear M O_4 F_5 F_9 F_13 F_17
  intro hS_
  obtain ⟨⟨⟨⟨⟨M, O_4⟩, F_5⟩, F_9⟩, F_13⟩, F_17⟩ := hS_
  generalize w19.drew = w20 at M O_4 F_5 F_9 F_13 F_17 ⊢
  refine readH (i := 0) (some 38) rfl (.slice p4 (([3, 1, 2, 0, 3, 0, 0, 0, 0, 0, 4, 0, 0, 0, 0, 0, 0, 0, 0, 0, 0, 0, 0, 0, 0, 0, 0]).length) c4) rfl rfl (fun _ ⟨⟨⟨⟨⟨M, O_4⟩, F_5⟩, F_9⟩, F_13⟩, F_17⟩ => (by kernel_rfl)) (by kernel_rfl) (by kernel_rfl) (by kernel_rfl) (fun _ _ _ h => h) ⟨⟨⟨⟨⟨M, O_4⟩, F_5⟩, F_9⟩, F_13⟩, F_17⟩ ?_
  simp only [aP, lI, l0, lS]
  refine readH (i := 1) (some 39) rfl (.int .i64 ((([3, 1, 2, 0, 3, 0, 0, 0, 0, 0, 4, 0, 0, 0, 0, 0, 0, 0, 0, 0, 0, 0, 0, 0, 0, 0, 0]).length : Nat) : Int)) rfl rfl (fun _ ⟨⟨⟨⟨⟨M, O_4⟩, F_5⟩, F_9⟩, F_13⟩, F_17⟩ => lenS _ 22 5 p4 (([3, 1, 2, 0, 3, 0, 0, 0, 0, 0, 4, 0, 0, 0, 0, 0, 0, 0, 0, 0, 0, 0, 0, 0, 0, 0, 0]).length) c4 rfl Tryd.underlying22 rfl _) (by kernel_rfl) (by kernel_rfl) (by kernel_rfl) (fun _ _ _ h => h) ⟨⟨⟨⟨⟨M, O_4⟩, F_5⟩, F_9⟩, F_13⟩, F_17⟩ ?_
  simp only [aP, lI, l0, lS]
  refine readH (i := 2) (some 40) rfl (.bool true) rfl rfl (fun _ ⟨⟨⟨⟨⟨M, O_4⟩, F_5⟩, F_9⟩, F_13⟩, F_17⟩ => eqlI .i64 _ _ _ _ _ _ rfl rfl rfl true rfl _) (by kernel_rfl) (by kernel_rfl) (by kernel_rfl) (fun _ _ _ h => h) ⟨⟨⟨⟨⟨M, O_4⟩, F_5⟩, F_9⟩, F_13⟩, F_17⟩ ?_
  simp only [aP, lI, l0, lS]
  refine readH (i := 3) (some 41) rfl (.bool true) rfl rfl (fun _ ⟨⟨⟨⟨⟨M, O_4⟩, F_5⟩, F_9⟩, F_13⟩, F_17⟩ => (by kernel_rfl)) (by kernel_rfl) (by kernel_rfl) (by kernel_rfl) (fun _ _ _ h => h) ⟨⟨⟨⟨⟨M, O_4⟩, F_5⟩, F_9⟩, F_13⟩, F_17⟩ ?_
  simp only [aP, lI, l0, lS]
  refine readH (i := 4) (some 42) rfl (.slice p4 (([3, 1, 2, 0, 3, 0, 0, 0, 0, 0, 4, 0, 0, 0, 0, 0, 0, 0, 0, 0, 0, 0, 0, 0, 0, 0, 0]).length) c4) rfl rfl (fun _ ⟨⟨⟨⟨⟨M, O_4⟩, F_5⟩, F_9⟩, F_13⟩, F_17⟩ => (by kernel_rfl)) (by kernel_rfl) (by kernel_rfl) (by kernel_rfl) (fun _ _ _ h => h) ⟨⟨⟨⟨⟨M, O_4⟩, F_5⟩, F_9⟩, F_13⟩, F_17⟩ ?_
  simp only [aP, lI, l0, lS]
  obtain ⟨q43, hq43, hqs43⟩ := cut_hi (P := Tryd.prog) (t := 22) (by kernel_rfl) (fun _ => by kernel_rfl) p4 (([3, 1, 2, 0, 3, 0, 0, 0, 0, 0, 4, 0, 0, 0, 0, 0, 0, 0, 0, 0, 0, 0, 0, 0, 0, 0, 0]).length) c4 11 (by first | decide | omega) O_4.le
  refine readH (i := 5) (some 43) rfl (.slice q43 11 c4) rfl rfl (fun _ ⟨⟨⟨⟨⟨M, O_4⟩, F_5⟩, F_9⟩, F_13⟩, F_17⟩ => cutHi _ _ _ _ _ _ rfl rfl rfl (hq43 _)) (by kernel_rfl) (by kernel_rfl) (by kernel_rfl) (fun _ _ _ h => h) ⟨⟨⟨⟨⟨M, O_4⟩, F_5⟩, F_9⟩, F_13⟩, F_17⟩ ?_
  simp only [aP, lI, l0, lS]
  refine readH (i := 6) (some 44) rfl (.string (txt 11 (bl ([3, 1, 2, 0, 3, 0, 0, 0, 0, 0, 4, 0, 0, 0, 0, 0, 0, 0, 0, 0, 0, 0, 0, 0, 0, 0, 0])))) rfl rfl (fun _ ⟨⟨⟨⟨⟨M, O_4⟩, F_5⟩, F_9⟩, F_13⟩, F_17⟩ => conv_txt 22 5 9 _ rfl Tryd.underlying22 Tryd.underlying5 Tryd.underlying9 q43 11 c4 (bl ([3, 1, 2, 0, 3, 0, 0, 0, 0, 0, 4, 0, 0, 0, 0, 0, 0, 0, 0, 0, 0, 0, 0, 0, 0, 0, 0])) rfl _ (hqs43 _ _ O_4.src) (fun e => by obtain ⟨_, e', _⟩ := hqs43 _ _ O_4.src 0 (by decide); rw [e] at e'; cases e')) (by kernel_rfl) (by kernel_rfl) (by kernel_rfl) (fun _ _ _ h => h) ⟨⟨⟨⟨⟨M, O_4⟩, F_5⟩, F_9⟩, F_13⟩, F_17⟩ ?_
  simp only [aP, lI, l0, lS]
  refine readH (i := 7) (some 45) rfl (.bool true) rfl rfl (fun _ ⟨⟨⟨⟨⟨M, O_4⟩, F_5⟩, F_9⟩, F_13⟩, F_17⟩ => eqlS _ _ _ _ _ _ rfl rfl rfl (by kernel_rfl) _) (by kernel_rfl) (by kernel_rfl) (by kernel_rfl) (fun _ _ _ h => h) ⟨⟨⟨⟨⟨M, O_4⟩, F_5⟩, F_9⟩, F_13⟩, F_17⟩ ?_
  simp only [aP, lI, l0, lS]
  refine readH (i := 8) (some 46) rfl (.bool true) rfl rfl (fun _ ⟨⟨⟨⟨⟨M, O_4⟩, F_5⟩, F_9⟩, F_13⟩, F_17⟩ => (by kernel_rfl)) (by kernel_rfl) (by kernel_rfl) (by kernel_rfl) (fun _ _ _ h => h) ⟨⟨⟨⟨⟨M, O_4⟩, F_5⟩, F_9⟩, F_13⟩, F_17⟩ ?_
  simp only [aP, lI, l0, lS]
  refine readH (i := 9) (some 47) rfl (.bool true) rfl rfl (fun _ ⟨⟨⟨⟨⟨M, O_4⟩, F_5⟩, F_9⟩, F_13⟩, F_17⟩ => (by kernel_rfl)) (by kernel_rfl) (by kernel_rfl) (by kernel_rfl) (fun _ _ _ h => h) ⟨⟨⟨⟨⟨M, O_4⟩, F_5⟩, F_9⟩, F_13⟩, F_17⟩ ?_
  simp only [aP, lI, l0, lS]
  refine readH (i := 10) (some 48) rfl (.int .i64 0) rfl rfl (fun _ ⟨⟨⟨⟨⟨M, O_4⟩, F_5⟩, F_9⟩, F_13⟩, F_17⟩ => (by kernel_rfl)) (by kernel_rfl) (by kernel_rfl) (by kernel_rfl) (fun _ _ _ h => h) ⟨⟨⟨⟨⟨M, O_4⟩, F_5⟩, F_9⟩, F_13⟩, F_17⟩ ?_
  simp only [aP, lI, l0, lS]
  refine readH (i := 11) (some 49) rfl (.bool true) rfl rfl (fun _ ⟨⟨⟨⟨⟨M, O_4⟩, F_5⟩, F_9⟩, F_13⟩, F_17⟩ => eqlI .i64 _ _ _ _ _ _ rfl rfl rfl true (by decide) _) (by kernel_rfl) (by kernel_rfl) (by kernel_rfl) (fun _ _ _ h => h) ⟨⟨⟨⟨⟨M, O_4⟩, F_5⟩, F_9⟩, F_13⟩, F_17⟩ ?_
  simp only [aP, lI, l0, lS]
  refine readH (i := 12) (some 50) rfl (.bool true) rfl rfl (fun _ ⟨⟨⟨⟨⟨M, O_4⟩, F_5⟩, F_9⟩, F_13⟩, F_17⟩ => (by kernel_rfl)) (by kernel_rfl) (by kernel_rfl) (by kernel_rfl) (fun _ _ _ h => h) ⟨⟨⟨⟨⟨M, O_4⟩, F_5⟩, F_9⟩, F_13⟩, F_17⟩ ?_
  simp only [aP, lI, l0, lS]
  refine readH (i := 13) (some 51) rfl (.bool true) rfl rfl (fun _ ⟨⟨⟨⟨⟨M, O_4⟩, F_5⟩, F_9⟩, F_13⟩, F_17⟩ => (by kernel_rfl)) (by kernel_rfl) (by kernel_rfl) (by kernel_rfl) (fun _ _ _ h => h) ⟨⟨⟨⟨⟨M, O_4⟩, F_5⟩, F_9⟩, F_13⟩, F_17⟩ ?_
  simp only [aP, lI, l0, lS]
  refine readH (i := 14) (some 52) rfl (.int .i64 3) rfl rfl (fun _ ⟨⟨⟨⟨⟨M, O_4⟩, F_5⟩, F_9⟩, F_13⟩, F_17⟩ => (by kernel_rfl)) (by kernel_rfl) (by kernel_rfl) (by kernel_rfl) (fun _ _ _ h => h) ⟨⟨⟨⟨⟨M, O_4⟩, F_5⟩, F_9⟩, F_13⟩, F_17⟩ ?_
  simp only [aP, lI, l0, lS]
  refine readH (i := 15) (some 53) rfl (.bool true) rfl rfl (fun _ ⟨⟨⟨⟨⟨M, O_4⟩, F_5⟩, F_9⟩, F_13⟩, F_17⟩ => eqlI .i64 _ _ _ _ _ _ rfl rfl rfl true (by decide) _) (by kernel_rfl) (by kernel_rfl) (by kernel_rfl) (fun _ _ _ h => h) ⟨⟨⟨⟨⟨M, O_4⟩, F_5⟩, F_9⟩, F_13⟩, F_17⟩ ?_
  simp only [aP, lI, l0, lS]
  refine readH (i := 16) (some 54) rfl (.bool true) rfl rfl (fun _ ⟨⟨⟨⟨⟨M, O_4⟩, F_5⟩, F_9⟩, F_13⟩, F_17⟩ => (by kernel_rfl)) (by kernel_rfl) (by kernel_rfl) (by kernel_rfl) (fun _ _ _ h => h) ⟨⟨⟨⟨⟨M, O_4⟩, F_5⟩, F_9⟩, F_13⟩, F_17⟩ ?_
  simp only [aP, lI, l0, lS]
  refine readH (i := 17) (some 55) rfl (.bool true) rfl rfl (fun _ ⟨⟨⟨⟨⟨M, O_4⟩, F_5⟩, F_9⟩, F_13⟩, F_17⟩ => (by kernel_rfl)) (by kernel_rfl) (by kernel_rfl) (by kernel_rfl) (fun _ _ _ h => h) ⟨⟨⟨⟨⟨M, O_4⟩, F_5⟩, F_9⟩, F_13⟩, F_17⟩ ?_
  simp only [aP, lI, l0, lS]
  refine readH (i := 18) (some 56) rfl (.int .i64 110) rfl rfl (fun _ ⟨⟨⟨⟨⟨M, O_4⟩, F_5⟩, F_9⟩, F_13⟩, F_17⟩ => (by kernel_rfl)) (by kernel_rfl) (by kernel_rfl) (by kernel_rfl) (fun _ _ _ h => h) ⟨⟨⟨⟨⟨M, O_4⟩, F_5⟩, F_9⟩, F_13⟩, F_17⟩ ?_
  simp only [aP, lI, l0, lS]
  refine readH (i := 19) (some 57) rfl (.bool true) rfl rfl (fun _ ⟨⟨⟨⟨⟨M, O_4⟩, F_5⟩, F_9⟩, F_13⟩, F_17⟩ => eqlI .i64 _ _ _ _ _ _ rfl rfl rfl true (by decide) _) (by kernel_rfl) (by kernel_rfl) (by kernel_rfl) (fun _ _ _ h => h) ⟨⟨⟨⟨⟨M, O_4⟩, F_5⟩, F_9⟩, F_13⟩, F_17⟩ ?_
  simp only [aP, lI, l0, lS]
  refine readH (i := 20) (some 58) rfl (.bool true) rfl rfl (fun _ ⟨⟨⟨⟨⟨M, O_4⟩, F_5⟩, F_9⟩, F_13⟩, F_17⟩ => (by kernel_rfl)) (by kernel_rfl) (by kernel_rfl) (by kernel_rfl) (fun _ _ _ h => h) ⟨⟨⟨⟨⟨M, O_4⟩, F_5⟩, F_9⟩, F_13⟩, F_17⟩ ?_
  simp only [aP, lI, l0, lS]
  refine readH (i := 21) (some 59) rfl (.bool true) rfl rfl (fun _ ⟨⟨⟨⟨⟨M, O_4⟩, F_5⟩, F_9⟩, F_13⟩, F_17⟩ => (by kernel_rfl)) (by kernel_rfl) (by kernel_rfl) (by kernel_rfl) (fun _ _ _ h => h) ⟨⟨⟨⟨⟨M, O_4⟩, F_5⟩, F_9⟩, F_13⟩, F_17⟩ ?_
  simp only [aP, lI, l0, lS]
  refine readH (i := 22) (some 60) rfl (.int .i64 3) rfl rfl (fun _ ⟨⟨⟨⟨⟨M, O_4⟩, F_5⟩, F_9⟩, F_13⟩, F_17⟩ => (by kernel_rfl)) (by kernel_rfl) (by kernel_rfl) (by kernel_rfl) (fun _ _ _ h => h) ⟨⟨⟨⟨⟨M, O_4⟩, F_5⟩, F_9⟩, F_13⟩, F_17⟩ ?_
  simp only [aP, lI, l0, lS]
  refine readH (i := 23) (some 61) rfl (.bool true) rfl rfl (fun _ ⟨⟨⟨⟨⟨M, O_4⟩, F_5⟩, F_9⟩, F_13⟩, F_17⟩ => eqlI .i64 _ _ _ _ _ _ rfl rfl rfl true (by decide) _) (by kernel_rfl) (by kernel_rfl) (by kernel_rfl) (fun _ _ _ h => h) ⟨⟨⟨⟨⟨M, O_4⟩, F_5⟩, F_9⟩, F_13⟩, F_17⟩ ?_
  simp only [aP, lI, l0, lS]
  refine readH (i := 24) (some 62) rfl (.bool true) rfl rfl (fun _ ⟨⟨⟨⟨⟨M, O_4⟩, F_5⟩, F_9⟩, F_13⟩, F_17⟩ => (by kernel_rfl)) (by kernel_rfl) (by kernel_rfl) (by kernel_rfl) (fun _ _ _ h => h) ⟨⟨⟨⟨⟨M, O_4⟩, F_5⟩, F_9⟩, F_13⟩, F_17⟩ ?_
  simp only [aP, lI, l0, lS]
  refine readH (i := 25) (some 63) rfl (.bool true) rfl rfl (fun _ ⟨⟨⟨⟨⟨M, O_4⟩, F_5⟩, F_9⟩, F_13⟩, F_17⟩ => (by kernel_rfl)) (by kernel_rfl) (by kernel_rfl) (by kernel_rfl) (fun _ _ _ h => h) ⟨⟨⟨⟨⟨M, O_4⟩, F_5⟩, F_9⟩, F_13⟩, F_17⟩ ?_
  simp only [aP, lI, l0, lS]
  refine readH (i := 26) (some 64) rfl (.int .i64 110) rfl rfl (fun _ ⟨⟨⟨⟨⟨M, O_4⟩, F_5⟩, F_9⟩, F_13⟩, F_17⟩ => (by kernel_rfl)) (by kernel_rfl) (by kernel_rfl) (by kernel_rfl) (fun _ _ _ h => h) ⟨⟨⟨⟨⟨M, O_4⟩, F_5⟩, F_9⟩, F_13⟩, F_17⟩ ?_
  simp only [aP, lI, l0, lS]
  refine readH (i := 27) (some 65) rfl (.bool true) rfl rfl (fun _ ⟨⟨⟨⟨⟨M, O_4⟩, F_5⟩, F_9⟩, F_13⟩, F_17⟩ => eqlI .i64 _ _ _ _ _ _ rfl rfl rfl true (by decide) _) (by kernel_rfl) (by kernel_rfl) (by kernel_rfl) (fun _ _ _ h => h) ⟨⟨⟨⟨⟨M, O_4⟩, F_5⟩, F_9⟩, F_13⟩, F_17⟩ ?_
  simp only [aP, lI, l0, lS]
  refine readH (i := 28) (some 66) rfl (.bool true) rfl rfl (fun _ ⟨⟨⟨⟨⟨M, O_4⟩, F_5⟩, F_9⟩, F_13⟩, F_17⟩ => (by kernel_rfl)) (by kernel_rfl) (by kernel_rfl) (by kernel_rfl) (fun _ _ _ h => h) ⟨⟨⟨⟨⟨M, O_4⟩, F_5⟩, F_9⟩, F_13⟩, F_17⟩ ?_
  simp only [aP, lI, l0, lS]
  refine readH (i := 29) (some 67) rfl (.bool true) rfl rfl (fun _ ⟨⟨⟨⟨⟨M, O_4⟩, F_5⟩, F_9⟩, F_13⟩, F_17⟩ => (by kernel_rfl)) (by kernel_rfl) (by kernel_rfl) (by kernel_rfl) (fun _ _ _ h => h) ⟨⟨⟨⟨⟨M, O_4⟩, F_5⟩, F_9⟩, F_13⟩, F_17⟩ ?_
  simp only [aP, lI, l0, lS]
  refine readH (i := 30) (some 68) rfl (.agg #[.int .i64 3, .int .i64 1, .int .i64 2, .int .i64 3, .int .i64 4, .slice (some ⟨B1, 0, none⟩) 16 16]) rfl rfl (fun _ ⟨⟨⟨⟨⟨M, O_4⟩, F_5⟩, F_9⟩, F_13⟩, F_17⟩ => loadN 24 _ ⟨B2, 0, none⟩ [.int .i64 3, .int .i64 1, .int .i64 2, .int .i64 3, .int .i64 4, .slice (some ⟨B1, 0, none⟩) 16 16] rfl rfl (fun _ => by kernel_rfl) (fun _ => by kernel_rfl) (M.rangeAt (List.mem_cons_of_mem _ (List.mem_cons_of_mem _ (List.mem_cons_of_mem _ (List.mem_cons_of_mem _ (List.mem_cons_of_mem _ (List.mem_cons_of_mem _ (List.mem_cons_of_mem _ List.mem_cons_self))))))))) (by kernel_rfl) (by kernel_rfl) (by kernel_rfl) (fun _ _ _ h => h) ⟨⟨⟨⟨⟨M, O_4⟩, F_5⟩, F_9⟩, F_13⟩, F_17⟩ ?_
  simp only [aP, lI, l0, lS]
  refine readH (i := 32) (some 70) rfl (.agg #[.int .u8 2, .int .u8 0, .int .u8 3, .int .u8 0, .int .u8 0, .int .u8 0, .int .u8 0, .int .u8 0, .int .u8 0, .int .u8 0, .int .u8 0, .int .u8 4]) rfl rfl (fun _ ⟨⟨⟨⟨⟨M, O_4⟩, F_5⟩, F_9⟩, F_13⟩, F_17⟩ => (by kernel_rfl)) (by kernel_rfl) (by kernel_rfl) (by kernel_rfl) (fun _ _ _ h => h) ⟨⟨⟨⟨⟨M, O_4⟩, F_5⟩, F_9⟩, F_13⟩, F_17⟩ ?_
  simp only [aP, lI, l0, lS]
  have hC : Calls Tryd.prog 13 #[.agg #[.int .i64 3, .int .i64 1, .int .i64 2, .int .i64 3, .int .i64 4, .slice (some ⟨B1, 0, none⟩) 16 16]] w20 (fun e w' => e = .returned (.agg (row .u8 12 (bl (pno rec0))).toArray) ∧ Below w20.heap.size w20 w') := hN rec0 (some ⟨B1, 0, none⟩) 16 _ (hg.mm M) (⟨M.src (List.mem_cons_of_mem _ (List.mem_cons_of_mem _ (List.mem_cons_of_mem _ (List.mem_cons_of_mem _ (List.mem_cons_of_mem _ (List.mem_cons_of_mem _ (List.mem_cons_of_mem _ (List.mem_cons_of_mem _ List.mem_cons_self)))))))) rec0.body rfl, Nat.le_refl _, fun e => (by cases e), show (16 : Nat) ≤ 140737488351232 by decide, show Byts rec0.body by intro x hx; unfold rec0 at hx; simp at hx; omega, show i64 3 by unfold i64; decide, show i64 1 by unfold i64; decide, show i64 2 by unfold i64; decide, show i64 3 by unfold i64; decide, show i64 4 by unfold i64; decide⟩ : PV _ rec0 (some ⟨B1, 0, none⟩) 16)
  refine callH (i := 31) (some 69) rfl (by kernel_rfl) rfl rfl (fun _ => by kernel_rfl) (hC) ?_
  rintro e w21 ⟨rfl, l⟩
  replace M := M.call l
  replace O_4 := O_4.below l
  replace F_5 := F_5.below l (Nat.le_refl _)
  replace F_9 := F_9.below l (Nat.le_refl _)
  replace F_13 := F_13.below l (Nat.le_refl _)
  replace F_17 := F_17.below l (Nat.le_refl _)
  refine ⟨_, rfl, ⟨⟨⟨⟨⟨M, O_4⟩, F_5⟩, F_9⟩, F_13⟩, F_17⟩, ?_⟩
  clear l hC
  simp only [aP, lI, l0, lS]
  refine readH (i := 33) (some 71) rfl (.bool true) rfl rfl (fun _ ⟨⟨⟨⟨⟨M, O_4⟩, F_5⟩, F_9⟩, F_13⟩, F_17⟩ => eqlRow 12 .u8 (bl (pno rec0)) (bl ([2, 0, 3, 0, 0, 0, 0, 0, 0, 0, 0, 4])) 31 5 _ _ _ rfl rfl rfl Tryd.underlying31 Tryd.underlying5 (fun _ => by kernel_rfl) (by kernel_rfl) (fun j hj => by rw [show pno rec0 = [2, 0, 3, 0, 0, 0, 0, 0, 0, 0, 0, 4] from by kernel_rfl]) _) (by kernel_rfl) (by kernel_rfl) (by kernel_rfl) (fun _ _ _ h => h) ⟨⟨⟨⟨⟨M, O_4⟩, F_5⟩, F_9⟩, F_13⟩, F_17⟩ ?_
  simp only [aP, lI, l0, lS]
  refine readH (i := 34) (some 72) rfl (.bool true) rfl rfl (fun _ ⟨⟨⟨⟨⟨M, O_4⟩, F_5⟩, F_9⟩, F_13⟩, F_17⟩ => (by kernel_rfl)) (by kernel_rfl) (by kernel_rfl) (by kernel_rfl) (fun _ _ _ h => h) ⟨⟨⟨⟨⟨M, O_4⟩, F_5⟩, F_9⟩, F_13⟩, F_17⟩ ?_
  simp only [aP, lI, l0, lS]
  refine readH (i := 35) (some 73) rfl (.bool true) rfl rfl (fun _ ⟨⟨⟨⟨⟨M, O_4⟩, F_5⟩, F_9⟩, F_13⟩, F_17⟩ => (by kernel_rfl)) (by kernel_rfl) (by kernel_rfl) (by kernel_rfl) (fun _ _ _ h => h) ⟨⟨⟨⟨⟨M, O_4⟩, F_5⟩, F_9⟩, F_13⟩, F_17⟩ ?_
  simp only [aP, lI, l0, lS]
  refine readH (i := 36) (some 74) rfl (.agg #[.int .i64 3, .int .i64 1, .int .i64 2, .int .i64 3, .int .i64 4, .slice (some ⟨B1, 0, none⟩) 16 16]) rfl rfl (fun _ ⟨⟨⟨⟨⟨M, O_4⟩, F_5⟩, F_9⟩, F_13⟩, F_17⟩ => loadN 24 _ ⟨B2, 0, none⟩ [.int .i64 3, .int .i64 1, .int .i64 2, .int .i64 3, .int .i64 4, .slice (some ⟨B1, 0, none⟩) 16 16] rfl rfl (fun _ => by kernel_rfl) (fun _ => by kernel_rfl) (M.rangeAt (List.mem_cons_of_mem _ (List.mem_cons_of_mem _ (List.mem_cons_of_mem _ (List.mem_cons_of_mem _ (List.mem_cons_of_mem _ (List.mem_cons_of_mem _ (List.mem_cons_of_mem _ List.mem_cons_self))))))))) (by kernel_rfl) (by kernel_rfl) (by kernel_rfl) (fun _ _ _ h => h) ⟨⟨⟨⟨⟨M, O_4⟩, F_5⟩, F_9⟩, F_13⟩, F_17⟩ ?_
  simp only [aP, lI, l0, lS]
  refine readH (i := 39) (some 77) rfl (.slice p4 (([3, 1, 2, 0, 3, 0, 0, 0, 0, 0, 4, 0, 0, 0, 0, 0, 0, 0, 0, 0, 0, 0, 0, 0, 0, 0, 0]).length) c4) rfl rfl (fun _ ⟨⟨⟨⟨⟨M, O_4⟩, F_5⟩, F_9⟩, F_13⟩, F_17⟩ => (by kernel_rfl)) (by kernel_rfl) (by kernel_rfl) (by kernel_rfl) (fun _ _ _ h => h) ⟨⟨⟨⟨⟨M, O_4⟩, F_5⟩, F_9⟩, F_13⟩, F_17⟩ ?_
  simp only [aP, lI, l0, lS]
  obtain ⟨q78, hq78, hqs78⟩ := cut_hi (P := Tryd.prog) (t := 22) (by kernel_rfl) (fun _ => by kernel_rfl) p4 (([3, 1, 2, 0, 3, 0, 0, 0, 0, 0, 4, 0, 0, 0, 0, 0, 0, 0, 0, 0, 0, 0, 0, 0, 0, 0, 0]).length) c4 11 (by first | decide | omega) O_4.le
  refine readH (i := 40) (some 78) rfl (.slice q78 11 c4) rfl rfl (fun _ ⟨⟨⟨⟨⟨M, O_4⟩, F_5⟩, F_9⟩, F_13⟩, F_17⟩ => cutHi _ _ _ _ _ _ rfl rfl rfl (hq78 _)) (by kernel_rfl) (by kernel_rfl) (by kernel_rfl) (fun _ _ _ h => h) ⟨⟨⟨⟨⟨M, O_4⟩, F_5⟩, F_9⟩, F_13⟩, F_17⟩ ?_
  simp only [aP, lI, l0, lS]
  refine readH (i := 41) (some 79) rfl (.string (txt 11 (bl ([3, 1, 2, 0, 3, 0, 0, 0, 0, 0, 4, 0, 0, 0, 0, 0, 0, 0, 0, 0, 0, 0, 0, 0, 0, 0, 0])))) rfl rfl (fun _ ⟨⟨⟨⟨⟨M, O_4⟩, F_5⟩, F_9⟩, F_13⟩, F_17⟩ => conv_txt 22 5 9 _ rfl Tryd.underlying22 Tryd.underlying5 Tryd.underlying9 q78 11 c4 (bl ([3, 1, 2, 0, 3, 0, 0, 0, 0, 0, 4, 0, 0, 0, 0, 0, 0, 0, 0, 0, 0, 0, 0, 0, 0, 0, 0])) rfl _ (hqs78 _ _ O_4.src) (fun e => by obtain ⟨_, e', _⟩ := hqs78 _ _ O_4.src 0 (by decide); rw [e] at e'; cases e')) (by kernel_rfl) (by kernel_rfl) (by kernel_rfl) (fun _ _ _ h => h) ⟨⟨⟨⟨⟨M, O_4⟩, F_5⟩, F_9⟩, F_13⟩, F_17⟩ ?_
  simp only [aP, lI, l0, lS]
  refine callH (i := 37) (some 75) rfl (by kernel_rfl) rfl rfl (fun _ => by kernel_rfl) (hH rec0 (some ⟨B1, 0, none⟩) 16 _ (hg.mm M) (⟨M.src (List.mem_cons_of_mem _ (List.mem_cons_of_mem _ (List.mem_cons_of_mem _ (List.mem_cons_of_mem _ (List.mem_cons_of_mem _ (List.mem_cons_of_mem _ (List.mem_cons_of_mem _ (List.mem_cons_of_mem _ List.mem_cons_self)))))))) rec0.body rfl, Nat.le_refl _, fun e => (by cases e), show (16 : Nat) ≤ 140737488351232 by decide, show Byts rec0.body by intro x hx; unfold rec0 at hx; simp at hx; omega, show i64 3 by unfold i64; decide, show i64 1 by unfold i64; decide, show i64 2 by unfold i64; decide, show i64 3 by unfold i64; decide, show i64 4 by unfold i64; decide⟩ : PV _ rec0 (some ⟨B1, 0, none⟩) 16)) ?_
  rintro e w22 ⟨⟨v22, rfl, O_22⟩, l⟩
  replace M := M.call l
  replace O_4 := O_4.below l
  replace F_5 := F_5.below l (Nat.le_refl _)
  replace F_9 := F_9.below l (Nat.le_refl _)
  replace F_13 := F_13.below l (Nat.le_refl _)
  replace F_17 := F_17.below l (Nat.le_refl _)
  clear l
  rw [show phd rec0 = [3, 1, 2, 0, 3, 0, 0, 0, 0, 0, 4] from by kernel_rfl] at O_22
  obtain ⟨p22, c22, rfl, _, _⟩ := O_22.bytes
  refine ⟨_, rfl, ⟨⟨⟨⟨⟨M, O_4⟩, F_5⟩, F_9⟩, F_13⟩, F_17⟩, ?_⟩
  simp only [aP, lI, l0, lS]
  refine wpAnyH_more (S' := fun w' => ((((((Mm w [(B18, [.int .i64 pk0.kind, .int .i64 pk0.role, .int .i64 pk0.path, .int .i64 pk0.epo, .int .i64 pk0.ctr, .slice bp17 pk0.body.length bc17]), (B16, [.int .u8 4, .int .u8 0]), (B14, [.int .i64 pk0.kind, .int .i64 pk0.role, .int .i64 pk0.path, .int .i64 pk0.epo, .int .i64 pk0.ctr, .slice bp13 pk0.body.length bc13]), (B12, [.int .u8 3, .int .u8 0]), (B10, [.int .i64 pk0.kind, .int .i64 pk0.role, .int .i64 pk0.path, .int .i64 pk0.epo, .int .i64 pk0.ctr, .slice bp9 pk0.body.length bc9]), (B8, [.int .u8 1]), (B6, [.int .i64 pk0.kind, .int .i64 pk0.role, .int .i64 pk0.path, .int .i64 pk0.epo, .int .i64 pk0.ctr, .slice bp5 pk0.body.length bc5]), (B2, [.int .i64 3, .int .i64 1, .int .i64 2, .int .i64 3, .int .i64 4, .slice (some ⟨B1, 0, none⟩) 16 16]), (B1, [.int .u8 0, .int .u8 0, .int .u8 0, .int .u8 0, .int .u8 0, .int .u8 0, .int .u8 0, .int .u8 0, .int .u8 0, .int .u8 0, .int .u8 0, .int .u8 0, .int .u8 0, .int .u8 0, .int .u8 0, .int .u8 0])] w') ∧ OwnL w' w3.heap.size ([3, 1, 2, 0, 3, 0, 0, 0, 0, 0, 4, 0, 0, 0, 0, 0, 0, 0, 0, 0, 0, 0, 0, 0, 0, 0, 0]) (.slice p4 ([3, 1, 2, 0, 3, 0, 0, 0, 0, 0, 4, 0, 0, 0, 0, 0, 0, 0, 0, 0, 0, 0, 0, 0, 0, 0, 0]).length c4)) ∧ PV w' pk0 bp5 bc5) ∧ PV w' pk0 bp9 bc9) ∧ PV w' pk0 bp13 bc13) ∧ PV w' pk0 bp17 bc17) ∧ NewL w' w21.heap.size ([3, 1, 2, 0, 3, 0, 0, 0, 0, 0, 4]) (.slice p22 ([3, 1, 2, 0, 3, 0, 0, 0, 0, 0, 4]).length c22)) (fun _ h => h.1) _ _ _ _ ?_
  refine readH (i := 38) (some 76) rfl (.string (txt (([3, 1, 2, 0, 3, 0, 0, 0, 0, 0, 4]).length) (bl ([3, 1, 2, 0, 3, 0, 0, 0, 0, 0, 4])))) rfl rfl (fun _ ⟨⟨⟨⟨⟨⟨M, O_4⟩, F_5⟩, F_9⟩, F_13⟩, F_17⟩, O_22⟩ => conv_txt 22 5 9 _ rfl Tryd.underlying22 Tryd.underlying5 Tryd.underlying9 p22 (([3, 1, 2, 0, 3, 0, 0, 0, 0, 0, 4]).length) c22 (bl ([3, 1, 2, 0, 3, 0, 0, 0, 0, 0, 4])) rfl _ O_22.src (fun e => by have h1 := O_22.nilCap e; have h2 := O_22.le; omega)) (by kernel_rfl) (by kernel_rfl) (by kernel_rfl) (fun _ _ _ h => h) ⟨⟨⟨⟨⟨⟨M, O_4⟩, F_5⟩, F_9⟩, F_13⟩, F_17⟩, O_22⟩ ?_
  simp only [aP, lI, l0, lS]
  refine readH (i := 42) (some 80) rfl (.bool true) rfl rfl (fun _ ⟨⟨⟨⟨⟨⟨M, O_4⟩, F_5⟩, F_9⟩, F_13⟩, F_17⟩, O_22⟩ => eqlS _ _ _ _ _ _ rfl rfl rfl (by kernel_rfl) _) (by kernel_rfl) (by kernel_rfl) (by kernel_rfl) (fun _ _ _ h => h) ⟨⟨⟨⟨⟨⟨M, O_4⟩, F_5⟩, F_9⟩, F_13⟩, F_17⟩, O_22⟩ ?_
  simp only [aP, lI, l0, lS]
  refine readH (i := 43) (some 81) rfl (.bool true) rfl rfl (fun _ ⟨⟨⟨⟨⟨⟨M, O_4⟩, F_5⟩, F_9⟩, F_13⟩, F_17⟩, O_22⟩ => (by kernel_rfl)) (by kernel_rfl) (by kernel_rfl) (by kernel_rfl) (fun _ _ _ h => h) ⟨⟨⟨⟨⟨⟨M, O_4⟩, F_5⟩, F_9⟩, F_13⟩, F_17⟩, O_22⟩ ?_
  simp only [aP, lI, l0, lS]
  refine readH (i := 44) (some 0) rfl (.bool true) rfl rfl (fun _ ⟨⟨⟨⟨⟨⟨M, O_4⟩, F_5⟩, F_9⟩, F_13⟩, F_17⟩, O_22⟩ => (by kernel_rfl)) (by kernel_rfl) (by kernel_rfl) (by kernel_rfl) (fun _ _ _ h => h) ⟨⟨⟨⟨⟨⟨M, O_4⟩, F_5⟩, F_9⟩, F_13⟩, F_17⟩, O_22⟩ ?_
  simp only [aP, lI, l0]
  refine wpAnyH_done (by kernel_rfl) ?_ _
  first | show Exit.then _ _ _ _ _ | show Exit.inBlock _ _ _ _ _
  go_wp2
  go_ret
  exact ⟨rfl, M.below⟩
end Go.Proofs.YtbhhboiofepnhaaDoor

namespace Go.Proofs.YtbhhboiofepnhaaDoor
open Go.RowKit

set_option maxRecDepth 10000 in
set_option maxHeartbeats 32000000 in
theorem law_PacketBack (hP : PrintOK) (hD : ParseOK) (hH : HeadOK) (hN : NonceOK) (p : Pkt) (bp : Option Addr) (bc : Nat) (sq : Option Addr) (cq : Nat) (b : List Int) (hlen : b.length ≤ 140737488351232) (hcap : b.length ≤ cq) (hnil : sq = none → cq = 0) (hb : Byts b) (w : World) (hg : PG w) (hp : PV w p bp bc) (hs : Src w sq b.length (bl b)) : Calls Tryd.prog 5 #[.agg (pcs p bp bc).toArray, .slice sq b.length cq] w fun e w' => e = .returned (.bool true) ∧ Below w.heap.size w w' := by
  have M := Mm.init w
  unfold pcs
  go_enter Tryd.func5, Tryd.ntmps5
  go_upto_region 0 with fail
  refine wp_region_list ?_
  refine actL (w' := w.alloc (.cells #[.int .i64 p.kind, .int .i64 p.role, .int .i64 p.path, .int .i64 p.epo, .int .i64 p.ctr, .slice bp p.body.length bc] 24)) (.pointer (some ⟨w.heap.size, 0, none⟩)) rfl (by kernel_rfl) ?_
  simp only [aP, lI, l0, lS]
  have hB_B1 : w.heap.size ≤ w.heap.size := M.below.size
  replace M := M.box #[.int .i64 p.kind, .int .i64 p.role, .int .i64 p.path, .int .i64 p.epo, .int .i64 p.ctr, .slice bp p.body.length bc] 24 w.heap.size rfl
  generalize w.alloc (.cells #[.int .i64 p.kind, .int .i64 p.role, .int .i64 p.path, .int .i64 p.epo, .int .i64 p.ctr, .slice bp p.body.length bc] 24) = w1 at M  ⊢
  generalize eB : w.heap.size = B1 at M hB_B1  ⊢
  have hE_B1 : w.heap.size ≤ B1 := Nat.le_of_eq eB
  have hF_B1 : B1 ≤ w.heap.size := Nat.le_of_eq eB.symm
  clear eB
  replace M : Mm w ([(B1, [.int .i64 p.kind, .int .i64 p.role, .int .i64 p.path, .int .i64 p.epo, .int .i64 p.ctr, .slice bp p.body.length bc])]) w1 := M
  refine readL (.bool false) rfl (by kernel_rfl) ?_
  simp only [aP, lI, l0, lS]
  first | show Exit.then _ _ _ _ _ | show Exit.inBlock _ _ _ _ _
  go_upto_region 1 with fail
  refine wp_region_list ?_
  have hC : Calls Tryd.prog 8 #[] w1 (fun e w' => e = .returned (.bool true) ∧ Below w1.heap.size w1 w') := (shown11 hP hD hH hN _ (hg.mm M))
  refine callL rfl (fun _ => by kernel_rfl) (hC) ?_
  rintro e w2 ⟨rfl, l⟩
  replace M := M.call l
  refine ⟨_, rfl, ?_⟩
  clear l hC
  simp only [aP, lI, l0, lS]
  refine readL (.bool true) rfl (by kernel_rfl) ?_
  simp only [aP, lI, l0, lS]
  first | show Exit.then _ _ _ _ _ | show Exit.inBlock _ _ _ _ _
  cases hok : pok p with
  | false =>
    go_upto_region 2 with fail
    refine wp_region_list ?_
    refine readL (.agg #[.int .i64 p.kind, .int .i64 p.role, .int .i64 p.path, .int .i64 p.epo, .int .i64 p.ctr, .slice bp p.body.length bc]) rfl (loadN 24 _ ⟨B1, 0, none⟩ [.int .i64 p.kind, .int .i64 p.role, .int .i64 p.path, .int .i64 p.epo, .int .i64 p.ctr, .slice bp p.body.length bc] rfl rfl (fun _ => by kernel_rfl) (fun _ => by kernel_rfl) (M.rangeAt List.mem_cons_self)) ?_
    simp only [aP, lI, l0, lS]
    refine callL rfl (fun _ => by kernel_rfl) (hP p bp bc _ (hg.mm M) (hp.below M.below (Nat.le_refl _))) ?_
    rintro e w3 ⟨⟨v3, rfl, O_3⟩, l⟩
    replace M := M.call l
    clear l
    rw [show pL p = ([] : List Int) from (pL_bad hok).1] at O_3
    rw [show pE p = 110 from (pL_bad hok).2]
    obtain ⟨p3, c3, rfl, _, _⟩ := O_3.bytes
    refine ⟨_, rfl, ?_⟩
    simp only [aP, lI, l0, lS]
    refine readL (.tuple #[.slice p3 (([] : List Int).length) c3, .int .i64 110]) rfl (by kernel_rfl) ?_
    simp only [aP, lI, l0, lS]
    refine readL (.slice p3 (([] : List Int).length) c3) rfl (by kernel_rfl) ?_
    simp only [aP, lI, l0, lS]
    refine readL (.int .i64 110) rfl (by kernel_rfl) ?_
    simp only [aP, lI, l0, lS]
    refine readL (.slice p3 (([] : List Int).length) c3) rfl (by kernel_rfl) ?_
    simp only [aP, lI, l0, lS]
    refine readL (.int .i64 110) rfl (by kernel_rfl) ?_
    simp only [aP, lI, l0, lS]
    first | show Exit.then _ _ _ _ _ | show Exit.inBlock _ _ _ _ _
    go_upto_region 3 with fail
    refine wp_region_list ?_
    refine readL (.int .i64 110) rfl (by kernel_rfl) ?_
    simp only [aP, lI, l0, lS]
    refine readL (.bool false) rfl (eqlI .i64 _ _ _ _ _ _ rfl rfl rfl false (by decide) _) ?_
    simp only [aP, lI, l0, lS]
    first | show Exit.then _ _ _ _ _ | show Exit.inBlock _ _ _ _ _
    cases hdb : pps b with
    | error er =>
      have hne := pps_ne hdb
      go_upto_region 8 with fail
      refine wp_region_list ?_
      refine readL (.slice sq b.length cq) rfl (by kernel_rfl) ?_
      simp only [aP, lI, l0, lS]
      refine callL rfl (fun _ => by kernel_rfl) (hD sq cq b _ (hg.mm M) hlen hcap hnil hb (hs.below M.below (Nat.le_refl _))) ?_
      rintro e w4 ⟨⟨bp4, bc4, rfl, F_4⟩, l⟩
      replace M := M.call l
      clear l
      rw [show psP b = pk0 from (ps_err hdb).1] at F_4
      rw [show psP b = pk0 from (ps_err hdb).1, show psE b = er from (ps_err hdb).2]
      unfold pcs
      refine ⟨_, rfl, ?_⟩
      simp only [aP, lI, l0, lS]
      refine readL (.tuple #[.agg #[.int .i64 pk0.kind, .int .i64 pk0.role, .int .i64 pk0.path, .int .i64 pk0.epo, .int .i64 pk0.ctr, .slice bp4 pk0.body.length bc4], .int .i64 er]) rfl (by kernel_rfl) ?_
      simp only [aP, lI, l0, lS]
      refine readL (.agg #[.int .i64 pk0.kind, .int .i64 pk0.role, .int .i64 pk0.path, .int .i64 pk0.epo, .int .i64 pk0.ctr, .slice bp4 pk0.body.length bc4]) rfl (by kernel_rfl) ?_
      simp only [aP, lI, l0, lS]
      refine readL (.int .i64 er) rfl (by kernel_rfl) ?_
      simp only [aP, lI, l0, lS]
      have hnew := Below.refl w4.heap.size w4
      have hnz := Nat.le_refl w4.heap.size
      refine actL (w' := w4.alloc (.cells #[.int .i64 0, .int .i64 0, .int .i64 0, .int .i64 0, .int .i64 0, .slice none 0 0] 24)) (.pointer (some ⟨w4.heap.size, 0, none⟩)) rfl (by kernel_rfl) ?_
      simp only [aP, lI, l0, lS]
      have hlb := (Below.refl w4.heap.size w4).alloc (Nat.le_refl _) (.cells #[.int .i64 0, .int .i64 0, .int .i64 0, .int .i64 0, .int .i64 0, .slice none 0 0] 24)
      replace hnew := hnew.trans (hlb.mono hnew.size)
      clear hlb
      have hB_B5 : w.heap.size ≤ w4.heap.size := M.below.size
      replace M := M.box #[.int .i64 0, .int .i64 0, .int .i64 0, .int .i64 0, .int .i64 0, .slice none 0 0] 24 w4.heap.size rfl
      generalize w4.alloc (.cells #[.int .i64 0, .int .i64 0, .int .i64 0, .int .i64 0, .int .i64 0, .slice none 0 0] 24) = w5 at M hnew ⊢
      generalize eB : w4.heap.size = B5 at M hB_B5  ⊢
      have hE_B5 : w4.heap.size ≤ B5 := Nat.le_of_eq eB
      have hF_B5 : B5 ≤ w4.heap.size := Nat.le_of_eq eB.symm
      clear eB
      replace M : Mm w ([(B5, [.int .i64 0, .int .i64 0, .int .i64 0, .int .i64 0, .int .i64 0, .slice none 0 0]), (B1, [.int .i64 p.kind, .int .i64 p.role, .int .i64 p.path, .int .i64 p.epo, .int .i64 p.ctr, .slice bp p.body.length bc])]) w5 := M
      refine skipOpL rfl (storeP [.int .i64 pk0.kind, .int .i64 pk0.role, .int .i64 pk0.path, .int .i64 pk0.epo, .int .i64 pk0.ctr, .slice bp4 pk0.body.length bc4] B5 0 24 _ _ rfl rfl rfl (M.thereP List.mem_cons_self 0 6 (Nat.le_of_ble_eq_true rfl)) (by kernel_rfl) (List.all_eq_true.1 (rfl : ([.int .i64 pk0.kind, .int .i64 pk0.role, .int .i64 pk0.path, .int .i64 pk0.epo, .int .i64 pk0.ctr, .slice bp4 pk0.body.length bc4] : List Value).all (fun u => u.oneCell') = true))) ?_
      simp only [Act.put]
      replace M := M.setPart [.int .i64 pk0.kind, .int .i64 pk0.role, .int .i64 pk0.path, .int .i64 pk0.epo, .int .i64 pk0.ctr, .slice bp4 pk0.body.length bc4] 0 (Nat.le_of_ble_eq_true rfl)
      replace hnew := below_setAll hnew B5 (by have := hnew.size; omega) 0 [.int .i64 pk0.kind, .int .i64 pk0.role, .int .i64 pk0.path, .int .i64 pk0.epo, .int .i64 pk0.ctr, .slice bp4 pk0.body.length bc4]
      generalize w5.setCells B5 0 [.int .i64 pk0.kind, .int .i64 pk0.role, .int .i64 pk0.path, .int .i64 pk0.epo, .int .i64 pk0.ctr, .slice bp4 pk0.body.length bc4] = w6 at M hnew ⊢
      replace M : Mm w ([(B5, [.int .i64 pk0.kind, .int .i64 pk0.role, .int .i64 pk0.path, .int .i64 pk0.epo, .int .i64 pk0.ctr, .slice bp4 pk0.body.length bc4]), (B1, [.int .i64 p.kind, .int .i64 p.role, .int .i64 p.path, .int .i64 p.epo, .int .i64 p.ctr, .slice bp p.body.length bc])]) w6 := M
      refine readL (.int .i64 er) rfl (by kernel_rfl) ?_
      simp only [aP, lI, l0, lS]
      first | show Exit.then _ _ _ _ _ | show Exit.inBlock _ _ _ _ _
      replace F_4 := F_4.below hnew (Nat.le_refl _)
      clear hnew hnz
      go_upto_region 9 with fail
      refine wp_region_list ?_
      refine readL (.int .i64 er) rfl (by kernel_rfl) ?_
      simp only [aP, lI, l0, lS]
      refine readL (.bool true) rfl (neqI .i64 _ _ _ _ _ _ rfl rfl rfl true (by simpa using hne) _) ?_
      simp only [aP, lI, l0, lS]
      first | show Exit.then _ _ _ _ _ | show Exit.inBlock _ _ _ _ _
      clear hne
      go_upto_region 10 with fail
      refine wp_region_list ?_
      refine readL (.bool true) rfl (by kernel_rfl) ?_
      simp only [aP, lI, l0, lS]
      refine readL (.bool true) rfl (by kernel_rfl) ?_
      simp only [aP, lI, l0, lS]
      first | show Exit.then _ _ _ _ _ | show Exit.inBlock _ _ _ _ _
      go_wp2
      go_ret
      exact ⟨rfl, M.below⟩
    | ok m =>
      go_upto_region 8 with fail
      refine wp_region_list ?_
      refine readL (.slice sq b.length cq) rfl (by kernel_rfl) ?_
      simp only [aP, lI, l0, lS]
      refine callL rfl (fun _ => by kernel_rfl) (hD sq cq b _ (hg.mm M) hlen hcap hnil hb (hs.below M.below (Nat.le_refl _))) ?_
      rintro e w7 ⟨⟨bp7, bc7, rfl, F_7⟩, l⟩
      replace M := M.call l
      clear l
      rw [show psP b = m from (ps_ok hdb).1] at F_7
      rw [show psP b = m from (ps_ok hdb).1, show psE b = 0 from (ps_ok hdb).2]
      unfold pcs
      refine ⟨_, rfl, ?_⟩
      simp only [aP, lI, l0, lS]
      refine readL (.tuple #[.agg #[.int .i64 m.kind, .int .i64 m.role, .int .i64 m.path, .int .i64 m.epo, .int .i64 m.ctr, .slice bp7 m.body.length bc7], .int .i64 0]) rfl (by kernel_rfl) ?_
      simp only [aP, lI, l0, lS]
      refine readL (.agg #[.int .i64 m.kind, .int .i64 m.role, .int .i64 m.path, .int .i64 m.epo, .int .i64 m.ctr, .slice bp7 m.body.length bc7]) rfl (by kernel_rfl) ?_
      simp only [aP, lI, l0, lS]
      refine readL (.int .i64 0) rfl (by kernel_rfl) ?_
      simp only [aP, lI, l0, lS]
      have hnew := Below.refl w7.heap.size w7
      have hnz := Nat.le_refl w7.heap.size
      refine actL (w' := w7.alloc (.cells #[.int .i64 0, .int .i64 0, .int .i64 0, .int .i64 0, .int .i64 0, .slice none 0 0] 24)) (.pointer (some ⟨w7.heap.size, 0, none⟩)) rfl (by kernel_rfl) ?_
      simp only [aP, lI, l0, lS]
      have hlb := (Below.refl w7.heap.size w7).alloc (Nat.le_refl _) (.cells #[.int .i64 0, .int .i64 0, .int .i64 0, .int .i64 0, .int .i64 0, .slice none 0 0] 24)
      replace hnew := hnew.trans (hlb.mono hnew.size)
      clear hlb
      have hB_B8 : w.heap.size ≤ w7.heap.size := M.below.size
      replace M := M.box #[.int .i64 0, .int .i64 0, .int .i64 0, .int .i64 0, .int .i64 0, .slice none 0 0] 24 w7.heap.size rfl
      generalize w7.alloc (.cells #[.int .i64 0, .int .i64 0, .int .i64 0, .int .i64 0, .int .i64 0, .slice none 0 0] 24) = w8 at M hnew ⊢
      generalize eB : w7.heap.size = B8 at M hB_B8  ⊢
      have hE_B8 : w7.heap.size ≤ B8 := Nat.le_of_eq eB
      have hF_B8 : B8 ≤ w7.heap.size := Nat.le_of_eq eB.symm
      clear eB
      replace M : Mm w ([(B8, [.int .i64 0, .int .i64 0, .int .i64 0, .int .i64 0, .int .i64 0, .slice none 0 0]), (B1, [.int .i64 p.kind, .int .i64 p.role, .int .i64 p.path, .int .i64 p.epo, .int .i64 p.ctr, .slice bp p.body.length bc])]) w8 := M
      refine skipOpL rfl (storeP [.int .i64 m.kind, .int .i64 m.role, .int .i64 m.path, .int .i64 m.epo, .int .i64 m.ctr, .slice bp7 m.body.length bc7] B8 0 24 _ _ rfl rfl rfl (M.thereP List.mem_cons_self 0 6 (Nat.le_of_ble_eq_true rfl)) (by kernel_rfl) (List.all_eq_true.1 (rfl : ([.int .i64 m.kind, .int .i64 m.role, .int .i64 m.path, .int .i64 m.epo, .int .i64 m.ctr, .slice bp7 m.body.length bc7] : List Value).all (fun u => u.oneCell') = true))) ?_
      simp only [Act.put]
      replace M := M.setPart [.int .i64 m.kind, .int .i64 m.role, .int .i64 m.path, .int .i64 m.epo, .int .i64 m.ctr, .slice bp7 m.body.length bc7] 0 (Nat.le_of_ble_eq_true rfl)
      replace hnew := below_setAll hnew B8 (by have := hnew.size; omega) 0 [.int .i64 m.kind, .int .i64 m.role, .int .i64 m.path, .int .i64 m.epo, .int .i64 m.ctr, .slice bp7 m.body.length bc7]
      generalize w8.setCells B8 0 [.int .i64 m.kind, .int .i64 m.role, .int .i64 m.path, .int .i64 m.epo, .int .i64 m.ctr, .slice bp7 m.body.length bc7] = w9 at M hnew ⊢
      replace M : Mm w ([(B8, [.int .i64 m.kind, .int .i64 m.role, .int .i64 m.path, .int .i64 m.epo, .int .i64 m.ctr, .slice bp7 m.body.length bc7]), (B1, [.int .i64 p.kind, .int .i64 p.role, .int .i64 p.path, .int .i64 p.epo, .int .i64 p.ctr, .slice bp p.body.length bc])]) w9 := M
      refine readL (.int .i64 0) rfl (by kernel_rfl) ?_
      simp only [aP, lI, l0, lS]
      first | show Exit.then _ _ _ _ _ | show Exit.inBlock _ _ _ _ _
      replace F_7 := F_7.below hnew (Nat.le_refl _)
      clear hnew hnz
      go_upto_region 9 with fail
      refine wp_region_list ?_
      refine readL (.int .i64 0) rfl (by kernel_rfl) ?_
      simp only [aP, lI, l0, lS]
      refine readL (.bool false) rfl (neqI .i64 _ _ _ _ _ _ rfl rfl rfl false (by decide) _) ?_
      simp only [aP, lI, l0, lS]
      first | show Exit.then _ _ _ _ _ | show Exit.inBlock _ _ _ _ _
      go_upto_region 11 with fail
      refine wp_region_list ?_
      refine readL (.agg #[.int .i64 m.kind, .int .i64 m.role, .int .i64 m.path, .int .i64 m.epo, .int .i64 m.ctr, .slice bp7 m.body.length bc7]) rfl (loadN 24 _ ⟨B8, 0, none⟩ [.int .i64 m.kind, .int .i64 m.role, .int .i64 m.path, .int .i64 m.epo, .int .i64 m.ctr, .slice bp7 m.body.length bc7] rfl rfl (fun _ => by kernel_rfl) (fun _ => by kernel_rfl) (M.rangeAt List.mem_cons_self)) ?_
      simp only [aP, lI, l0, lS]
      refine callL rfl (fun _ => by kernel_rfl) (hP m bp7 bc7 _ (hg.mm M) F_7) ?_
      rintro e w10 ⟨⟨v10, rfl, O_10⟩, l⟩
      replace M := M.call l
      replace F_7 := F_7.below l (Nat.le_refl _)
      clear l
      rw [show pL m = b from (ppr_ok (ppr_pps hb hdb)).1] at O_10
      rw [show pE m = 0 from (ppr_ok (ppr_pps hb hdb)).2]
      obtain ⟨p10, c10, rfl, _, _⟩ := O_10.bytes
      refine ⟨_, rfl, ?_⟩
      simp only [aP, lI, l0, lS]
      refine readL (.tuple #[.slice p10 b.length c10, .int .i64 0]) rfl (by kernel_rfl) ?_
      simp only [aP, lI, l0, lS]
      refine readL (.slice p10 b.length c10) rfl (by kernel_rfl) ?_
      simp only [aP, lI, l0, lS]
      refine readL (.int .i64 0) rfl (by kernel_rfl) ?_
      simp only [aP, lI, l0, lS]
      refine readL (.slice p10 b.length c10) rfl (by kernel_rfl) ?_
      simp only [aP, lI, l0, lS]
      refine readL (.int .i64 0) rfl (by kernel_rfl) ?_
      simp only [aP, lI, l0, lS]
      first | show Exit.then _ _ _ _ _ | show Exit.inBlock _ _ _ _ _
      go_upto_region 12 with fail
      refine wp_region_list ?_
      refine readL (.bool true) rfl (by kernel_rfl) ?_
      simp only [aP, lI, l0, lS]
      refine readL (.bool true) rfl (by kernel_rfl) ?_
      simp only [aP, lI, l0, lS]
      refine readL (.int .i64 0) rfl (by kernel_rfl) ?_
      simp only [aP, lI, l0, lS]
      refine readL (.bool true) rfl (eqlI .i64 _ _ _ _ _ _ rfl rfl rfl true (by decide) _) ?_
      simp only [aP, lI, l0, lS]
      refine readL (.bool true) rfl (by kernel_rfl) ?_
      simp only [aP, lI, l0, lS]
      refine readL (.bool true) rfl (by kernel_rfl) ?_
      simp only [aP, lI, l0, lS]
      refine readL (.slice p10 b.length c10) rfl (by kernel_rfl) ?_
      simp only [aP, lI, l0, lS]
      refine readL (.string (txt b.length (bl b))) rfl (conv_txt 22 5 9 _ rfl Tryd.underlying22 Tryd.underlying5 Tryd.underlying9 p10 b.length c10 (bl b) rfl _ O_10.src (fun e => by have h1 := O_10.nilCap e; have h2 := O_10.le; omega)) ?_
      simp only [aP, lI, l0, lS]
      refine readL (.slice sq b.length cq) rfl (by kernel_rfl) ?_
      simp only [aP, lI, l0, lS]
      refine readL (.string (txt b.length (bl b))) rfl (conv_txt 22 5 9 _ rfl Tryd.underlying22 Tryd.underlying5 Tryd.underlying9 sq b.length cq (bl b) rfl _ (hs.below M.below (Nat.le_refl _)) (fun e => by have h1 := hnil e; omega)) ?_
      simp only [aP, lI, l0, lS]
      refine readL (.bool true) rfl (eqlS _ _ _ _ _ _ rfl rfl rfl rfl _) ?_
      simp only [aP, lI, l0, lS]
      refine readL (.bool true) rfl (by kernel_rfl) ?_
      simp only [aP, lI, l0, lS]
      refine readL (.bool true) rfl (by kernel_rfl) ?_
      simp only [aP, lI, l0, lS]
      first | show Exit.then _ _ _ _ _ | show Exit.inBlock _ _ _ _ _
      go_wp2
      go_ret
      exact ⟨rfl, M.below⟩
  | true =>
    go_upto_region 2 with fail
    refine wp_region_list ?_
    refine readL (.agg #[.int .i64 p.kind, .int .i64 p.role, .int .i64 p.path, .int .i64 p.epo, .int .i64 p.ctr, .slice bp p.body.length bc]) rfl (loadN 24 _ ⟨B1, 0, none⟩ [.int .i64 p.kind, .int .i64 p.role, .int .i64 p.path, .int .i64 p.epo, .int .i64 p.ctr, .slice bp p.body.length bc] rfl rfl (fun _ => by kernel_rfl) (fun _ => by kernel_rfl) (M.rangeAt List.mem_cons_self)) ?_
    simp only [aP, lI, l0, lS]
    refine callL rfl (fun _ => by kernel_rfl) (hP p bp bc _ (hg.mm M) (hp.below M.below (Nat.le_refl _))) ?_
    rintro e w11 ⟨⟨v11, rfl, O_11⟩, l⟩
    replace M := M.call l
    clear l
    rw [show pL p = pby p from (pL_ok hok).1] at O_11
    rw [show pE p = 0 from (pL_ok hok).2]
    obtain ⟨p11, c11, rfl, _, _⟩ := O_11.bytes
    refine ⟨_, rfl, ?_⟩
    simp only [aP, lI, l0, lS]
    refine readL (.tuple #[.slice p11 ((pby p).length) c11, .int .i64 0]) rfl (by kernel_rfl) ?_
    simp only [aP, lI, l0, lS]
    refine readL (.slice p11 ((pby p).length) c11) rfl (by kernel_rfl) ?_
    simp only [aP, lI, l0, lS]
    refine readL (.int .i64 0) rfl (by kernel_rfl) ?_
    simp only [aP, lI, l0, lS]
    refine readL (.slice p11 ((pby p).length) c11) rfl (by kernel_rfl) ?_
    simp only [aP, lI, l0, lS]
    refine readL (.int .i64 0) rfl (by kernel_rfl) ?_
    simp only [aP, lI, l0, lS]
    first | show Exit.then _ _ _ _ _ | show Exit.inBlock _ _ _ _ _
    go_upto_region 3 with fail
    refine wp_region_list ?_
    refine readL (.int .i64 0) rfl (by kernel_rfl) ?_
    simp only [aP, lI, l0, lS]
    refine readL (.bool true) rfl (eqlI .i64 _ _ _ _ _ _ rfl rfl rfl true (by decide) _) ?_
    simp only [aP, lI, l0, lS]
    first | show Exit.then _ _ _ _ _ | show Exit.inBlock _ _ _ _ _
    go_upto_region 4 with fail
    refine wp_region_list ?_
    refine readL (.slice p11 ((pby p).length) c11) rfl (by kernel_rfl) ?_
    simp only [aP, lI, l0, lS]
    refine callL rfl (fun _ => by kernel_rfl) (hD p11 c11 (pby p) _ (hg.mm M) (Nat.le_trans (pby_len p hok).2.1 (by decide)) O_11.le O_11.nilCap (pby_byts hok hp.byts) O_11.src) ?_
    rintro e w12 ⟨⟨bp12, bc12, rfl, F_12⟩, l⟩
    replace M := M.call l
    replace O_11 := O_11.below l
    clear l
    rw [show psP (pby p) = p from (ps_ok (pps_pby p hok)).1] at F_12
    rw [show psP (pby p) = p from (ps_ok (pps_pby p hok)).1, show psE (pby p) = 0 from (ps_ok (pps_pby p hok)).2]
    unfold pcs
    refine ⟨_, rfl, ?_⟩
    simp only [aP, lI, l0, lS]
    refine readL (.tuple #[.agg #[.int .i64 p.kind, .int .i64 p.role, .int .i64 p.path, .int .i64 p.epo, .int .i64 p.ctr, .slice bp12 p.body.length bc12], .int .i64 0]) rfl (by kernel_rfl) ?_
    simp only [aP, lI, l0, lS]
    refine readL (.agg #[.int .i64 p.kind, .int .i64 p.role, .int .i64 p.path, .int .i64 p.epo, .int .i64 p.ctr, .slice bp12 p.body.length bc12]) rfl (by kernel_rfl) ?_
    simp only [aP, lI, l0, lS]
    refine readL (.int .i64 0) rfl (by kernel_rfl) ?_
    simp only [aP, lI, l0, lS]
    have hnew := Below.refl w12.heap.size w12
    have hnz := Nat.le_refl w12.heap.size
    refine actL (w' := w12.alloc (.cells #[.int .i64 0, .int .i64 0, .int .i64 0, .int .i64 0, .int .i64 0, .slice none 0 0] 24)) (.pointer (some ⟨w12.heap.size, 0, none⟩)) rfl (by kernel_rfl) ?_
    simp only [aP, lI, l0, lS]
    have hlb := (Below.refl w12.heap.size w12).alloc (Nat.le_refl _) (.cells #[.int .i64 0, .int .i64 0, .int .i64 0, .int .i64 0, .int .i64 0, .slice none 0 0] 24)
    replace hnew := hnew.trans (hlb.mono hnew.size)
    clear hlb
    have hB_B13 : w.heap.size ≤ w12.heap.size := M.below.size
    replace M := M.box #[.int .i64 0, .int .i64 0, .int .i64 0, .int .i64 0, .int .i64 0, .slice none 0 0] 24 w12.heap.size rfl
    generalize w12.alloc (.cells #[.int .i64 0, .int .i64 0, .int .i64 0, .int .i64 0, .int .i64 0, .slice none 0 0] 24) = w13 at M hnew ⊢
    generalize eB : w12.heap.size = B13 at M hB_B13  ⊢
    have hE_B13 : w12.heap.size ≤ B13 := Nat.le_of_eq eB
    have hF_B13 : B13 ≤ w12.heap.size := Nat.le_of_eq eB.symm
    clear eB
    replace M : Mm w ([(B13, [.int .i64 0, .int .i64 0, .int .i64 0, .int .i64 0, .int .i64 0, .slice none 0 0]), (B1, [.int .i64 p.kind, .int .i64 p.role, .int .i64 p.path, .int .i64 p.epo, .int .i64 p.ctr, .slice bp p.body.length bc])]) w13 := M
    refine skipOpL rfl (storeP [.int .i64 p.kind, .int .i64 p.role, .int .i64 p.path, .int .i64 p.epo, .int .i64 p.ctr, .slice bp12 p.body.length bc12] B13 0 24 _ _ rfl rfl rfl (M.thereP List.mem_cons_self 0 6 (Nat.le_of_ble_eq_true rfl)) (by kernel_rfl) (List.all_eq_true.1 (rfl : ([.int .i64 p.kind, .int .i64 p.role, .int .i64 p.path, .int .i64 p.epo, .int .i64 p.ctr, .slice bp12 p.body.length bc12] : List Value).all (fun u => u.oneCell') = true))) ?_
    simp only [Act.put]
    replace M := M.setPart [.int .i64 p.kind, .int .i64 p.role, .int .i64 p.path, .int .i64 p.epo, .int .i64 p.ctr, .slice bp12 p.body.length bc12] 0 (Nat.le_of_ble_eq_true rfl)
    replace hnew := below_setAll hnew B13 (by have := hnew.size; omega) 0 [.int .i64 p.kind, .int .i64 p.role, .int .i64 p.path, .int .i64 p.epo, .int .i64 p.ctr, .slice bp12 p.body.length bc12]
    generalize w13.setCells B13 0 [.int .i64 p.kind, .int .i64 p.role, .int .i64 p.path, .int .i64 p.epo, .int .i64 p.ctr, .slice bp12 p.body.length bc12] = w14 at M hnew ⊢
    replace M : Mm w ([(B13, [.int .i64 p.kind, .int .i64 p.role, .int .i64 p.path, .int .i64 p.epo, .int .i64 p.ctr, .slice bp12 p.body.length bc12]), (B1, [.int .i64 p.kind, .int .i64 p.role, .int .i64 p.path, .int .i64 p.epo, .int .i64 p.ctr, .slice bp p.body.length bc])]) w14 := M
    refine readL (.int .i64 0) rfl (by kernel_rfl) ?_
    simp only [aP, lI, l0, lS]
    first | show Exit.then _ _ _ _ _ | show Exit.inBlock _ _ _ _ _
    replace O_11 := O_11.below hnew
    replace F_12 := F_12.below hnew (Nat.le_refl _)
    clear hnew hnz
    go_upto_region 5 with fail
    refine wp_region_list ?_
    refine readL (.agg #[.int .i64 p.kind, .int .i64 p.role, .int .i64 p.path, .int .i64 p.epo, .int .i64 p.ctr, .slice bp p.body.length bc]) rfl (loadN 24 _ ⟨B1, 0, none⟩ [.int .i64 p.kind, .int .i64 p.role, .int .i64 p.path, .int .i64 p.epo, .int .i64 p.ctr, .slice bp p.body.length bc] rfl rfl (fun _ => by kernel_rfl) (fun _ => by kernel_rfl) (M.rangeAt (List.mem_cons_of_mem _ List.mem_cons_self))) ?_
    simp only [aP, lI, l0, lS]
    refine readL (.agg #[.int .i64 p.kind, .int .i64 p.role, .int .i64 p.path, .int .i64 p.epo, .int .i64 p.ctr, .slice bp12 p.body.length bc12]) rfl (loadN 24 _ ⟨B13, 0, none⟩ [.int .i64 p.kind, .int .i64 p.role, .int .i64 p.path, .int .i64 p.epo, .int .i64 p.ctr, .slice bp12 p.body.length bc12] rfl rfl (fun _ => by kernel_rfl) (fun _ => by kernel_rfl) (M.rangeAt List.mem_cons_self)) ?_
    simp only [aP, lI, l0, lS]
    have hC : Calls Tryd.prog 17 #[.agg #[.int .i64 p.kind, .int .i64 p.role, .int .i64 p.path, .int .i64 p.epo, .int .i64 p.ctr, .slice bp p.body.length bc], .agg #[.int .i64 p.kind, .int .i64 p.role, .int .i64 p.path, .int .i64 p.epo, .int .i64 p.ctr, .slice bp12 p.body.length bc12]] w14 (fun e w' => e = .returned (.bool true) ∧ Below w14.heap.size w14 w') := pksame_any p bp bc bp12 bc12 _ (hp.below M.below (Nat.le_refl _)) F_12
    refine callL rfl (fun _ => by kernel_rfl) (hC) ?_
    rintro e w15 ⟨rfl, l⟩
    replace M := M.call l
    refine ⟨_, rfl, ?_⟩
    replace O_11 := O_11.below l
    replace F_12 := F_12.below l (Nat.le_refl _)
    clear l hC
    simp only [aP, lI, l0, lS]
    refine readL (.bool true) rfl (by kernel_rfl) ?_
    simp only [aP, lI, l0, lS]
    first | show Exit.then _ _ _ _ _ | show Exit.inBlock _ _ _ _ _
    go_upto_region 6 with fail
    refine wp_region_list ?_
    refine readL (.int .i64 0) rfl (by kernel_rfl) ?_
    simp only [aP, lI, l0, lS]
    refine readL (.bool false) rfl (neqI .i64 _ _ _ _ _ _ rfl rfl rfl false (by decide) _) ?_
    simp only [aP, lI, l0, lS]
    refine readL (.bool false) rfl (by kernel_rfl) ?_
    simp only [aP, lI, l0, lS]
    refine readL (.bool true) rfl (by kernel_rfl) ?_
    simp only [aP, lI, l0, lS]
    refine readL (.bool false) rfl (by kernel_rfl) ?_
    simp only [aP, lI, l0, lS]
    refine readL (.bool false) rfl (by kernel_rfl) ?_
    simp only [aP, lI, l0, lS]
    first | show Exit.then _ _ _ _ _ | show Exit.inBlock _ _ _ _ _
    cases hdb : pps b with
    | error er =>
      have hne := pps_ne hdb
      go_upto_region 8 with fail
      refine wp_region_list ?_
      refine readL (.slice sq b.length cq) rfl (by kernel_rfl) ?_
      simp only [aP, lI, l0, lS]
      refine callL rfl (fun _ => by kernel_rfl) (hD sq cq b _ (hg.mm M) hlen hcap hnil hb (hs.below M.below (Nat.le_refl _))) ?_
      rintro e w16 ⟨⟨bp16, bc16, rfl, F_16⟩, l⟩
      replace M := M.call l
      clear l
      rw [show psP b = pk0 from (ps_err hdb).1] at F_16
      rw [show psP b = pk0 from (ps_err hdb).1, show psE b = er from (ps_err hdb).2]
      unfold pcs
      refine ⟨_, rfl, ?_⟩
      simp only [aP, lI, l0, lS]
      refine readL (.tuple #[.agg #[.int .i64 pk0.kind, .int .i64 pk0.role, .int .i64 pk0.path, .int .i64 pk0.epo, .int .i64 pk0.ctr, .slice bp16 pk0.body.length bc16], .int .i64 er]) rfl (by kernel_rfl) ?_
      simp only [aP, lI, l0, lS]
      refine readL (.agg #[.int .i64 pk0.kind, .int .i64 pk0.role, .int .i64 pk0.path, .int .i64 pk0.epo, .int .i64 pk0.ctr, .slice bp16 pk0.body.length bc16]) rfl (by kernel_rfl) ?_
      simp only [aP, lI, l0, lS]
      refine readL (.int .i64 er) rfl (by kernel_rfl) ?_
      simp only [aP, lI, l0, lS]
      have hnew := Below.refl w16.heap.size w16
      have hnz := Nat.le_refl w16.heap.size
      refine actL (w' := w16.alloc (.cells #[.int .i64 0, .int .i64 0, .int .i64 0, .int .i64 0, .int .i64 0, .slice none 0 0] 24)) (.pointer (some ⟨w16.heap.size, 0, none⟩)) rfl (by kernel_rfl) ?_
      simp only [aP, lI, l0, lS]
      have hlb := (Below.refl w16.heap.size w16).alloc (Nat.le_refl _) (.cells #[.int .i64 0, .int .i64 0, .int .i64 0, .int .i64 0, .int .i64 0, .slice none 0 0] 24)
      replace hnew := hnew.trans (hlb.mono hnew.size)
      clear hlb
      have hB_B17 : w.heap.size ≤ w16.heap.size := M.below.size
      replace M := M.box #[.int .i64 0, .int .i64 0, .int .i64 0, .int .i64 0, .int .i64 0, .slice none 0 0] 24 w16.heap.size rfl
      generalize w16.alloc (.cells #[.int .i64 0, .int .i64 0, .int .i64 0, .int .i64 0, .int .i64 0, .slice none 0 0] 24) = w17 at M hnew ⊢
      generalize eB : w16.heap.size = B17 at M hB_B17  ⊢
      have hE_B17 : w16.heap.size ≤ B17 := Nat.le_of_eq eB
      have hF_B17 : B17 ≤ w16.heap.size := Nat.le_of_eq eB.symm
      clear eB
      replace M : Mm w ([(B17, [.int .i64 0, .int .i64 0, .int .i64 0, .int .i64 0, .int .i64 0, .slice none 0 0]), (B13, [.int .i64 p.kind, .int .i64 p.role, .int .i64 p.path, .int .i64 p.epo, .int .i64 p.ctr, .slice bp12 p.body.length bc12]), (B1, [.int .i64 p.kind, .int .i64 p.role, .int .i64 p.path, .int .i64 p.epo, .int .i64 p.ctr, .slice bp p.body.length bc])]) w17 := M
      refine skipOpL rfl (storeP [.int .i64 pk0.kind, .int .i64 pk0.role, .int .i64 pk0.path, .int .i64 pk0.epo, .int .i64 pk0.ctr, .slice bp16 pk0.body.length bc16] B17 0 24 _ _ rfl rfl rfl (M.thereP List.mem_cons_self 0 6 (Nat.le_of_ble_eq_true rfl)) (by kernel_rfl) (List.all_eq_true.1 (rfl : ([.int .i64 pk0.kind, .int .i64 pk0.role, .int .i64 pk0.path, .int .i64 pk0.epo, .int .i64 pk0.ctr, .slice bp16 pk0.body.length bc16] : List Value).all (fun u => u.oneCell') = true))) ?_
      simp only [Act.put]
      replace M := M.setPart [.int .i64 pk0.kind, .int .i64 pk0.role, .int .i64 pk0.path, .int .i64 pk0.epo, .int .i64 pk0.ctr, .slice bp16 pk0.body.length bc16] 0 (Nat.le_of_ble_eq_true rfl)
      replace hnew := below_setAll hnew B17 (by have := hnew.size; omega) 0 [.int .i64 pk0.kind, .int .i64 pk0.role, .int .i64 pk0.path, .int .i64 pk0.epo, .int .i64 pk0.ctr, .slice bp16 pk0.body.length bc16]
      generalize w17.setCells B17 0 [.int .i64 pk0.kind, .int .i64 pk0.role, .int .i64 pk0.path, .int .i64 pk0.epo, .int .i64 pk0.ctr, .slice bp16 pk0.body.length bc16] = w18 at M hnew ⊢
      replace M : Mm w ([(B17, [.int .i64 pk0.kind, .int .i64 pk0.role, .int .i64 pk0.path, .int .i64 pk0.epo, .int .i64 pk0.ctr, .slice bp16 pk0.body.length bc16]), (B13, [.int .i64 p.kind, .int .i64 p.role, .int .i64 p.path, .int .i64 p.epo, .int .i64 p.ctr, .slice bp12 p.body.length bc12]), (B1, [.int .i64 p.kind, .int .i64 p.role, .int .i64 p.path, .int .i64 p.epo, .int .i64 p.ctr, .slice bp p.body.length bc])]) w18 := M
      refine readL (.int .i64 er) rfl (by kernel_rfl) ?_
      simp only [aP, lI, l0, lS]
      first | show Exit.then _ _ _ _ _ | show Exit.inBlock _ _ _ _ _
      replace F_16 := F_16.below hnew (Nat.le_refl _)
      clear hnew hnz
      go_upto_region 9 with fail
      refine wp_region_list ?_
      refine readL (.int .i64 er) rfl (by kernel_rfl) ?_
      simp only [aP, lI, l0, lS]
      refine readL (.bool true) rfl (neqI .i64 _ _ _ _ _ _ rfl rfl rfl true (by simpa using hne) _) ?_
      simp only [aP, lI, l0, lS]
      first | show Exit.then _ _ _ _ _ | show Exit.inBlock _ _ _ _ _
      clear hne
      go_upto_region 10 with fail
      refine wp_region_list ?_
      refine readL (.bool true) rfl (by kernel_rfl) ?_
      simp only [aP, lI, l0, lS]
      refine readL (.bool true) rfl (by kernel_rfl) ?_
      simp only [aP, lI, l0, lS]
      first | show Exit.then _ _ _ _ _ | show Exit.inBlock _ _ _ _ _
      go_wp2
      go_ret
      exact ⟨rfl, M.below⟩
    | ok m =>
      go_upto_region 8 with fail
      refine wp_region_list ?_
      refine readL (.slice sq b.length cq) rfl (by kernel_rfl) ?_
      simp only [aP, lI, l0, lS]
      refine callL rfl (fun _ => by kernel_rfl) (hD sq cq b _ (hg.mm M) hlen hcap hnil hb (hs.below M.below (Nat.le_refl _))) ?_
      rintro e w19 ⟨⟨bp19, bc19, rfl, F_19⟩, l⟩
      replace M := M.call l
      clear l
      rw [show psP b = m from (ps_ok hdb).1] at F_19
      rw [show psP b = m from (ps_ok hdb).1, show psE b = 0 from (ps_ok hdb).2]
      unfold pcs
      refine ⟨_, rfl, ?_⟩
      simp only [aP, lI, l0, lS]
      refine readL (.tuple #[.agg #[.int .i64 m.kind, .int .i64 m.role, .int .i64 m.path, .int .i64 m.epo, .int .i64 m.ctr, .slice bp19 m.body.length bc19], .int .i64 0]) rfl (by kernel_rfl) ?_
      simp only [aP, lI, l0, lS]
      refine readL (.agg #[.int .i64 m.kind, .int .i64 m.role, .int .i64 m.path, .int .i64 m.epo, .int .i64 m.ctr, .slice bp19 m.body.length bc19]) rfl (by kernel_rfl) ?_
      simp only [aP, lI, l0, lS]
      refine readL (.int .i64 0) rfl (by kernel_rfl) ?_
      simp only [aP, lI, l0, lS]
      have hnew := Below.refl w19.heap.size w19
      have hnz := Nat.le_refl w19.heap.size
      refine actL (w' := w19.alloc (.cells #[.int .i64 0, .int .i64 0, .int .i64 0, .int .i64 0, .int .i64 0, .slice none 0 0] 24)) (.pointer (some ⟨w19.heap.size, 0, none⟩)) rfl (by kernel_rfl) ?_
      simp only [aP, lI, l0, lS]
      have hlb := (Below.refl w19.heap.size w19).alloc (Nat.le_refl _) (.cells #[.int .i64 0, .int .i64 0, .int .i64 0, .int .i64 0, .int .i64 0, .slice none 0 0] 24)
      replace hnew := hnew.trans (hlb.mono hnew.size)
      clear hlb
      have hB_B20 : w.heap.size ≤ w19.heap.size := M.below.size
      replace M := M.box #[.int .i64 0, .int .i64 0, .int .i64 0, .int .i64 0, .int .i64 0, .slice none 0 0] 24 w19.heap.size rfl
      generalize w19.alloc (.cells #[.int .i64 0, .int .i64 0, .int .i64 0, .int .i64 0, .int .i64 0, .slice none 0 0] 24) = w20 at M hnew ⊢
      generalize eB : w19.heap.size = B20 at M hB_B20  ⊢
      have hE_B20 : w19.heap.size ≤ B20 := Nat.le_of_eq eB
      have hF_B20 : B20 ≤ w19.heap.size := Nat.le_of_eq eB.symm
      clear eB
      replace M : Mm w ([(B20, [.int .i64 0, .int .i64 0, .int .i64 0, .int .i64 0, .int .i64 0, .slice none 0 0]), (B13, [.int .i64 p.kind, .int .i64 p.role, .int .i64 p.path, .int .i64 p.epo, .int .i64 p.ctr, .slice bp12 p.body.length bc12]), (B1, [.int .i64 p.kind, .int .i64 p.role, .int .i64 p.path, .int .i64 p.epo, .int .i64 p.ctr, .slice bp p.body.length bc])]) w20 := M
      refine skipOpL rfl (storeP [.int .i64 m.kind, .int .i64 m.role, .int .i64 m.path, .int .i64 m.epo, .int .i64 m.ctr, .slice bp19 m.body.length bc19] B20 0 24 _ _ rfl rfl rfl (M.thereP List.mem_cons_self 0 6 (Nat.le_of_ble_eq_true rfl)) (by kernel_rfl) (List.all_eq_true.1 (rfl : ([.int .i64 m.kind, .int .i64 m.role, .int .i64 m.path, .int .i64 m.epo, .int .i64 m.ctr, .slice bp19 m.body.length bc19] : List Value).all (fun u => u.oneCell') = true))) ?_
      simp only [Act.put]
      replace M := M.setPart [.int .i64 m.kind, .int .i64 m.role, .int .i64 m.path, .int .i64 m.epo, .int .i64 m.ctr, .slice bp19 m.body.length bc19] 0 (Nat.le_of_ble_eq_true rfl)
      replace hnew := below_setAll hnew B20 (by have := hnew.size; omega) 0 [.int .i64 m.kind, .int .i64 m.role, .int .i64 m.path, .int .i64 m.epo, .int .i64 m.ctr, .slice bp19 m.body.length bc19]
      generalize w20.setCells B20 0 [.int .i64 m.kind, .int .i64 m.role, .int .i64 m.path, .int .i64 m.epo, .int .i64 m.ctr, .slice bp19 m.body.length bc19] = w21 at M hnew ⊢
      replace M : Mm w ([(B20, [.int .i64 m.kind, .int .i64 m.role, .int .i64 m.path, .int .i64 m.epo, .int .i64 m.ctr, .slice bp19 m.body.length bc19]), (B13, [.int .i64 p.kind, .int .i64 p.role, .int .i64 p.path, .int .i64 p.epo, .int .i64 p.ctr, .slice bp12 p.body.length bc12]), (B1, [.int .i64 p.kind, .int .i64 p.role, .int .i64 p.path, .int .i64 p.epo, .int .i64 p.ctr, .slice bp p.body.length bc])]) w21 := M
      refine readL (.int .i64 0) rfl (by kernel_rfl) ?_
      simp only [aP, lI, l0, lS]
      first | show Exit.then _ _ _ _ _ | show Exit.inBlock _ _ _ _ _
      replace F_19 := F_19.below hnew (Nat.le_refl _)
      clear hnew hnz
      go_upto_region 9 with fail
      refine wp_region_list ?_
      refine readL (.int .i64 0) rfl (by kernel_rfl) ?_
      simp only [aP, lI, l0, lS]
      refine readL (.bool false) rfl (neqI .i64 _ _ _ _ _ _ rfl rfl rfl false (by decide) _) ?_
      simp only [aP, lI, l0, lS]
      first | show Exit.then _ _ _ _ _ | show Exit.inBlock _ _ _ _ _
      go_upto_region 11 with fail
      refine wp_region_list ?_
      refine readL (.agg #[.int .i64 m.kind, .int .i64 m.role, .int .i64 m.path, .int .i64 m.epo, .int .i64 m.ctr, .slice bp19 m.body.length bc19]) rfl (loadN 24 _ ⟨B20, 0, none⟩ [.int .i64 m.kind, .int .i64 m.role, .int .i64 m.path, .int .i64 m.epo, .int .i64 m.ctr, .slice bp19 m.body.length bc19] rfl rfl (fun _ => by kernel_rfl) (fun _ => by kernel_rfl) (M.rangeAt List.mem_cons_self)) ?_
      simp only [aP, lI, l0, lS]
      refine callL rfl (fun _ => by kernel_rfl) (hP m bp19 bc19 _ (hg.mm M) F_19) ?_
      rintro e w22 ⟨⟨v22, rfl, O_22⟩, l⟩
      replace M := M.call l
      replace F_19 := F_19.below l (Nat.le_refl _)
      clear l
      rw [show pL m = b from (ppr_ok (ppr_pps hb hdb)).1] at O_22
      rw [show pE m = 0 from (ppr_ok (ppr_pps hb hdb)).2]
      obtain ⟨p22, c22, rfl, _, _⟩ := O_22.bytes
      refine ⟨_, rfl, ?_⟩
      simp only [aP, lI, l0, lS]
      refine readL (.tuple #[.slice p22 b.length c22, .int .i64 0]) rfl (by kernel_rfl) ?_
      simp only [aP, lI, l0, lS]
      refine readL (.slice p22 b.length c22) rfl (by kernel_rfl) ?_
      simp only [aP, lI, l0, lS]
      refine readL (.int .i64 0) rfl (by kernel_rfl) ?_
      simp only [aP, lI, l0, lS]
      refine readL (.slice p22 b.length c22) rfl (by kernel_rfl) ?_
      simp only [aP, lI, l0, lS]
      refine readL (.int .i64 0) rfl (by kernel_rfl) ?_
      simp only [aP, lI, l0, lS]
      first | show Exit.then _ _ _ _ _ | show Exit.inBlock _ _ _ _ _
      go_upto_region 12 with fail
      refine wp_region_list ?_
      refine readL (.bool true) rfl (by kernel_rfl) ?_
      simp only [aP, lI, l0, lS]
      refine readL (.bool true) rfl (by kernel_rfl) ?_
      simp only [aP, lI, l0, lS]
      refine readL (.int .i64 0) rfl (by kernel_rfl) ?_
      simp only [aP, lI, l0, lS]
      refine readL (.bool true) rfl (eqlI .i64 _ _ _ _ _ _ rfl rfl rfl true (by decide) _) ?_
      simp only [aP, lI, l0, lS]
      refine readL (.bool true) rfl (by kernel_rfl) ?_
      simp only [aP, lI, l0, lS]
      refine readL (.bool true) rfl (by kernel_rfl) ?_
      simp only [aP, lI, l0, lS]
      refine readL (.slice p22 b.length c22) rfl (by kernel_rfl) ?_
      simp only [aP, lI, l0, lS]
      refine readL (.string (txt b.length (bl b))) rfl (conv_txt 22 5 9 _ rfl Tryd.underlying22 Tryd.underlying5 Tryd.underlying9 p22 b.length c22 (bl b) rfl _ O_22.src (fun e => by have h1 := O_22.nilCap e; have h2 := O_22.le; omega)) ?_
      simp only [aP, lI, l0, lS]
      refine readL (.slice sq b.length cq) rfl (by kernel_rfl) ?_
      simp only [aP, lI, l0, lS]
      refine readL (.string (txt b.length (bl b))) rfl (conv_txt 22 5 9 _ rfl Tryd.underlying22 Tryd.underlying5 Tryd.underlying9 sq b.length cq (bl b) rfl _ (hs.below M.below (Nat.le_refl _)) (fun e => by have h1 := hnil e; omega)) ?_
      simp only [aP, lI, l0, lS]
      refine readL (.bool true) rfl (eqlS _ _ _ _ _ _ rfl rfl rfl rfl _) ?_
      simp only [aP, lI, l0, lS]
      refine readL (.bool true) rfl (by kernel_rfl) ?_
      simp only [aP, lI, l0, lS]
      refine readL (.bool true) rfl (by kernel_rfl) ?_
      simp only [aP, lI, l0, lS]
      first | show Exit.then _ _ _ _ _ | show Exit.inBlock _ _ _ _ _
      go_wp2
      go_ret
      exact ⟨rfl, M.below⟩
end Go.Proofs.YtbhhboiofepnhaaDoor
