/- Texts of Base Step Kr Hold Float Jz Sr Pt Gn Ar Ow Mk Om Jl Sc Vl Mx Va Vg Qa Qb Qc Ve Vb Oa, joined. -/
import Derived.WalkKit
import Derived.WalkSpells
import Derived.Deep.RegionHeld3
import Derived.RowKit3
import Derived.Stop.BytesEq
import Derived.KernelRfl
import Derived.Deep.QuietTactic
import Derived.Lib.SlBytesConst
import Derived.Laws.BytesArg
import Derived.Laws.Concat
import Derived.Laws.AppendOwn
import Derived.Laws.OwnMore
import Derived.Test.YteaamgjlkohfcaaProg
import Derived.Laws.MakeOwn
import Derived.Laws.StructEq
import Derived.Laws.Small
import Derived.Lib.ConvBytes
import Derived.Laws.Bits128
import Derived.Laws.Cells
import Derived.Deep.Cut
import Derived.Deep.CutBlock
import Derived.Deep.DeepCutAuto
import Derived.BigQuiet
import Derived.OwnWalk
namespace Go.Proofs.Yteaamgjlkohfcaa
open Go.RowKit
theorem aP (a : Act) (d : Tmp) (v : Value) : a.put (some d) v = { a with tmps := a.tmps.setIfInBounds d v } := rfl
theorem lI (l : List Value) (i : Nat) (v : Value) : l.toArray.setIfInBounds i v = (l.set i v).toArray := List.setIfInBounds_toArray l i v
theorem l0 (x v : Value) (l : List Value) : (x :: l).set 0 v = v :: l := rfl
theorem lS (x v : Value) (l : List Value) (n : Nat) : (x :: l).set (n + 1) v = x :: l.set n v := rfl

/-- A row of n integers of one kind. -/
def row (k : IntKind) (n : Nat) (f : Nat → Int) : List Value := (List.range n).map fun j => .int k (f j)

theorem row_length (k : IntKind) (n : Nat) (f : Nat → Int) : (row k n f).length = n := by simp [row]
theorem row_get (k : IntKind) (n : Nat) (f : Nat → Int) (j : Nat) (h : j < n) : (row k n f)[j]? = some (.int k (f j)) := by simp [row, h]
theorem row_get_some {k : IntKind} {n : Nat} {f : Nat → Int} {j : Nat} {v : Value} (h : (row k n f)[j]? = some v) : j < n ∧ v = .int k (f j) := by
  have hj : j < n := by
    have := (List.getElem?_eq_some_iff.1 h).1
    rw [row_length] at this; exact this
  rw [row_get k n f j hj] at h
  exact ⟨hj, (Option.some.inj h).symm⟩
theorem row_congr (k : IntKind) (n : Nat) {f g : Nat → Int} (h : ∀ j, j < n → f j = g j) : row k n f = row k n g := by
  unfold row
  refine List.map_congr_left fun j hj => ?_
  rw [h j (List.mem_range.1 hj)]
theorem row_one (k : IntKind) (n : Nat) (f : Nat → Int) : ∀ v ∈ row k n f, v.oneCell' = true := by
  intro v hv
  obtain ⟨j, _, rfl⟩ := List.mem_map.1 hv
  rfl

/-- Block b holds such a row, and it may be written. -/
structure Has (w : World) (b : Nat) (k : IntKind) (n : Nat) (f : Nat → Int) : Prop where
  cell : ∀ j, j < n → w.cell? ⟨b, j, none⟩ = some (.int k (f j))
  free : ∀ j, j < n → w.frozen? ⟨b, j, none⟩ = false

def upd (f : Nat → Int) (i : Nat) (x : Int) : Nat → Int := fun j => if j = i then x else f j
theorem upd_same (f : Nat → Int) (i : Nat) (x : Int) : upd f i x i = x := by simp [upd]
theorem upd_other (f : Nat → Int) (i : Nat) (x : Int) (j : Nat) (h : j ≠ i) : upd f i x j = f j := by simp [upd, h]

theorem Has.drew {w : World} {b : Nat} {k : IntKind} {n : Nat} {f : Nat → Int} (h : Has w b k n f) : Has w.drew b k n f := ⟨h.cell, h.free⟩
theorem Has.congr {w : World} {b : Nat} {k : IntKind} {n : Nat} {f g : Nat → Int} (h : Has w b k n f) (e : ∀ j, j < n → f j = g j) : Has w b k n g :=
  ⟨fun j hj => by rw [← e j hj]; exact h.cell j hj, h.free⟩
theorem Has.new (w : World) (k : IntKind) (n : Nat) (f : Nat → Int) (t : TypeId) (b : Nat) (hb : b = w.heap.size) : Has (w.alloc (.cells (row k n f).toArray t)) b k n f :=
  ⟨fun j hj => by rw [World.cell?_alloc_at _ _ _ _ hb]; simpa using row_get k n f j hj, fun j _ => by rw [World.frozen?_alloc_at _ _ _ _ hb]⟩
theorem Has.alloc {w : World} {b : Nat} {k : IntKind} {n : Nat} {f : Nat → Int} (h : Has w b k n f) (o : Obj) (hb : b < w.heap.size) : Has (w.alloc o) b k n f :=
  ⟨fun j hj => by rw [World.cell?_alloc_past _ _ _ hb]; exact h.cell j hj, fun j hj => by rw [World.frozen?_alloc_past _ _ _ hb]; exact h.free j hj⟩
theorem Has.below {w w' : World} {b : Nat} {k : IntKind} {n : Nat} {f : Nat → Int} (h : Has w b k n f) {B : Nat} (hl : Below B w w') (hb : b < B) : Has w' b k n f :=
  ⟨fun j hj => by rw [hl.cell (p := ⟨b, j, none⟩) hb]; exact h.cell j hj, fun j hj => by rw [hl.frozen (p := ⟨b, j, none⟩) hb]; exact h.free j hj⟩
theorem Has.set {w : World} {b : Nat} {k : IntKind} {n : Nat} {f : Nat → Int} (h : Has w b k n f) (i : Nat) (hi : i < n) (x : Int) : Has (w.setCell ⟨b, i, none⟩ (.int k x)) b k n (upd f i x) :=
  ⟨fun j hj => by
    by_cases e : j = i
    · subst e; rw [upd_same, World.cell?_setCell_same _ _ _ (h.cell j hj)]
    · rw [upd_other _ _ _ _ e, World.cell?_setCell_other _ _ _ _ (by intro h'; exact e (by injection h' with _ h2; exact h2.symm))]; exact h.cell j hj,
   fun j hj => by rw [World.frozen?_setCell]; exact h.free j hj⟩
theorem Has.set_other {w : World} {b : Nat} {k : IntKind} {n : Nat} {f : Nat → Int} (h : Has w b k n f) (p : Addr) (v : Value) (hp : p.block ≠ b) : Has (w.setCell p v) b k n f :=
  ⟨fun j hj => by rw [World.cell?_setCell_other _ _ _ _ (by intro h'; exact hp (by rw [h']))]; exact h.cell j hj, fun j hj => by rw [World.frozen?_setCell]; exact h.free j hj⟩
theorem Has.range {w : World} {b : Nat} {k : IntKind} {n : Nat} {f : Nat → Int} (h : Has w b k n f) : w.rangeAt b 0 (row k n f) := fun j v hv => by
  obtain ⟨hj, rfl⟩ := row_get_some hv
  rw [Nat.zero_add]; exact h.cell j hj
theorem Has.there {w : World} {b : Nat} {k : IntKind} {n : Nat} {f : Nat → Int} (h : Has w b k n f) : w.there b 0 n := fun j hj => by
  rw [Nat.zero_add, h.cell j hj]; exact ⟨rfl, h.free j hj⟩
theorem Has.all {w : World} {b : Nat} {n : Nat} (ht : w.there b 0 n) (k : IntKind) (g : Nat → Int) : Has (w.setCells b 0 (row k n g)) b k n g :=
  ⟨fun j hj => by
    have := World.rangeAt_setCells_same w b 0 (row k n g) (by rw [row_length]; exact ht) j _ (row_get k n g j hj)
    rw [Nat.zero_add] at this; exact this,
   fun j hj => by rw [World.frozen?_setCells]; have := (ht j hj).2; rw [Nat.zero_add] at this; exact this⟩

theorem below_setAll {B : Nat} {w w' : World} (h : Below B w w') (b : Nat) (hb : B ≤ b) : ∀ (o : Nat) (vs : List Value), Below B w (w'.setCells b o vs)
  | _, [] => h
  | o, v :: vs => by
    rw [World.setCells]
    exact below_setAll (h.setCell (by simpa using hb) v) b hb (o + 1) vs

theorem size_setAll (b : Nat) : ∀ (o : Nat) (vs : List Value) (w : World), (w.setCells b o vs).heap.size = w.heap.size
  | _, [], _ => rfl
  | o, v :: vs, w => by rw [World.setCells, size_setAll b (o + 1) vs]; simp
theorem Has.setAll_other {w : World} {b : Nat} {k : IntKind} {n : Nat} {f : Nat → Int} (h : Has w b k n f) (b' : Nat) (hb : b' ≠ b) : ∀ (o : Nat) (vs : List Value), Has (w.setCells b' o vs) b k n f
  | _, [] => h
  | o, v :: vs => by
    rw [World.setCells]
    exact Has.setAll_other (h.set_other _ v hb) b' hb (o + 1) vs

/-- The world has k blocks more at least, and those that stood are as they were. -/
structure Fr (w : World) (k : Nat) (w' : World) : Prop where
  below : Below w.heap.size w w'
  size : w.heap.size + k ≤ w'.heap.size
theorem Fr.refl (w : World) : Fr w 0 w := ⟨Below.refl _ _, by omega⟩
theorem Fr.alloc {w w' : World} {k : Nat} (h : Fr w k w') (o : Obj) : Fr w (k + 1) (w'.alloc o) := ⟨h.below.alloc (by have := h.size; omega) _, by have := h.size; simp; omega⟩
theorem Fr.drew {w w' : World} {k : Nat} (h : Fr w k w') : Fr w k w'.drew := ⟨h.below.drew, h.size⟩
theorem Fr.set {w w' : World} {k : Nat} (h : Fr w k w') (p : Addr) (v : Value) (hp : w.heap.size ≤ p.block) : Fr w k (w'.setCell p v) := ⟨h.below.setCell hp v, by have := h.size; simp; omega⟩
theorem Fr.setAll {w w' : World} {k : Nat} (h : Fr w k w') (b : Nat) (hb : w.heap.size ≤ b) (vs : List Value) : Fr w k (w'.setCells b 0 vs) := ⟨below_setAll h.below b hb 0 vs, by rw [size_setAll]; exact h.size⟩
theorem Fr.call {w w' w'' : World} {k : Nat} (h : Fr w k w') (l : Below w'.heap.size w' w'') : Fr w k w'' :=
  ⟨h.below.trans (l.mono (by have := h.size; omega)), by have := h.size; have := l.size; omega⟩
theorem Has.call {w w' w'' : World} {k' : Nat} {b : Nat} {k : IntKind} {n : Nat} {f : Nat → Int} (h : Has w' b k n f) (g : Fr w k' w') (l : Below w'.heap.size w' w'') (hb : b < w.heap.size + k') : Has w'' b k n f :=
  h.below l (by have := g.size; omega)

/-- Each of the first n is from 0 to below M. -/
def In (M : Int) (n : Nat) (f : Nat → Int) : Prop := ∀ j, j < n → 0 ≤ f j ∧ f j < M

theorem In.upd {M : Int} {n : Nat} {f : Nat → Int} (h : In M n f) (i : Nat) (x : Int) (h0 : 0 ≤ x) (h1 : x < M) : In M n (upd f i x) := fun j hj => by
  by_cases e : j = i
  · subst e; rw [upd_same]; exact ⟨h0, h1⟩
  · rw [upd_other _ _ _ _ e]; exact h j hj

/-- The number of a row, its digits to the base M, the lowest first. -/
def val (M : Int) (f : Nat → Int) : Nat → Int
  | 0 => 0
  | n + 1 => val M f n + M ^ n * f n

theorem val_congr (M : Int) {f g : Nat → Int} : ∀ n, (∀ j, j < n → f j = g j) → val M f n = val M g n
  | 0, _ => rfl
  | n + 1, h => by
    simp only [val]
    rw [val_congr M n (fun j hj => h j (by omega)), h n (by omega)]

theorem pow_nonneg (M : Int) (h : 0 < M) : ∀ n : Nat, 0 < M ^ n
  | 0 => by simp
  | n + 1 => by rw [Int.pow_succ]; exact Int.mul_pos (pow_nonneg M h n) h

theorem val_in (M : Int) (hM : 0 < M) (f : Nat → Int) : ∀ n, In M n f → 0 ≤ val M f n ∧ val M f n < M ^ n
  | 0, _ => by simp [val]
  | n + 1, h => by
    have ih := val_in M hM f n (fun j hj => h j (by omega))
    have hn := h n (by omega)
    have hp := pow_nonneg M hM n
    simp only [val]
    rw [Int.pow_succ]
    have h1 : 0 ≤ M ^ n * f n := Int.mul_nonneg (by omega) hn.1
    have h2 : M ^ n * (f n + 1) ≤ M ^ n * M := Int.mul_le_mul_of_nonneg_left (by omega) (by omega)
    rw [Int.mul_add, Int.mul_one] at h2
    omega

/-- A number tells its digits. -/
theorem val_inj (M : Int) (hM : 0 < M) (f g : Nat → Int) : ∀ n, In M n f → In M n g → val M f n = val M g n → ∀ j, j < n → f j = g j
  | 0, _, _, _ => fun j hj => by omega
  | n + 1, hf, hg, h => by
    have bf := val_in M hM f n (fun j hj => hf j (by omega))
    have bg := val_in M hM g n (fun j hj => hg j (by omega))
    have hp := pow_nonneg M hM n
    simp only [val] at h
    have e : f n = g n := by
      by_cases hlt : f n < g n
      · have : M ^ n * (f n + 1) ≤ M ^ n * g n := Int.mul_le_mul_of_nonneg_left (by omega) (by omega)
        rw [Int.mul_add, Int.mul_one] at this; omega
      · by_cases hgt : g n < f n
        · have : M ^ n * (g n + 1) ≤ M ^ n * f n := Int.mul_le_mul_of_nonneg_left (by omega) (by omega)
          rw [Int.mul_add, Int.mul_one] at this; omega
        · omega
    have e2 : val M f n = val M g n := by rw [e] at h; omega
    intro j hj
    by_cases hjn : j = n
    · subst hjn; exact e
    · exact val_inj M hM f g n (fun j hj => hf j (by omega)) (fun j hj => hg j (by omega)) e2 j (by omega)

end Go.Proofs.Yteaamgjlkohfcaa

namespace Go.Proofs.Yteaamgjlkohfcaa
open Go.RowKit

section
variable {P : Program} {ops : Array Oper} {Q : Exit → Act → World → Prop} {md : Region.Mode} {S : World → Prop}

/-- The one operation that may come up is a call. -/
theorem callH {i : Nat} {oi : Oper} (dst : Option Tmp) (hdst : oi.dst = dst) {f : FuncId} {args : Array Value} {R : Ending → World → Prop} {fuel : Nat} {listed : Array Bool} {a : Act} {w : World} (hr : Region.ready md ops listed = [i]) (hi : ops[i]? = some oi)
    (hw : Region.wanted oi (yielded ops a.tmps) = true) (he : ∀ w, (execOp a.eval oi).run P w = .ok (.enter f args) w) (hc : Calls P f args w R)
    (hK : ∀ e w', R e w' → ∃ v, e = .returned v ∧ S w' ∧ wpAnyH P md ops Q S fuel (listed.setIfInBounds i true) (a.put dst v) w') : wpAnyH P md ops Q S (fuel + 1) listed a w :=
  ⟨fun h0 => (by rw [h0] at hr; cases hr), fun j hj => by
    rw [hr] at hj
    obtain rfl := List.mem_singleton.1 hj
    unfold wpOp
    simp only [hi, hw, if_true]
    refine .inl ?_
    unfold Oper.wp
    rw [he w]
    exact hc.mono fun e w' hR => by
      obtain ⟨v, rfl, h⟩ := hK e w' hR
      subst hdst
      exact h⟩

/-- The one operation that may come up changes the world. -/
theorem doesH {i : Nat} {oi : Oper} (dst : Option Tmp) (hdst : oi.dst = dst) {fuel : Nat} {listed : Array Bool} {a : Act} {w w' : World} (hr : Region.ready md ops listed = [i]) (hi : ops[i]? = some oi)
    (hw : Region.wanted oi (yielded ops a.tmps) = true) (he : (execOp a.eval oi).run P w = .ok .skip w') (hS : S w')
    (h : wpAnyH P md ops Q S fuel (listed.setIfInBounds i true) (a.put dst undef) w') : wpAnyH P md ops Q S (fuel + 1) listed a w :=
  ⟨fun h0 => (by rw [h0] at hr; cases hr), fun j hj => by
    rw [hr] at hj
    obtain rfl := List.mem_singleton.1 hj
    unfold wpOp
    simp only [hi, hw, if_true]
    refine .inl ?_
    unfold Oper.wp
    rw [he]
    subst hdst
    exact ⟨hS, h⟩⟩

/-! The same at a list of operations, whose order is the text's. -/
theorem pureL {o : Oper} {rest : List Oper} {a : Act} {w : World} (v : Value) (hw : Region.wanted o (yielded ops a.tmps) = true) (hv : ∀ w, (execOp a.eval o).run P w = .ok (.value v) w)
    (h : wpList P ops Q rest (a.put o.dst v) w) : wpList P ops Q (o :: rest) a w := by
  unfold wpList
  rw [if_pos hw]
  refine .inl ?_
  unfold Oper.wp
  rw [hv w]
  exact h
theorem callL {o : Oper} {f : FuncId} {args : Array Value} {R : Ending → World → Prop} {rest : List Oper} {a : Act} {w : World} (hw : Region.wanted o (yielded ops a.tmps) = true)
    (he : ∀ w, (execOp a.eval o).run P w = .ok (.enter f args) w) (hc : Calls P f args w R) (hK : ∀ e w', R e w' → ∃ v, e = .returned v ∧ wpList P ops Q rest (a.put o.dst v) w') : wpList P ops Q (o :: rest) a w := by
  unfold wpList
  rw [if_pos hw]
  refine .inl ?_
  unfold Oper.wp
  rw [he w]
  exact hc.mono fun e w' hR => by
    obtain ⟨v, rfl, h⟩ := hK e w' hR
    exact h

theorem allocL {o : Oper} {rest : List Oper} {a : Act} {w : World} (c : Array Value) (t : TypeId) (hw : Region.wanted o (yielded ops a.tmps) = true)
    (hv : ∀ w, (execOp a.eval o).run P w = .ok (.value (.pointer (some ⟨w.heap.size, 0, none⟩))) (w.alloc (.cells c t)))
    (h : wpList P ops Q rest (a.put o.dst (.pointer (some ⟨w.heap.size, 0, none⟩))) (w.alloc (.cells c t))) : wpList P ops Q (o :: rest) a w := by
  unfold wpList
  rw [if_pos hw]
  refine .inl ?_
  unfold Oper.wp
  rw [hv w]
  exact h
end

/-! What stands through calls: blocks with rows of 32 bytes in them. -/
/-- The world at hand holds these rows in these blocks; what stood in 'w' stands. -/
structure Kp (w : World) (l : List (Nat × (Nat → Int))) (w' : World) : Prop where
  rows : ∀ p ∈ l, Has w' p.1 .u8 32 p.2 ∧ p.1 < w'.heap.size
  below : Below w.heap.size w w'
theorem Kp.init (w : World) : Kp w [] w := ⟨fun _ h => (by cases h), Below.refl _ _⟩
theorem Kp.drew {w w' : World} {l : List (Nat × (Nat → Int))} (h : Kp w l w') : Kp w l w'.drew := ⟨fun p hp => ⟨(h.rows p hp).1.drew, (h.rows p hp).2⟩, h.below.drew⟩
theorem Kp.call {w w' w'' : World} {l : List (Nat × (Nat → Int))} (h : Kp w l w') (b : Below w'.heap.size w' w'') : Kp w l w'' :=
  ⟨fun p hp => ⟨(h.rows p hp).1.below b (h.rows p hp).2, by have := (h.rows p hp).2; have := b.size; omega⟩, h.below.trans (b.mono h.below.size)⟩
theorem Kp.box {w w' : World} {l : List (Nat × (Nat → Int))} (h : Kp w l w') (f : Nat → Int) (t : TypeId) (b : Nat) (hb : b = w'.heap.size) : Kp w ((b, f) :: l) (w'.alloc (.cells (row .u8 32 f).toArray t)) :=
  ⟨fun p hp => by
    rcases List.mem_cons.1 hp with rfl | hp
    · exact ⟨Has.new w' .u8 32 f t b hb, by simp; omega⟩
    · exact ⟨(h.rows p hp).1.alloc _ (h.rows p hp).2, by have := (h.rows p hp).2; simp; omega⟩, h.below.alloc h.below.size _⟩
theorem Kp.get {w w' : World} {l : List (Nat × (Nat → Int))} (h : Kp w l w') (b : Nat) (f : Nat → Int) (hp : (b, f) ∈ l) : Has w' b .u8 32 f := (h.rows _ hp).1

/-! Two rows of bytes, held against each other. -/
open Extern.Stop (cell)

def bytesOf (n : Nat) (f : Nat → Int) : List UInt8 := (List.range n).map fun j => UInt8.ofNat (f j).toNat
theorem row_bytes (n : Nat) (f : Nat → Int) (h : In 256 n f) : row .u8 n f = (bytesOf n f).map cell := by
  unfold row bytesOf
  rw [List.map_map]
  refine List.map_congr_left fun j hj => ?_
  have hj' := h j (List.mem_range.1 hj)
  simp only [Function.comp, cell]
  congr 1
  have : (f j).toNat < 256 := by omega
  simp [UInt8.toNat_ofNat', Nat.mod_eq_of_lt this]
  omega
theorem bytesOf_inj (n : Nat) (f g : Nat → Int) (hf : In 256 n f) (hg : In 256 n g) : (bytesOf n f == bytesOf n g) = decide (val 256 f n = val 256 g n) := by
  rw [Bool.eq_iff_iff]
  simp only [beq_iff_eq, decide_eq_true_eq]
  constructor
  · intro h
    refine val_congr 256 n fun j hj => ?_
    have e : (bytesOf n f)[j]? = (bytesOf n g)[j]? := by rw [h]
    simp only [bytesOf, List.getElem?_map, List.getElem?_range hj, Option.map_some, Option.some.injEq] at e
    have := congrArg UInt8.toNat e
    have h1 := hf j hj
    have h2 := hg j hj
    have e1 : (f j).toNat < 256 := by omega
    have e2 : (g j).toNat < 256 := by omega
    simp [UInt8.toNat_ofNat', Nat.mod_eq_of_lt e1, Nat.mod_eq_of_lt e2] at this
    omega
  · intro h
    have := val_inj 256 (by decide) f g n hf hg h
    unfold bytesOf
    refine List.map_congr_left fun j hj => ?_
    rw [this j (List.mem_range.1 hj)]
theorem eql_rows {P : Program} (w : World) (t e : TypeId) (n : Nat) (ht : P.underlying t = some (.array n e)) (he : P.underlying e = some (.int .u8)) (hsz : ∀ w, (sizeOf e).run P w = .ok 1 w) (f g : Nat → Int) (hf : In 256 n f) (hg : In 256 n g) :
    (binOp .eql t (.agg (row .u8 n f).toArray) (.agg (row .u8 n g).toArray)).run P w = .ok (.bool (decide (val 256 f n = val 256 g n))) w := by
  rw [row_bytes n f hf, row_bytes n g hg, run_eql_bytes w t e n ht he hsz _ _ (by simp [bytesOf]) (by simp [bytesOf]), bytesOf_inj n f g hf hg]

/-- The operation '==' on two such rows. -/
theorem eqlV {P : Program} {o : Oper} {a : Act} (n : Nat) (f g : Nat → Int) (t e t' : TypeId) (x y : Operand) (ho : o.op = .binOp .eql t x y t') (hx : a.eval x = .agg (row .u8 n f).toArray) (hy : a.eval y = .agg (row .u8 n g).toArray)
    (ht : P.underlying t = some (.array n e)) (he : P.underlying e = some (.int .u8)) (hsz : ∀ w, (sizeOf e).run P w = .ok 1 w) (hm : P.eqGuardType P.depth t = false) (hf : In 256 n f) (hg : In 256 n g) (r : Bool) (hr : decide (val 256 f n = val 256 g n) = r) (w : World) :
    (execOp a.eval o).run P w = .ok (.value (.bool r)) w := by
  unfold execOp
  simp only [ho, hx, hy, Sem.run_bind, run_eqGuard_agg w .eql t x y _ _ hm, Result.andThen_ok, eql_rows w t e n ht he hsz f g hf hg, Sem.run_pure, hr]

end Go.Proofs.Yteaamgjlkohfcaa

namespace Go.Proofs.Yteaamgjlkohfcaa
open Go.RowKit

theorem there_below {w w' : World} {b n : Nat} (h : w.there b 0 n) {B : Nat} (l : Below B w w') (hb : b < B) : w'.there b 0 n := fun j hj => by
  rw [l.cell (p := ⟨b, 0 + j, none⟩) hb, l.frozen (p := ⟨b, 0 + j, none⟩) hb]; exact h j hj
/-- The rows that the blocks of l hold, the rooms R, all below m; what stood in w stands. -/
structure Kr (w : World) (m : Nat) (l : List (Nat × IntKind × Nat × (Nat → Int))) (R : List (Nat × Nat)) (w' : World) : Prop where
  rows : ∀ p ∈ l, Has w' p.1 p.2.1 p.2.2.1 p.2.2.2 ∧ p.1 < m
  room : ∀ q ∈ R, w'.there q.1 0 q.2 ∧ q.1 < m ∧ w.heap.size ≤ q.1
  apart : ∀ p ∈ l, ∀ q ∈ R, p.1 ≠ q.1
  size : m ≤ w'.heap.size
  base : w.heap.size ≤ m
  below : Below w.heap.size w w'
section
variable {w w' w'' : World} {m : Nat} {l : List (Nat × IntKind × Nat × (Nat → Int))} {R : List (Nat × Nat)}
theorem Kr.init (w : World) : Kr w w.heap.size [] [] w := ⟨fun _ h => (by cases h), fun _ h => (by cases h), fun _ h => (by cases h), Nat.le_refl _, Nat.le_refl _, Below.refl _ _⟩
theorem Kr.drew (h : Kr w m l R w') : Kr w m l R w'.drew := ⟨fun p hp => ⟨(h.rows p hp).1.drew, (h.rows p hp).2⟩, h.room, h.apart, h.size, h.base, h.below.drew⟩
theorem Kr.call (h : Kr w m l R w') (b : Below w'.heap.size w' w'') : Kr w m l R w'' :=
  ⟨fun p hp => ⟨(h.rows p hp).1.below b (Nat.lt_of_lt_of_le (h.rows p hp).2 h.size), (h.rows p hp).2⟩,
   fun q hq => ⟨there_below (h.room q hq).1 b (Nat.lt_of_lt_of_le (h.room q hq).2.1 h.size), (h.room q hq).2⟩, h.apart, Nat.le_trans h.size b.size, h.base, h.below.trans (b.mono (Nat.le_trans h.base h.size))⟩
/-- A row in a new block. -/
theorem Kr.box (h : Kr w m l R w') (k : IntKind) (n : Nat) (f : Nat → Int) (t : TypeId) (b : Nat) (hb : b = w'.heap.size) : Kr w (b + 1) ((b, k, n, f) :: l) R (w'.alloc (.cells (row k n f).toArray t)) := by
  have hc := h.call ((Below.refl w'.heap.size w').alloc (Nat.le_refl _) (.cells (row k n f).toArray t))
  refine ⟨fun p hp => ?_, fun q hq => ⟨(hc.room q hq).1, by have := (hc.room q hq).2.1; have := h.size; omega, (hc.room q hq).2.2⟩, fun p hp q hq => ?_, by simp; omega, by have := h.base; have := h.size; omega, hc.below⟩
  · rcases List.mem_cons.1 hp with rfl | hp
    · exact ⟨Has.new w' k n f t b hb, by simp⟩
    · exact ⟨(hc.rows p hp).1, by have := (hc.rows p hp).2; have := h.size; omega⟩
  · rcases List.mem_cons.1 hp with rfl | hp
    · have := (h.room q hq).2.1; have := h.size; simp only; omega
    · exact h.apart p hp q hq
theorem Kr.fill (h : Kr w m l R w') (b n : Nat) (hb : (b, n) ∈ R) (vs : List Value) : Kr w m l R (w'.setCells b 0 vs) :=
  ⟨fun p hp => ⟨(h.rows p hp).1.setAll_other _ (fun e => h.apart p hp _ hb e.symm) 0 _, (h.rows p hp).2⟩, fun q hq => ⟨World.there_setCells (h.room q hq).1 _ _ _, (h.room q hq).2⟩, h.apart, by rw [size_setAll]; exact h.size, h.base,
   below_setAll h.below _ (h.room _ hb).2.2 0 _⟩
theorem Kr.get (h : Kr w m l R w') (b : Nat) (k : IntKind) (n : Nat) (f : Nat → Int) (hp : (b, k, n, f) ∈ l) : Has w' b k n f := (h.rows _ hp).1
theorem Kr.poke (h : Kr w m l R w') (b n : Nat) (hb : (b, n) ∈ R) (o : Nat) (vs : List Value) : Kr w m l R (w'.setCells b o vs) :=
  ⟨fun p hp => ⟨(h.rows p hp).1.setAll_other _ (fun e => h.apart p hp _ hb e.symm) o _, (h.rows p hp).2⟩, fun q hq => ⟨World.there_setCells (h.room q hq).1 _ _ _, (h.room q hq).2⟩, h.apart, by rw [size_setAll]; exact h.size, h.base,
   below_setAll h.below _ (h.room _ hb).2.2 o _⟩
/-- A row is given up: its block is room. -/
theorem Kr.loose (h : Kr w m l R w') (l' : List (Nat × IntKind × Nat × (Nat → Int))) (b : Nat) (k : IntKind) (n : Nat) (f : Nat → Int) (hp : (b, k, n, f) ∈ l) (hl : ∀ p ∈ l', p ∈ l) (hne : ∀ p ∈ l', p.1 ≠ b) (hlo : w.heap.size ≤ b) : Kr w m l' ((b, n) :: R) w' :=
  ⟨fun p hp => h.rows p (hl p hp), fun q hq => by
    rcases List.mem_cons.1 hq with rfl | hq
    · exact ⟨(h.get _ _ _ _ hp).there, (h.rows _ hp).2, hlo⟩
    · exact h.room q hq, fun p hp' q hq => by
    rcases List.mem_cons.1 hq with rfl | hq
    · exact hne p hp'
    · exact h.apart p (hl p hp') q hq, h.size, h.base, h.below⟩
/-- A room holds a row. -/
theorem Kr.settle (h : Kr w m l R w') (R' : List (Nat × Nat)) (b : Nat) (k : IntKind) (n : Nat) (f : Nat → Int) (hb : (b, n) ∈ R) (hR : ∀ q ∈ R', q ∈ R) (hne : ∀ q ∈ R', q.1 ≠ b) (hf : Has w' b k n f) : Kr w m ((b, k, n, f) :: l) R' w' :=
  ⟨fun p hp => by
    rcases List.mem_cons.1 hp with rfl | hp
    · exact ⟨hf, (h.room _ hb).2.1⟩
    · exact h.rows p hp, fun q hq => h.room q (hR q hq), fun p hp q hq => by
    rcases List.mem_cons.1 hp with rfl | hp
    · exact (hne q hq).symm
    · exact h.apart p hp q (hR q hq), h.size, h.base, h.below⟩
theorem Kr.sub (h : Kr w m l R w') (l' : List (Nat × IntKind × Nat × (Nat → Int))) (hl : ∀ p ∈ l', p ∈ l) : Kr w m l' R w' :=
  ⟨fun p hp => h.rows p (hl p hp), h.room, fun p hp q hq => h.apart p (hl p hp) q hq, h.size, h.base, h.below⟩
/-- A row is written anew. -/
theorem Kr.set (h : Kr w m l R w') (l' : List (Nat × IntKind × Nat × (Nat → Int))) (b : Nat) (k : IntKind) (n : Nat) (f g : Nat → Int) (hp : (b, k, n, f) ∈ l) (hl : ∀ p ∈ l', p ∈ l) (hne : ∀ p ∈ l', p.1 ≠ b) (hlo : w.heap.size ≤ b) : Kr w m ((b, k, n, g) :: l') R (w'.setCells b 0 (row k n g)) :=
  ((h.loose l' b k n f hp hl hne hlo).fill b n List.mem_cons_self _).settle R b k n g List.mem_cons_self (fun _ hq => List.mem_cons_of_mem _ hq) (fun q hq => (h.apart _ hp q hq).symm) (Has.all (h.get _ _ _ _ hp).there k g)
/-- What was made since is forgotten. -/
theorem Kr.back (h : Kr w m l R w') (l' : List (Nat × IntKind × Nat × (Nat → Int))) (m0 : Nat) (hl : ∀ p ∈ l', p ∈ l) (hm : ∀ p ∈ l', p.1 < m0) (hr : ∀ q ∈ R, q.1 < m0) (h0 : w.heap.size ≤ m0) (h1 : m0 ≤ m) : Kr w m0 l' R w' :=
  ⟨fun p hp => ⟨(h.rows p (hl p hp)).1, hm p hp⟩, fun q hq => ⟨(h.room q hq).1, hr q hq, (h.room q hq).2.2⟩, fun p hp q hq => h.apart p (hl p hp) q hq, Nat.le_trans h1 h.size, h0, h.below⟩
end

section
variable {P : Program} {ops : Array Oper} {Q : Exit → Act → World → Prop} {md : Region.Mode} {S : World → Prop}
end


section
variable {P : Program} {ops : Array Oper} {Q : Exit → Act → World → Prop} {md : Region.Mode} {S : World → Prop}
theorem run_loadVar_cell (w : World) (b o : Nat) (ty : TypeId) (k : IntKind) (v : Value) (hc : w.cell? ⟨b, o, none⟩ = some v) (hu : P.underlying ty = some (.int k)) : (loadVar ty ⟨b, o, none⟩).run P w = .ok v w := by
  have hagg : (isAgg ty).run P w = .ok false w := by
    unfold isAgg
    rw [Sem.run_bind, run_underlying hu w]
    rfl
  simp [loadVar, Sem.run_bind, hagg, hc]
theorem cellL {o' : Oper} {rest : List Oper} {a : Act} {w : World} (k : IntKind) (v : Value) (b o : Nat) (ty : TypeId) (x : Operand) (hw : Region.wanted o' (yielded ops a.tmps) = true)
    (ho : o'.op = .load ty x) (hx : a.eval x = .pointer (some ⟨b, o, none⟩)) (hu : P.underlying ty = some (.int k)) (hh : w.cell? ⟨b, o, none⟩ = some v)
    (h : wpList P ops Q rest (a.put o'.dst v) w) : wpList P ops Q (o' :: rest) a w := by
  unfold wpList
  rw [if_pos hw]
  refine .inl ?_
  unfold Oper.wp execOp
  simp only [ho, hx, Instr.loadAt, Instr.sureAddr, Sem.run_bind, Sem.run_pure, Result.andThen_ok, run_loadVar_cell w b o ty k v hh hu]
  exact h
end
end Go.Proofs.Yteaamgjlkohfcaa

namespace Go.Proofs.Yteaamgjlkohfcaa
open Go.RowKit

section
variable {P : Program} {ops : Array Oper} {Q : Exit → Act → World → Prop} {md : Region.Mode} {S : World → Prop} {c : Nat}

end

section
variable {P : Program} {ops : Array Oper} {Q : Exit → Act → World → Prop} {md : Region.Mode} {S S2 : World → Prop} {c : Nat}
/-- One cell is stored. -/
theorem run_storeAt_cell (w : World) (b o : Nat) (ty : TypeId) (k : IntKind) (n : Int) (hx : (w.cell? ⟨b, o, none⟩).isSome = true) (hf : w.frozen? ⟨b, o, none⟩ = false) (hi : (P.info? ty).map (·.size) = some 1) :
    (Instr.storeAt ty (.pointer (some ⟨b, o, none⟩)) (.int k n)).run P w = .ok () (w.setCell ⟨b, o, none⟩ (.int k n)) := by
  have h0 : ∀ j : Nat, j < [Value.int k n].length → j = 0 := fun j hj => by simpa using hj
  have := run_storeCells_cells (P := P) b o [.int k n] 0 w (fun j hj => by rw [h0 j hj]; simpa using hx) (fun j hj => by rw [h0 j hj]; simpa using hf) (fun v hv => by simp at hv; subst hv; rfl)
  cases hq : P.info? ty with
  | none => simp [hq] at hi
  | some i =>
    have hs : i.size = 1 := by simp [hq] at hi; omega
    simp only [Nat.add_zero] at this
    have e : (storeVar ty ⟨b, o, none⟩ (.int k n)).run P w = .ok () (w.setCell ⟨b, o, none⟩ (.int k n)) := by
      simp [storeVar, sizeOf, typeInfo, hq, Value.cells, hs, this, World.setCells]
    simp only [Instr.storeAt, Instr.sureAddr, Sem.run_bind, Sem.run_pure, Result.andThen_ok, e]
/-- A place within an array, and within a slice. -/
theorem idxArr {o : Oper} {a : Act} (t e : TypeId) (n : Nat) (k : IntKind) (b off i : Nat) (x y : Operand) (hu : P.underlying t = some (.array n e)) (hsz : ∀ w, (sizeOf e).run P w = .ok 1 w) (hi : i < n) (ho : o.op = .indexAddr t x y) (hx : a.eval x = .pointer (some ⟨b, off, none⟩)) (hy : a.eval y = .int k (i : Int)) (w : World) :
    (execOp a.eval o).run P w = .ok (.value (.pointer (some ⟨b, off + i, none⟩))) w := by
  have e1 : (Instr.indexAt t (.pointer (some ⟨b, off, none⟩)) (.int k (i : Int))).run P w = .ok (.pointer (some ⟨b, off + i, none⟩)) w := by
    simp [Instr.indexAt, run_underlying hu, Instr.sureAddr, asIntOf, hsz, Addr.add_mid]
    intro hf
    omega
  unfold execOp
  simp only [ho, hx, hy, Sem.run_bind, e1, Result.andThen_ok, Sem.run_pure]
theorem idxSl {o : Oper} {a : Act} (t e : TypeId) (len cap : Nat) (k : IntKind) (ad : Addr) (i : Nat) (x y : Operand) (hu : P.underlying t = some (.slice e)) (hsz : ∀ w, (sizeOf e).run P w = .ok 1 w) (hi : i < len) (ho : o.op = .indexAddr t x y) (hx : a.eval x = .slice (some ad) len cap) (hy : a.eval y = .int k (i : Int)) (w : World) :
    (execOp a.eval o).run P w = .ok (.value (.pointer (some (ad.add i)))) w := by
  have e1 : (Instr.indexAt t (.slice (some ad) len cap) (.int k (i : Int))).run P w = .ok (.pointer (some (ad.add i))) w := by
    simp [Instr.indexAt, run_underlying hu, asIntOf, hsz]
    intro hf
    omega
  unfold execOp
  simp only [ho, hx, hy, Sem.run_bind, e1, Result.andThen_ok, Sem.run_pure]
end
end Go.Proofs.Yteaamgjlkohfcaa

namespace Go.Proofs.Yteaamgjlkohfcaa
open Go.RowKit

/-- A block that was made on the way, of n cells. -/
structure Fb (n w0 B : Nat) (w : World) : Prop where
  lo : w0 ≤ B
  hi : B < w.heap.size
  th : w.there B 0 n
theorem Fb.call {n w0 B : Nat} {w w' : World} (h : Fb n w0 B w) (l : Below w.heap.size w w') : Fb n w0 B w' := ⟨h.lo, Nat.lt_of_lt_of_le h.hi l.size, there_below h.th l h.hi⟩
theorem Fb.alloc {n w0 B : Nat} {w : World} (h : Fb n w0 B w) (o : Obj) : Fb n w0 B (w.alloc o) := h.call ((Below.refl w.heap.size w).alloc (Nat.le_refl _) o)

section
variable {P : Program} {ops : Array Oper} {Q : Exit → Act → World → Prop} {md : Region.Mode} {S : World → Prop}

theorem callOp {i : Nat} {oi : Oper} {f : FuncId} {args : Array Value} {R : Ending → World → Prop} {K : Act → World → Prop} {a : Act} {w : World} (hi : ops[i]? = some oi) (hg : oi.guard = none) (he : (execOp a.eval oi).run P w = .ok (.enter f args) w)
    (hc : Calls P f args w R) (hK : ∀ e w', R e w' → ∃ v, e = .returned v ∧ K (a.put oi.dst v) w') : wpOp P ops Q i K a w := by
  have hw : Region.wanted oi (yielded ops a.tmps) = true := by unfold Region.wanted; rw [hg]
  unfold wpOp
  simp only [hi, hw, if_true]
  refine .inl ?_
  unfold Oper.wp
  rw [he]
  exact hc.mono fun e w' hR => by
    obtain ⟨v, rfl, h⟩ := hK e w' hR
    exact h
theorem wpAnyH_cast {fuel : Nat} {l l' : Array Bool} {a a' : Act} {w : World} (h : wpAnyH P md ops Q S fuel l a w) (el : l' = l) (ea : a' = a) : wpAnyH P md ops Q S fuel l' a' w := by subst el ea; exact h
theorem eval_one {a : Act} {o : Oper} (x : Tmp) (u : Value) (hs : ∀ cs b, o.op ≠ .select cs b) (h1 : x ∉ o.looksAt ops) : execOp (a.put (some x) u).eval o = execOp a.eval o :=
  execOp_put (ops := ops) o hs _ _ _ (fun d hd => by injection hd with hd; subst hd; exact h1)
theorem put_comm' (a : Act) {x y : Tmp} (v u : Value) (h : x ≠ y) : (a.put (some x) v).put (some y) u = (a.put (some y) u).put (some x) v :=
  Act.put_comm a v u (fun d hd e => by injection hd with hd; injection e with e; exact h (hd.trans e.symm))


/-- The one operation that may come up answers a value and changes the world. -/
theorem actH {i : Nat} {oi : Oper} (dst : Option Tmp) (hdst : oi.dst = dst) {fuel : Nat} {listed : Array Bool} {a : Act} {w w' : World} (v : Value) (hr : Region.ready md ops listed = [i]) (hi : ops[i]? = some oi)
    (hw : Region.wanted oi (yielded ops a.tmps) = true) (he : (execOp a.eval oi).run P w = .ok (.value v) w') (hS : S w')
    (h : wpAnyH P md ops Q S fuel (listed.setIfInBounds i true) (a.put dst v) w') : wpAnyH P md ops Q S (fuel + 1) listed a w :=
  ⟨fun h0 => (by rw [h0] at hr; cases hr), fun j hj => by
    rw [hr] at hj
    obtain rfl := List.mem_singleton.1 hj
    unfold wpOp
    simp only [hi, hw, if_true]
    refine .inl ?_
    unfold Oper.wp
    rw [he]
    subst hdst
    exact ⟨hS, h⟩⟩
theorem actL {o : Oper} {rest : List Oper} {a : Act} {w w' : World} (v : Value) (hw : Region.wanted o (yielded ops a.tmps) = true) (he : (execOp a.eval o).run P w = .ok (.value v) w')
    (h : wpList P ops Q rest (a.put o.dst v) w') : wpList P ops Q (o :: rest) a w := by
  unfold wpList
  rw [if_pos hw]
  refine .inl ?_
  unfold Oper.wp
  rw [he]
  exact h
end
end Go.Proofs.Yteaamgjlkohfcaa

namespace Go.Proofs.Yteaamgjlkohfcaa
open Go.RowKit

/-- A text's bytes. -/
def zs (s : ByteArray) : Nat → Int := fun j => ((s.data.toList.getD j 0).toNat : Int)
end Go.Proofs.Yteaamgjlkohfcaa

namespace Go.Proofs.Yteaamgjlkohfcaa
open Go.RowKit

/-- A slice's first bytes, wherever they lie. -/
def Src (w : World) (sp : Option Addr) (len : Nat) (z : Nat → Int) : Prop := ∀ j, j < len → ∃ ad, sp = some ad ∧ w.cell? (ad.add j) = some (.int .u8 (z j))
theorem Src.below {w w' : World} {sp : Option Addr} {len : Nat} {z : Nat → Int} (h : Src w sp len z) {B : Nat} (l : Below B w w') (hB : w.heap.size ≤ B) : Src w' sp len z := fun j hj => by
  obtain ⟨ad, he, hc⟩ := h j hj
  have hb := World.block_lt_of_cell? w _ hc
  exact ⟨ad, he, by rw [l.cell (p := ad.add j) (Nat.lt_of_lt_of_le hb hB)]; exact hc⟩


section
variable {P : Program}
theorem run_copy_src {o : Oper} {a : Act} {w : World} (d s : Operand) (dT sT elem : TypeId) (ho : o.op = .call { callee := .builtin .copy, args := #[d, s], argTypes := #[dT, sT] }) (hu : P.underlying dT = some (.slice elem)) (hsz : (P.info? elem).map (·.size) = some 1)
    (b dLen dCap len cap n : Nat) (sp : Option Addr) (z : Nat → Int) (hd : a.eval d = .slice (some ⟨b, 0, none⟩) dLen dCap) (hs : a.eval s = .slice sp len cap) (hl : len ≤ dLen) (hn : len ≤ n) (hb : w.there b 0 n) (hc : Src w sp len z) :
    (execOp a.eval o).run P w = .ok (.value (.int .i64 (len : Int))) (w.setCells b 0 (row .u8 len z)) := by
  by_cases h0 : len = 0
  · subst h0
    have hrun := run_copy_none (P := P) w dT sT o.type elem (some ⟨b, 0, none⟩) sp dLen dCap 0 cap hu hsz (Nat.zero_min _)
    simp [execOp, ho, resolve, invoke, builtin, hd, hs, hrun, Result.andThen, goInt, row, World.setCells]
  · obtain ⟨ad, rfl, _⟩ := hc 0 (by omega)
    have hrun := run_copy_cells (P := P) w dT sT o.type elem b 0 dLen dCap ad len cap (row .u8 len z) hu hsz (by rw [row_length]; exact (Nat.min_eq_left hl).symm) (fun j v hv => by
      obtain ⟨hj, rfl⟩ := row_get_some hv
      obtain ⟨ad', he, hc'⟩ := hc j hj
      injection he with he
      subst he
      exact hc') (fun j hj => by rw [row_length] at hj; exact (hb j (by omega)).1) (fun j hj => by rw [row_length] at hj; exact (hb j (by omega)).2) (row_one .u8 len z)
    rw [row_length] at hrun
    simp [execOp, ho, resolve, invoke, builtin, hd, hs, hrun, Result.andThen, goInt]
end
end Go.Proofs.Yteaamgjlkohfcaa

namespace Go.Proofs.Yteaamgjlkohfcaa
open Go.RowKit

/-- Part of a row, written anew. -/
def over (f : Nat → Int) (o m : Nat) (g : Nat → Int) : Nat → Int := fun j => if o ≤ j ∧ j < o + m then g (j - o) else f j
theorem Has.part {w : World} {b : Nat} {k : IntKind} {n : Nat} {f : Nat → Int} (h : Has w b k n f) (o m : Nat) (ho : o + m ≤ n) (g : Nat → Int) : Has (w.setCells b o (row k m g)) b k n (over f o m g) := by
  have ht : w.there b o m := fun j hj => by rw [h.cell (o + j) (by omega)]; exact ⟨rfl, h.free (o + j) (by omega)⟩
  refine ⟨fun j hj => ?_, fun j hj => by rw [World.frozen?_setCells]; exact h.free j hj⟩
  unfold over
  by_cases e : o ≤ j ∧ j < o + m
  · rw [if_pos e]
    have := World.rangeAt_setCells_same w b o (row k m g) (by rw [row_length]; exact ht) (j - o) _ (row_get k m g (j - o) (by omega))
    rw [show o + (j - o) = j by omega] at this
    exact this
  · rw [if_neg e]
    have hr : w.rangeAt b j [.int k (f j)] := fun i v hv => by
      rcases i with _ | i
      · obtain rfl : Value.int k (f j) = v := by simpa using hv
        exact h.cell j hj
      · simp at hv
    exact World.rangeAt_setCells_apart hr b o (row k m g) (Or.inr (by rw [row_length]; simp only [List.length_cons, List.length_nil]; omega)) 0 _ rfl
end Go.Proofs.Yteaamgjlkohfcaa

namespace Go.Proofs.Yteaamgjlkohfcaa
open Go.RowKit

/-- The first bytes from a list, noughts behind them. -/
def bl (l : List Int) : Nat → Int := fun j => l.getD j 0
theorem Kr.setCell {w w' : World} {m : Nat} {l : List (Nat × IntKind × Nat × (Nat → Int))} {R : List (Nat × Nat)} (h : Kr w m l R w') (l' : List (Nat × IntKind × Nat × (Nat → Int))) (b : Nat) (k : IntKind) (n : Nat) (f : Nat → Int) (i : Nat) (hi : i < n) (x : Int) (hp : (b, k, n, f) ∈ l) (hl : ∀ p ∈ l', p ∈ l) (hne : ∀ p ∈ l', p.1 ≠ b) (hlo : w.heap.size ≤ b) :
    Kr w m ((b, k, n, upd f i x) :: l') R (w'.setCell ⟨b, i, none⟩ (.int k x)) :=
  ((h.loose l' b k n f hp hl hne hlo).poke b n List.mem_cons_self i [.int k x]).settle R b k n (upd f i x) List.mem_cons_self (fun _ hq => List.mem_cons_of_mem _ hq) (fun q hq => (h.apart _ hp q hq).symm) ((h.get _ _ _ _ hp).set i hi x)

theorem conv_const {P : Program} {o : Oper} {a : Act} {w : World} (t e : TypeId) (C : Array Value) (n c : Nat) (x : Operand) (ho : o.op = .convert t t x) (hx : a.eval x = .slice (some ⟨w.heap.size, 0, none⟩) n c) (ht : P.underlying t = some (.slice e)) (he : P.underlying e = some (.int .u8)) :
    (execOp a.eval o).run P (w.alloc (.cells C e)) = .ok (.value (.slice (some ⟨w.heap.size, 0, none⟩) n c)) (w.alloc (.cells C e (C.size, C.size + 1))) := by
  unfold execOp
  simp only [ho, hx, Sem.run_bind, Lib.run_convert_bytes_const w t e C n c ht he, Result.andThen_ok, Sem.run_pure]
theorem eqlI {P : Program} {o : Oper} {a : Act} (k : IntKind) (n n' : Int) (t t' : TypeId) (x y : Operand) (ho : o.op = .binOp .eql t x y t') (hx : a.eval x = .int k n) (hy : a.eval y = .int k n') (r : Bool) (hr : (n == n') = r) (w : World) :
    (execOp a.eval o).run P w = .ok (.value (.bool r)) w := by
  unfold execOp
  simp only [ho, hx, hy, Sem.run_bind, eqGuard_at_int, binOp_eql, Sem.run_pure, Result.andThen_ok, hr]
theorem leqI {P : Program} {o : Oper} {a : Act} (k : IntKind) (n n' : Int) (t t' : TypeId) (x y : Operand) (ho : o.op = .binOp .leq t x y t') (hx : a.eval x = .int k n) (hy : a.eval y = .int k n') (r : Bool) (hr : decide (n ≤ n') = r) (w : World) :
    (execOp a.eval o).run P w = .ok (.value (.bool r)) w := by
  unfold execOp
  simp only [ho, hx, hy, Sem.run_bind, eqGuard_at_int, binOp_leq, Sem.run_pure, Result.andThen_ok, hr]
end Go.Proofs.Yteaamgjlkohfcaa

namespace Go.Proofs.Yteaamgjlkohfcaa
open Go.RowKit

section
variable {P : Program} {o : Oper} {a : Act}
theorem addI (k : IntKind) (n n' r : Int) (t t' : TypeId) (x y : Operand) (ho : o.op = .binOp .add t x y t') (hx : a.eval x = .int k n) (hy : a.eval y = .int k n') (hr : k.wrap (n + n') = r) (w : World) : (execOp a.eval o).run P w = .ok (.value (.int k r)) w := by
  unfold execOp
  simp only [ho, hx, hy, Sem.run_bind, eqGuard_at_int, binOp_add, Op.intArith, Sem.run_pure, Result.andThen_ok, hr]
theorem subI (k : IntKind) (n n' r : Int) (t t' : TypeId) (x y : Operand) (ho : o.op = .binOp .sub t x y t') (hx : a.eval x = .int k n) (hy : a.eval y = .int k n') (hr : k.wrap (n - n') = r) (w : World) : (execOp a.eval o).run P w = .ok (.value (.int k r)) w := by
  unfold execOp
  simp only [ho, hx, hy, Sem.run_bind, eqGuard_at_int, binOp_sub, Op.intArith, Sem.run_pure, Result.andThen_ok, hr]
theorem mulI (k : IntKind) (n n' r : Int) (t t' : TypeId) (x y : Operand) (ho : o.op = .binOp .mul t x y t') (hx : a.eval x = .int k n) (hy : a.eval y = .int k n') (hr : k.wrap (n * n') = r) (w : World) : (execOp a.eval o).run P w = .ok (.value (.int k r)) w := by
  unfold execOp
  simp only [ho, hx, hy, Sem.run_bind, eqGuard_at_int, binOp_mul, Op.intArith, Sem.run_pure, Result.andThen_ok, hr]
theorem shrI (k yk : IntKind) (n y r : Int) (t t' : TypeId) (x x' : Operand) (ho : o.op = .binOp .shr t x x' t') (hx : a.eval x = .int k n) (hy : a.eval x' = .int yk y) (h0 : 0 ≤ y) (hr : n / 2 ^ min y.toNat k.bits = r) (w : World) : (execOp a.eval o).run P w = .ok (.value (.int k r)) w := by
  unfold execOp
  simp only [ho, hx, hy, Sem.run_bind, eqGuard_at_int, binOp_shr, shift_shr_any k yk n y h0, Sem.run_pure, Result.andThen_ok, hr]
theorem convI (k k' : IntKind) (n r : Int) (t t' : TypeId) (x : Operand) (ho : o.op = .convert t t' x) (ht : (P.underlying t).isSome = true) (ht' : P.underlying t' = some (.int k')) (hk : P.intKind t' = k') (hx : a.eval x = .int k n) (hr : k'.wrap n = r) (w : World) : (execOp a.eval o).run P w = .ok (.value (.int k' r)) w := by
  subst hk
  unfold execOp
  simp only [ho, hx, Sem.run_bind, run_convert_int w t t' k n ht ht', Sem.run_pure, Result.andThen_ok, hr]
theorem lssI (k : IntKind) (n n' : Int) (t t' : TypeId) (x y : Operand) (ho : o.op = .binOp .lss t x y t') (hx : a.eval x = .int k n) (hy : a.eval y = .int k n') (r : Bool) (hr : decide (n < n') = r) (w : World) : (execOp a.eval o).run P w = .ok (.value (.bool r)) w := by
  unfold execOp
  simp only [ho, hx, hy, Sem.run_bind, eqGuard_at_int, binOp_lss, Sem.run_pure, Result.andThen_ok, hr]
theorem neqI (k : IntKind) (n n' : Int) (t t' : TypeId) (x y : Operand) (ho : o.op = .binOp .neq t x y t') (hx : a.eval x = .int k n) (hy : a.eval y = .int k n') (r : Bool) (hr : (n != n') = r) (w : World) : (execOp a.eval o).run P w = .ok (.value (.bool r)) w := by
  unfold execOp
  simp only [ho, hx, hy, Sem.run_bind, eqGuard_at_int, binOp_neq, Sem.run_pure, Result.andThen_ok, hr]
theorem lenS (x : Operand) (t e : TypeId) (sp : Option Addr) (n c : Nat) (ho : o.op = .call { callee := .builtin .len, args := #[x], argTypes := #[t] }) (ht : P.underlying t = some (.slice e)) (hx : a.eval x = .slice sp n c) (w : World) : (execOp a.eval o).run P w = .ok (.value (.int .i64 (n : Int))) w := by
  simp [execOp, ho, resolve, invoke, builtin, hx, Builtin.len_, run_underlying ht, goInt]
/-- A slice of a slice. -/
theorem cutOp {w : World} (t : TypeId) (x y : Operand) (p q v : Value) (ho : o.op = .slice t x (some y) none none) (hx : a.eval x = p) (hy : a.eval y = q) (hr : (Instr.sliceAt t p (some q) none none).run P w = .ok v w) :
    (execOp a.eval o).run P w = .ok (.value v) w := by
  unfold execOp
  simp only [ho, hx, hy, Option.map_some, Option.map_none, Sem.run_bind, hr, Result.andThen_ok, Sem.run_pure]
theorem cutHi {w : World} (t : TypeId) (x y : Operand) (p q v : Value) (ho : o.op = .slice t x none (some y) none) (hx : a.eval x = p) (hy : a.eval y = q) (hr : (Instr.sliceAt t p none (some q) none).run P w = .ok v w) :
    (execOp a.eval o).run P w = .ok (.value v) w := by
  unfold execOp
  simp only [ho, hx, hy, Option.map_some, Option.map_none, Sem.run_bind, hr, Result.andThen_ok, Sem.run_pure]
theorem cutAll {w : World} (t : TypeId) (x : Operand) (p v : Value) (ho : o.op = .slice t x none none none) (hx : a.eval x = p) (hr : (Instr.sliceAt t p none none none).run P w = .ok v w) :
    (execOp a.eval o).run P w = .ok (.value v) w := by
  unfold execOp
  simp only [ho, hx, Option.map_none, Sem.run_bind, hr, Result.andThen_ok, Sem.run_pure]

/-- Bytes as a text. -/
def txt (n : Nat) (z : Nat → Int) : ByteArray := strOfNums ((List.range n).map z)
theorem conv_txt (t e dst : TypeId) (x : Operand) (ho : o.op = .convert t dst x) (ht : P.underlying t = some (.slice e)) (he : P.underlying e = some (.int .u8)) (hd : P.underlying dst = some .string) (sp : Option Addr) (len cap : Nat) (z : Nat → Int) (hx : a.eval x = .slice sp len cap) (w : World) (hs : Src w sp len z) (hn : sp = none → len = 0) :
    (execOp a.eval o).run P w = .ok (.value (.string (txt len z))) w := by
  have h : (convert t dst (.slice sp len cap)).run P w = .ok (.string (txt len z)) w := by
    cases sp with
    | none =>
      obtain rfl := hn rfl
      rw [run_convert_bytes_nil w t e ht he 0 cap dst hd]
      rfl
    | some ad =>
      have hl : (loadCells ad len).run P w = .ok (((List.range len).map z).map (Value.int .u8)).toArray w := by
        have := run_loadCells_list (P := P) w ad (((List.range len).map z).map (Value.int .u8)) (fun j v hj => by
          rw [List.map_map] at hj
          have hjl : j < len := by
            have := (List.getElem?_eq_some_iff.1 hj).1
            simpa using this
          obtain ⟨ad', he', hc⟩ := hs j hjl
          injection he' with he'
          subst he'
          rw [hc, ← hj]
          simp [hjl])
        simpa using this
      rw [run_convert_bytes_string w t dst e _ len cap ht he hd, run_bytesToString w ad len cap _ hl, foldl_push_bytes]
      simp [txt, strOfNums, ByteArray.empty, ByteArray.emptyWithCapacity]
      rfl
  unfold execOp
  simp only [ho, hx, Sem.run_bind, h, Result.andThen_ok, Sem.run_pure]
theorem eqlS (s s' : ByteArray) (t t' : TypeId) (x y : Operand) (ho : o.op = .binOp .eql t x y t') (hx : a.eval x = .string s) (hy : a.eval y = .string s') (h : s = s') (w : World) : (execOp a.eval o).run P w = .ok (.value (.bool true)) w := by
  subst h
  unfold execOp
  simp only [ho, hx, hy, Sem.run_bind, eqGuard_at_string, binOp_string_eql, Sem.run_pure, Result.andThen_ok, beq_self_eq_true]
end

section
variable {P : Program} {ops : Array Oper} {Q : Exit → Act → World → Prop} {md : Region.Mode} {S : World → Prop}
/-- What only looks at memory that S speaks of is taken first. -/
theorem readH {i : Nat} {oi : Oper} (dst : Option Tmp) (hdst : oi.dst = dst) {fuel : Nat} {listed : Array Bool} {a : Act} {w : World} (v : Value) (hi : ops[i]? = some oi) (hw : Region.wanted oi (yielded ops a.tmps) = true)
    (hv : ∀ w, S w → (execOp a.eval oi).run P w = .ok (.value v) w)
    (hs : Region.noSelect ops = true) (hf : Region.free md ops listed i = true) (hr : (Region.ready md ops listed).contains i = true)
    (hQ : ∀ c a w, Q (.panic c) (a.put dst v) w → Q (.panic c) a w) (hS : S w)
    (h : wpAnyH P md ops Q S fuel (listed.setIfInBounds i true) (a.put dst v) w) : wpAnyH P md ops Q S (fuel + 1) listed a w := by
  subst hdst
  exact wpAnyH_take hi hs hf hr hQ (Or.inl ⟨hw, hv⟩) hS h
theorem readL {o : Oper} {rest : List Oper} {a : Act} {w : World} (v : Value) (hw : Region.wanted o (yielded ops a.tmps) = true) (hv : (execOp a.eval o).run P w = .ok (.value v) w)
    (h : wpList P ops Q rest (a.put o.dst v) w) : wpList P ops Q (o :: rest) a w := by
  unfold wpList
  rw [if_pos hw]
  refine .inl ?_
  unfold Oper.wp
  rw [hv]
  exact h
theorem storeL {o' : Oper} {rest : List Oper} {a : Act} {w : World} (k : IntKind) (v : Int) (b o : Nat) (ty : TypeId) (x y : Operand) (hw : Region.wanted o' (yielded ops a.tmps) = true) (ho : o'.op = .store ty x y) (hx : a.eval x = .pointer (some ⟨b, o, none⟩)) (hy : a.eval y = .int k v)
    (hc : (w.cell? ⟨b, o, none⟩).isSome = true) (hf : w.frozen? ⟨b, o, none⟩ = false) (hz : (P.info? ty).map (·.size) = some 1)
    (h : wpList P ops Q rest (a.put o'.dst undef) (w.setCell ⟨b, o, none⟩ (.int k v))) : wpList P ops Q (o' :: rest) a w := by
  unfold wpList
  rw [if_pos hw]
  refine .inl ?_
  have he : (execOp a.eval o').run P w = .ok .skip (w.setCell ⟨b, o, none⟩ (.int k v)) := by
    unfold execOp
    simp only [ho, hx, hy]
    have e := run_storeAt_cell (P := P) w b o ty k v hc hf hz
    simp only [Sem.run_bind, e, Result.andThen_ok, Sem.run_pure]
  unfold Oper.wp
  rw [he]
  exact h
end
theorem Has.src {w : World} {b n : Nat} {f : Nat → Int} (h : Has w b .u8 n f) (o len : Nat) (ho : o + len ≤ n) : Src w (some ⟨b, o, none⟩) len (fun j => f (o + j)) := fun j hj => ⟨_, rfl, by rw [Addr.add_mid]; exact h.cell (o + j) (by omega)⟩
theorem Src.congr {w : World} {sp : Option Addr} {len : Nat} {z y : Nat → Int} (h : Src w sp len z) (e : ∀ j, j < len → z j = y j) : Src w sp len y := fun j hj => by
  obtain ⟨ad, h1, h2⟩ := h j hj
  exact ⟨ad, h1, by rw [← e j hj]; exact h2⟩
end Go.Proofs.Yteaamgjlkohfcaa

namespace Go.Proofs.Yteaamgjlkohfcaa
open Go.RowKit

/-- v is a slice of n numbers, made since block 'base'. -/
def Own (w : World) (base : Nat) (e : TypeId) (k : IntKind) (n : Nat) (f : Nat → Int) (v : Value) : Prop := w.ownsRow base e 1 v n (row k n f)

/-- One row behind another. -/
def app (f : Nat → Int) (n : Nat) (h : Nat → Int) : Nat → Int := fun j => if j < n then f j else h (j - n)
theorem row_app (k : IntKind) (n m : Nat) (f h : Nat → Int) : row k n f ++ row k m h = row k (n + m) (app f n h) := by
  unfold row
  rw [List.range_add, List.map_append, List.map_map]
  congr 1
  · refine List.map_congr_left fun j hj => ?_
    unfold app; rw [if_pos (List.mem_range.1 hj)]
  · refine List.map_congr_left fun j hj => ?_
    simp [app]
    omega
theorem Own.congr {w : World} {base : Nat} {e : TypeId} {k : IntKind} {n : Nat} {f g : Nat → Int} {v : Value} (h : Own w base e k n f v) (he : ∀ j, j < n → f j = g j) : Own w base e k n g v := by
  unfold Own at *
  rw [← row_congr k n he]; exact h
theorem grown_of_below {w w' : World} (l : Below w.heap.size w w') : w.grownBy w' none := ⟨l.os, l.tape, l.output, l.size, fun j hj _ => l.block j hj⟩
theorem Own.below {w w' : World} {base : Nat} {e : TypeId} {k : IntKind} {n : Nat} {f : Nat → Int} {v : Value} (h : Own w base e k n f v) (l : Below w.heap.size w w') : Own w' base e k n f v :=
  World.ownsRow.kept h (grown_of_below l) (by cases hv : v.ownBlock <;> simp)
theorem Own.grown {w w' : World} {base : Nat} {e : TypeId} {k : IntKind} {n : Nat} {f : Nat → Int} {v : Value} (h : Own w base e k n f v) {r : Option Nat} (l : w.grownBy w' r) (hr : ∀ g, r = some g → g < base) : Own w' base e k n f v := by
  refine World.ownsRow.kept h l ?_
  cases hv : v.ownBlock with
  | none => exact .inl rfl
  | some g =>
    refine .inr fun e => ?_
    have h1 := (World.ownsRow.lt h g hv).1
    have h2 := hr g e.symm
    omega
theorem Own.drew {w : World} {base : Nat} {e : TypeId} {k : IntKind} {n : Nat} {f : Nat → Int} {v : Value} (h : Own w base e k n f v) : Own w.drew base e k n f v := h.below (Below.refl _ _).drew
theorem Own.alloc {w : World} {base : Nat} {e : TypeId} {k : IntKind} {n : Nat} {f : Nat → Int} {v : Value} (h : Own w base e k n f v) (o : Obj) : Own (w.alloc o) base e k n f v := World.ownsRow.alloc h o
theorem Own.lit (w : World) (base : Nat) (e : TypeId) (k : IntKind) (n : Nat) (f : Nat → Int) (hb : base ≤ w.heap.size) (hn : n ≤ maxLen) : Own (w.alloc (.cells (row k n f).toArray e)) base e k n f (.slice (some ⟨w.heap.size, 0, none⟩) n n) :=
  ⟨by rw [row_length, Nat.mul_one], .inr ⟨w.heap.size, n, _, rfl, hb, heap_alloc_new w _, Nat.le_refl _, hn, by rw [List.size_toArray, row_length, Nat.mul_one], by rw [Nat.mul_one]; exact List.take_of_length_le (by rw [row_length]; exact Nat.le_refl _)⟩⟩
/-- What such a slice is. -/
theorem Own.has {w : World} {base : Nat} {e : TypeId} {k : IntKind} {n : Nat} {f : Nat → Int} {v : Value} (h : Own w base e k n f v) (hn : 0 < n) : ∃ g cap, v = .slice (some ⟨g, 0, none⟩) n cap ∧ base ≤ g ∧ g < w.heap.size ∧ Has w g k n f := by
  have hc := h
  rcases h.2 with ⟨rfl, h0⟩ | ⟨g, cap, cur, rfl, hb, hg, _⟩
  · omega
  · refine ⟨g, cap, rfl, hb, (Array.getElem?_eq_some_iff.1 hg).1, fun j hj => ?_, fun j _ => ?_⟩
    · have := World.ownsRow.cells hc (g := g) rfl j _ (row_get k n f j hj)
      rw [Addr.add_mid, Nat.zero_add] at this
      exact this
    · unfold World.frozen?
      rw [hg]
      simp
theorem Own.isSlice {w : World} {base : Nat} {e : TypeId} {k : IntKind} {n : Nat} {f : Nat → Int} {v : Value} (h : Own w base e k n f v) : ∃ sp cap, v = .slice sp n cap ∧ (sp = none → n = 0) ∧ ∀ j, j < n → ∃ ad, sp = some ad ∧ w.cell? (ad.add j) = some (.int k (f j)) := by
  rcases Nat.eq_zero_or_pos n with h0 | h0
  · subst h0
    rcases h.2 with ⟨rfl, _⟩ | ⟨g, cap, cur, rfl, _⟩
    · exact ⟨_, _, rfl, fun _ => rfl, fun j hj => by omega⟩
    · exact ⟨_, _, rfl, fun _ => rfl, fun j hj => by omega⟩
  · obtain ⟨g, cap, rfl, _, _, hh⟩ := h.has h0
    exact ⟨_, _, rfl, fun e => (by cases e), fun j hj => ⟨_, rfl, by rw [Addr.add_mid, Nat.zero_add]; exact hh.cell j hj⟩⟩
theorem Own.bytes {w : World} {base : Nat} {e : TypeId} {n : Nat} {f : Nat → Int} {v : Value} (h : Own w base e .u8 n f v) : ∃ sp cap, v = .slice sp n cap ∧ n ≤ cap ∧ Src w sp n f := by
  obtain ⟨sp, cap, rfl, _, hs⟩ := h.isSlice
  refine ⟨sp, cap, rfl, ?_, hs⟩
  rcases h.2 with ⟨hv, h0⟩ | ⟨g, cap', cur, hv, _, _, hnc, _⟩
  · omega
  · injection hv with _ _ hc
    omega
theorem Kr.grown {w w' w'' : World} {m : Nat} {l : List (Nat × IntKind × Nat × (Nat → Int))} {R : List (Nat × Nat)} (h : Kr w m l R w') {r : Option Nat} (g : w'.grownBy w'' r) (hr : ∀ b, r = some b → m ≤ b) : Kr w m l R w'' := by
  have hb : Below m w' w'' := ⟨g.os, g.tape, g.output, g.size, fun j hj => g.block j (Nat.lt_of_lt_of_le hj h.size) (fun e => by have := hr j e.symm; omega)⟩
  exact ⟨fun p hp => ⟨(h.rows p hp).1.below hb (h.rows p hp).2, (h.rows p hp).2⟩, fun q hq => ⟨there_below (h.room q hq).1 hb (h.room q hq).2.1, (h.room q hq).2⟩, h.apart, Nat.le_trans h.size g.size, h.base, h.below.trans (hb.mono h.base)⟩
/-- A slice of one's own, among the rows. -/
theorem Kr.own {w w' : World} {m : Nat} {l : List (Nat × IntKind × Nat × (Nat → Int))} {R : List (Nat × Nat)} (h : Kr w m l R w') {g : Nat} {k : IntKind} {n : Nat} {f : Nat → Int} (hg : m ≤ g) (hl : g < w'.heap.size) (hf : Has w' g k n f) : Kr w w'.heap.size ((g, k, n, f) :: l) R w' :=
  ⟨fun p hp => by
    rcases List.mem_cons.1 hp with rfl | hp
    · exact ⟨hf, hl⟩
    · exact ⟨(h.rows p hp).1, Nat.lt_of_lt_of_le (h.rows p hp).2 h.size⟩, fun q hq => ⟨(h.room q hq).1, Nat.lt_of_lt_of_le (h.room q hq).2.1 h.size, (h.room q hq).2.2⟩, fun p hp q hq => by
    rcases List.mem_cons.1 hp with rfl | hp
    · have := (h.room q hq).2.1; simp only; omega
    · exact h.apart p hp q hq, Nat.le_refl _, Nat.le_trans h.base h.size, h.below⟩

section
variable {P : Program}
/-- A type whose values are single numbers. -/
structure One (P : Program) (e : TypeId) (k : IntKind) (bytes : Nat) : Prop where
  info : (P.info? e).map (fun i => (i.zero, i.bytes, i.size)) = some (some (.int k 0), bytes, 1)
theorem run_append_Own {w : World} {base : Nat} {t ty e : TypeId} {k : IntKind} {bytes n : Nat} {f : Nat → Int} {v : Value} (ht : P.underlying t = some (.slice e)) (he : One P e k bytes) (h : Own w base e k n f v)
    (sp : Option Addr) (m c : Nat) (hv : Nat → Int) (hs : ∀ j, j < m → ∃ ad, sp = some ad ∧ w.cell? (ad.add j) = some (.int k (hv j))) (hz : sp = none → c = 0) (h63 : n + m ≤ maxLen) (hb : (n + m) * bytes ≤ 140737488355328) (hbase : base ≤ w.heap.size) :
    ∃ v' w', (Builtin.append_ #[t, t] ty #[v, .slice sp m c]).run P w = .ok v' w' ∧ Own w' base e k (n + m) (app f n hv) v' ∧ w.grownBy w' v.ownBlock ∧ (∀ g, v'.ownBlock = some g → v.ownBlock = some g ∨ g = w.heap.size) := by
  obtain ⟨i, hi, hq⟩ := Option.map_eq_some_iff.1 he.info
  simp only [Prod.mk.injEq] at hq
  obtain ⟨h1, h2, h3⟩ := hq
  cases sp with
  | none =>
    have hm : m = 0 := by
      rcases Nat.eq_zero_or_pos m with h0 | h0
      · exact h0
      · obtain ⟨ad, e, _⟩ := hs 0 h0; cases e
    subst hm
    obtain rfl := hz rfl
    refine ⟨v, w, run_append_owned_none (P := P) (w := w) base t ty e i 1 ht hi v n _ h, h.congr fun j hj => by unfold app; rw [if_pos hj], ⟨rfl, rfl, rfl, Nat.le_refl _, fun _ _ _ => rfl⟩, fun g hg => .inl hg⟩
  | some ad =>
    obtain ⟨v', w', hr, ho, hg, _⟩ := run_append_own (P := P) w base t ty e i (.int k 0) 1 bytes ht hi h1 h3 h2 rfl (by decide) v n _ h ad m c (row k m hv) (by rw [row_length, Nat.mul_one]) (fun j u hu => by
      obtain ⟨hj, rfl⟩ := row_get_some hu
      obtain ⟨ad', e', hc⟩ := hs j hj
      injection e' with e'
      subst e'
      exact hc) (row_one k m hv) h63 hb hbase
    rw [row_app] at ho
    refine ⟨v', w', hr, ho, hg, ?_⟩
    have hnews : ∀ j u, (row k m hv)[j]? = some u → w.cell? (ad.add j) = some u := fun j u hu => by
      obtain ⟨hj, rfl⟩ := row_get_some hu
      obtain ⟨ad', e', hc⟩ := hs j hj
      injection e' with e'
      subst e'
      exact hc
    have hml : (row k m hv).length = m * i.size := by rw [row_length, h3, Nat.mul_one]
    rcases h.2 with ⟨rfl, rfl⟩ | ⟨g, cap, cur, rfl, hbg, hgg, hnc, hcm, hcs, htake⟩
    · by_cases hm : m = 0
      · subst hm
        have hr2 : (Builtin.append_ #[t, t] ty #[.slice none 0 0, .slice (some ad) 0 c]).run P w = .ok (.slice none 0 0) w := by
          simp [Builtin.append_, run_underlying ht, sizeOf, typeInfo, hi, Builtin.lenOf, Builtin.firstCells, loadCells, loadCellsFrom]
        rw [hr] at hr2
        injection hr2 with hv' _
        rw [hv']
        intro g hg'
        cases hg'
      · have hr2 := run_append_nil (P := P) w t ty e i (.int k 0) ht hi h1 ad m c (row k m hv) hml hnews (by omega) (by unfold maxLen at h63; omega) (by rw [h2]; have := hb; simp only [Nat.zero_add] at this; omega)
        rw [hr] at hr2
        injection hr2 with hv' _
        rw [hv']
        intro g hg'
        injection hg' with hg'
        exact .inr hg'.symm
    · by_cases hroom : n + m ≤ cap
      · have hr2 := run_append_room (P := P) w t ty e i ht hi g n cap cur hgg ad m c (row k m hv) hml hnews (row_one k m hv) hroom (by rw [hml, hcs, h3]; omega)
        rw [hr] at hr2
        injection hr2 with hv' _
        rw [hv']
        intro g' hg'
        exact .inl hg'
      · have hr2 := run_append_grow (P := P) w t ty e i (.int k 0) ht hi h1 ⟨g, 0, none⟩ n cap (row k n f) (by rw [row_length, h3, Nat.mul_one]) (World.ownsRow.cells h (g := g) rfl) ad m c (row k m hv) hml hnews (by omega) (by unfold maxLen at h63; omega) (by rw [h2]; exact growslice_fits (by omega) hb)
        rw [hr] at hr2
        injection hr2 with hv' _
        rw [hv']
        intro g' hg'
        injection hg' with hg'
        exact .inr hg'.symm
theorem appendOp {o : Oper} {a : Act} {w w' : World} (s x : Operand) (t : TypeId) (v u r : Value) (ho : o.op = .call { callee := .builtin .append, args := #[s, x], argTypes := #[t, t] }) (hs : a.eval s = v) (hx : a.eval x = u) (hr : (Builtin.append_ #[t, t] o.type #[v, u]).run P w = .ok r w') :
    (execOp a.eval o).run P w = .ok (.value r) w' := by
  unfold execOp
  simp only [ho, resolve, invoke, builtin, Sem.run_bind, Sem.run_pure, Result.andThen_ok, List.map_toArray, List.map_cons, List.map_nil, hs, hx, hr]
end
end Go.Proofs.Yteaamgjlkohfcaa

namespace Go.Proofs.Yteaamgjlkohfcaa
open Go.RowKit

theorem one8 : One Try.prog 5 .u8 1 := ⟨by kernel_rfl⟩
end Go.Proofs.Yteaamgjlkohfcaa

namespace Go.Proofs.Yteaamgjlkohfcaa
open Go.RowKit

theorem Below.grown {B : Nat} {w w1 w2 : World} (l : Below B w w1) {r : Option Nat} (g : w1.grownBy w2 r) (hB : B ≤ w1.heap.size) (hr : ∀ b, r = some b → B ≤ b) : Below B w w2 :=
  ⟨g.os.trans l.os, g.tape.trans l.tape, g.output.trans l.output, Nat.le_trans l.size g.size, fun j hj => (g.block j (Nat.lt_of_lt_of_le hj hB) (fun e => by have := hr j e.symm; omega)).trans (l.block j hj)⟩
theorem Has.grown {w w' : World} {b : Nat} {k : IntKind} {n : Nat} {f : Nat → Int} (h : Has w b k n f) {r : Option Nat} (g : w.grownBy w' r) (hb : b < w.heap.size) (hne : some b ≠ r) : Has w' b k n f :=
  ⟨fun j hj => by rw [World.cell?_of_block (a := ⟨b, j, none⟩) (g.block b hb hne)]; exact h.cell j hj, fun j hj => by rw [World.frozen?_of_block (a := ⟨b, j, none⟩) (g.block b hb hne)]; exact h.free j hj⟩
/-- A byte more. -/
theorem Own.more8 {w' : World} {base m : Nat} {f : Nat → Int} {s : Value} (h : Own w' base 5 .u8 m f s) (hm : m < 140737488355328) (x : Int) (hx : f m = x) (ty : TypeId) (hb : base ≤ w'.heap.size) :
    ∃ v w'', (Builtin.append_ #[23, 23] ty #[s, .slice (some ⟨w'.heap.size, 0, none⟩) 1 1]).run Try.prog (w'.alloc (.cells #[.int .u8 x] 5)) = .ok v w'' ∧ Own w'' base 5 .u8 (m + 1) f v ∧ (w'.alloc (.cells #[.int .u8 x] 5)).grownBy w'' s.ownBlock := by
  have H1 := Has.new w' .u8 1 (fun _ => x) 5 w'.heap.size rfl
  obtain ⟨v, w'', hr, ho, hg, _⟩ := run_append_Own (P := Try.prog) (ty := ty) Try.underlying23 one8 (h.alloc (.cells (row .u8 1 (fun _ => x)).toArray 5)) (some ⟨w'.heap.size, 0, none⟩) 1 1 (fun _ => x) (fun j hj => ⟨_, rfl, by rw [Addr.add_mid, Nat.zero_add]; exact H1.cell j hj⟩) (fun e => by cases e) (by unfold maxLen; omega) (by omega) (by simp; omega)
  refine ⟨v, w'', hr, ho.congr fun j hj => ?_, hg⟩
  unfold app
  by_cases e : j < m
  · rw [if_pos e]
  · rw [if_neg e, ← hx, show j = m by omega]
def slen : Value → Nat
  | .slice _ n _ => n
  | _ => 0
theorem Own.nilCap {w : World} {base : Nat} {e : TypeId} {k : IntKind} {n : Nat} {f : Nat → Int} {sp : Option Addr} {c : Nat} (h : Own w base e k n f (.slice sp n c)) : sp = none → c = 0 := fun e => by
  rcases h.2 with ⟨hv, _⟩ | ⟨g, cap, cur, hv, _⟩
  · injection hv
  · injection hv with hv _ _
    rw [e] at hv
    cases hv
theorem Own.lower {w : World} {base base' : Nat} {e : TypeId} {k : IntKind} {n : Nat} {f : Nat → Int} {v : Value} (h : Own w base e k n f v) (hb : base' ≤ base) : Own w base' e k n f v := by
  refine ⟨h.1, ?_⟩
  rcases h.2 with h2 | ⟨g, cap, cur, h1, h2, h3⟩
  · exact .inl h2
  · exact .inr ⟨g, cap, cur, h1, Nat.le_trans hb h2, h3⟩
theorem Own.le {w : World} {base : Nat} {e : TypeId} {k : IntKind} {n : Nat} {f : Nat → Int} {sp : Option Addr} {c : Nat} (h : Own w base e k n f (.slice sp n c)) : n ≤ c := by
  rcases h.2 with ⟨hv, h0⟩ | ⟨g, cap, cur, hv, _, _, hc, _⟩
  · omega
  · injection hv with _ _ hc2
    omega
end Go.Proofs.Yteaamgjlkohfcaa

namespace Go.Proofs.Yteaamgjlkohfcaa
open Go.RowKit

theorem neq_rows {P : Program} (w : World) (t e : TypeId) (n : Nat) (ht : P.underlying t = some (.array n e)) (he : P.underlying e = some (.int .u8)) (hsz : ∀ w, (sizeOf e).run P w = .ok 1 w) (f g : Nat → Int) (hf : In 256 n f) (hg : In 256 n g) :
    (binOp .neq t (.agg (row .u8 n f).toArray) (.agg (row .u8 n g).toArray)).run P w = .ok (.bool (!decide (val 256 f n = val 256 g n))) w := by
  rw [row_bytes n f hf, row_bytes n g hg, run_neq_struct, run_equalIn_bytes w 9998 t e n ht he hsz _ _ (by simp [bytesOf]) (by simp [bytesOf]), bytesOf_inj n f g hf hg]
  rfl
theorem neqV {P : Program} {o : Oper} {a : Act} (n : Nat) (f g : Nat → Int) (t e t' : TypeId) (x y : Operand) (ho : o.op = .binOp .neq t x y t') (hx : a.eval x = .agg (row .u8 n f).toArray) (hy : a.eval y = .agg (row .u8 n g).toArray)
    (ht : P.underlying t = some (.array n e)) (he : P.underlying e = some (.int .u8)) (hsz : ∀ w, (sizeOf e).run P w = .ok 1 w) (hm : P.eqGuardType P.depth t = false) (hf : In 256 n f) (hg : In 256 n g) (r : Bool) (hr : (!decide (val 256 f n = val 256 g n)) = r) (w : World) :
    (execOp a.eval o).run P w = .ok (.value (.bool r)) w := by
  unfold execOp
  simp only [ho, hx, hy, Sem.run_bind, run_eqGuard_agg w .neq t x y _ _ hm, Result.andThen_ok, neq_rows w t e n ht he hsz f g hf hg, Sem.run_pure, hr]
theorem there_grown {w w' : World} {B n : Nat} {r : Option Nat} (h : w.there B 0 n) (g : w.grownBy w' r) (hb : B < w.heap.size) (hne : r ≠ some B) : w'.there B 0 n := fun j hj => by
  have e := g.block B hb (fun e => hne e.symm)
  have := h j hj
  rw [World.cell?_of_block (a := ⟨B, 0 + j, none⟩) e, World.frozen?_of_block (a := ⟨B, 0 + j, none⟩) e]
  exact this
theorem Fb.grown {n w0 B : Nat} {w w' : World} {r : Option Nat} (h : Fb n w0 B w) (g : w.grownBy w' r) (hne : r ≠ some B) : Fb n w0 B w' := ⟨h.lo, Nat.lt_of_lt_of_le h.hi g.size, there_grown h.th g h.hi hne⟩
theorem Src.grown {w w' : World} {p n : Nat} {f : Nat → Int} {r : Option Nat} (h : Src w (some ⟨p, 0, Option.none⟩) n f) (g : w.grownBy w' r) (hp : p < w.heap.size) (hne : r ≠ some p) : Src w' (some ⟨p, 0, Option.none⟩) n f := fun j hj => by
  obtain ⟨ad, e, hc⟩ := h j hj
  injection e with e
  subst e
  refine ⟨_, rfl, ?_⟩
  rw [Addr.add_mid] at hc ⊢
  rw [World.cell?_of_block (a := ⟨p, 0 + j, Option.none⟩) (g.block p hp (fun e => hne e.symm))]
  exact hc
section
variable {P : Program} {ops : Array Oper} {Q : Exit → Act → World → Prop} {md : Region.Mode} {S : World → Prop}
theorem skipL {o : Oper} {rest : List Oper} {a : Act} {w : World} (hw : Region.wanted o (yielded ops a.tmps) = false) (h : wpList P ops Q rest (a.put o.dst undef) w) : wpList P ops Q (o :: rest) a w := by
  unfold wpList
  rw [if_neg (by rw [hw]; decide)]
  exact h
/-- Two operations, either of which may come first. -/
theorem twoH (i j : Nat) {fuel : Nat} {listed : Array Bool} {a : Act} {w : World} (hr : Region.ready md ops listed = [i, j])
    (hi : wpOp P ops Q i (fun a' w' => S w' ∧ wpAnyH P md ops Q S fuel (listed.setIfInBounds i true) a' w') a w) (hj : wpOp P ops Q j (fun a' w' => S w' ∧ wpAnyH P md ops Q S fuel (listed.setIfInBounds j true) a' w') a w) : wpAnyH P md ops Q S (fuel + 1) listed a w :=
  ⟨fun h0 => (by rw [h0] at hr; cases hr), fun q hq => by
    rw [hr] at hq
    rcases List.mem_cons.1 hq with rfl | hq
    · exact hi
    · obtain rfl := List.mem_singleton.1 hq
      exact hj⟩
end
end Go.Proofs.Yteaamgjlkohfcaa

namespace Go.Proofs.Yteaamgjlkohfcaa
open Go.RowKit

theorem Src.none {w : World} {sp : Option Addr} {len : Nat} {z : Nat → Int} (h : Src w sp len z) : sp = none → len = 0 := fun e => by
  rcases Nat.eq_zero_or_pos len with h0 | h0
  · exact h0
  · obtain ⟨ad, he, _⟩ := h 0 h0
    rw [e] at he
    cases he

section
variable {P : Program} {o : Oper} {a : Act}
end
end Go.Proofs.Yteaamgjlkohfcaa

namespace Go.Proofs.Yteaamgjlkohfcaa
open Go.RowKit

section
variable {P : Program} {o : Oper} {a : Act}
theorem shlI (k yk : IntKind) (n y r : Int) (t t' : TypeId) (x x' : Operand) (ho : o.op = .binOp .shl t x x' t') (hx : a.eval x = .int k n) (hy : a.eval x' = .int yk y) (h0 : 0 ≤ y) (hr : k.wrap (n * 2 ^ min y.toNat k.bits) = r) (w : World) : (execOp a.eval o).run P w = .ok (.value (.int k r)) w := by
  unfold execOp
  simp only [ho, hx, hy, Sem.run_bind, eqGuard_at_int, binOp_shl, shift_shl_any k yk n y h0, Sem.run_pure, Result.andThen_ok, hr]
theorem vandI (k : IntKind) (n n' r : Int) (t t' : TypeId) (x y : Operand) (ho : o.op = .binOp .and t x y t') (hx : a.eval x = .int k n) (hy : a.eval y = .int k n') (hr : bits .and k n n' = r) (w : World) : (execOp a.eval o).run P w = .ok (.value (.int k r)) w := by
  unfold execOp
  simp only [ho, hx, hy, Sem.run_bind, eqGuard_at_int, binOp_and, intBits_and, Sem.run_pure, Result.andThen_ok, hr]
theorem vorI (k : IntKind) (n n' r : Int) (t t' : TypeId) (x y : Operand) (ho : o.op = .binOp .or t x y t') (hx : a.eval x = .int k n) (hy : a.eval y = .int k n') (hr : bits .or k n n' = r) (w : World) : (execOp a.eval o).run P w = .ok (.value (.int k r)) w := by
  unfold execOp
  simp only [ho, hx, hy, Sem.run_bind, eqGuard_at_int, binOp_or, intBits_or, Sem.run_pure, Result.andThen_ok, hr]
theorem gtrI (k : IntKind) (n n' : Int) (t t' : TypeId) (x y : Operand) (ho : o.op = .binOp .gtr t x y t') (hx : a.eval x = .int k n) (hy : a.eval y = .int k n') (r : Bool) (hr : decide (n > n') = r) (w : World) : (execOp a.eval o).run P w = .ok (.value (.bool r)) w := by
  unfold execOp
  simp only [ho, hx, hy, Sem.run_bind, eqGuard_at_int, binOp_gtr, Sem.run_pure, Result.andThen_ok, hr]
theorem geqI (k : IntKind) (n n' : Int) (t t' : TypeId) (x y : Operand) (ho : o.op = .binOp .geq t x y t') (hx : a.eval x = .int k n) (hy : a.eval y = .int k n') (r : Bool) (hr : decide (n ≥ n') = r) (w : World) : (execOp a.eval o).run P w = .ok (.value (.bool r)) w := by
  unfold execOp
  simp only [ho, hx, hy, Sem.run_bind, eqGuard_at_int, binOp_geq, Sem.run_pure, Result.andThen_ok, hr]
end
theorem loadAny {P : Program} {o : Oper} {a : Act} {w : World} (ty : TypeId) (k : IntKind) (x : Operand) (p : Addr) (v : Value) (ho : o.op = .load ty x) (hx : a.eval x = .pointer (some p)) (hu : P.underlying ty = some (.int k)) (hc : w.cell? p = some v) : (execOp a.eval o).run P w = .ok (.value v) w := by
  have hagg : (isAgg ty).run P w = .ok false w := by
    unfold isAgg
    rw [Sem.run_bind, run_underlying hu w]
    rfl
  have e : (loadVar ty p).run P w = .ok v w := by simp [loadVar, Sem.run_bind, hagg, hc]
  unfold execOp
  simp only [ho, hx, Instr.loadAt, Instr.sureAddr, Sem.run_bind, Sem.run_pure, Result.andThen_ok, e]
theorem cut_loN {P : Program} {t : TypeId} (ht : P.underlying t = some (.slice (P.elem t))) (hsz : ∀ w, (sizeOf (P.elem t)).run P w = .ok 1 w) (sp : Option Addr) (len cap m : Nat) (hm : m ≤ len) (hc : len ≤ cap) (hn : sp = none → cap = 0) :
    ∃ sp', (∀ w, (Instr.sliceAt t (.slice sp len cap) (some (.int .i64 (m : Int))) none none).run P w = .ok (.slice sp' (len - m) (cap - m)) w) ∧ (∀ w z, Src w sp len z → Src w sp' (len - m) (fun j => z (m + j))) ∧ (sp' = none → cap - m = 0) := by
  refine ⟨if cap = m then sp else sp.map (·.add (m * 1)), fun w => ?_, fun w z h j hj => ?_, fun e => ?_⟩
  · rw [run_sliceAt_slice w t _ _ _ _ ht, run_slice_l w t sp len cap ht .i64 (m : Int) (by omega) (by omega), hsz]
    simp only [Result.andThen, sliced, Int.toNat_natCast]
  · obtain ⟨ad, rfl, hc'⟩ := h (m + j) (by omega)
    rw [if_neg (by omega)]
    exact ⟨ad.add (m * 1), rfl, by rw [Nat.mul_one, Addr.add_add]; exact hc'⟩
  · by_cases hm : cap = m
    · omega
    · rw [if_neg hm] at e
      cases sp with
      | none => have := hn rfl; omega
      | some ad => cases e
theorem cut_hiN {P : Program} {t : TypeId} (ht : P.underlying t = some (.slice (P.elem t))) (hsz : ∀ w, (sizeOf (P.elem t)).run P w = .ok 1 w) (sp : Option Addr) (len cap m : Nat) (hm : m ≤ len) (hc : len ≤ cap) (hn : sp = none → cap = 0) :
    ∃ sp', (∀ w, (Instr.sliceAt t (.slice sp len cap) none (some (.int .i64 (m : Int))) none).run P w = .ok (.slice sp' m cap) w) ∧ (∀ w z, Src w sp len z → Src w sp' m z) ∧ (sp' = none → cap = 0) := by
  refine ⟨if cap = 0 then sp else sp.map (·.add (0 * 1)), fun w => ?_, fun w z h j hj => ?_, fun e => ?_⟩
  · rw [run_sliceAt_slice w t _ _ _ _ ht, run_slice_h w t sp len cap ht .i64 (m : Int) (by omega) (by omega), hsz]
    simp only [Result.andThen, sliced, Int.toNat_natCast, Nat.sub_zero]
  · obtain ⟨ad, rfl, hc'⟩ := h j (by omega)
    rw [if_neg (by omega)]
    exact ⟨ad.add (0 * 1), rfl, by rw [Nat.zero_mul, Addr.add_add, Nat.zero_add]; exact hc'⟩
  · by_cases hm : cap = 0
    · exact hm
    · rw [if_neg hm] at e
      cases sp with
      | none => exact hn rfl
      | some ad => cases e
theorem shl_one (m : Nat) (h : m ≤ 3) : IntKind.i64.wrap (1 * 2 ^ min ((m : Nat) : Int).toNat IntKind.i64.bits) = ((2 ^ m : Nat) : Int) := by
  have : m = 0 ∨ m = 1 ∨ m = 2 ∨ m = 3 := by omega
  rcases this with rfl | rfl | rfl | rfl <;> decide
theorem shr_byte (n e : Nat) (he : e ≤ 7) : (n : Int) / 2 ^ min ((8 * e : Nat) : Int).toNat IntKind.i64.bits = ((n / 256 ^ e : Nat) : Int) := by
  have h1 : min ((8 * e : Nat) : Int).toNat IntKind.i64.bits = 8 * e := by
    show min ((8 * e : Nat) : Int).toNat 64 = 8 * e
    omega
  rw [h1, show (2 : Int) ^ (8 * e) = ((256 ^ e : Nat) : Int) by rw [show (256 : Nat) = 2 ^ 8 from rfl, ← Nat.pow_mul]; norm_cast]
  norm_cast
theorem i64_and255 (n : Int) : bits .and .i64 n 255 = n % 256 := by
  have h255 : (BitVec.ofInt 64 255).toNat = 2 ^ 8 - 1 := by decide
  have key : (BitVec.ofInt 64 n &&& BitVec.ofInt 64 255).toNat = (n % ((2 ^ 64 : Nat) : Int)).toNat % 2 ^ 8 := by
    rw [BitVec.toNat_and, BitVec.toNat_ofInt, h255, Nat.and_two_pow_sub_one_eq_mod]
  show IntKind.i64.wrap ((BitVec.ofInt 64 n &&& BitVec.ofInt 64 255).toNat : Nat) = n % 256
  rw [key, IntKind.wrap_i64]
  omega
end Go.Proofs.Yteaamgjlkohfcaa

namespace Go.Proofs.Yteaamgjlkohfcaa
open Go.RowKit

section
variable {P : Program} {ops : Array Oper} {Q : Exit → Act → World → Prop} {md : Region.Mode} {S : World → Prop}
/-- An operation that is done if c. -/
theorem mayL {o : Oper} {rest : List Oper} {a : Act} {w : World} (c : Bool) (v x : Value) (hc : Region.wanted o (yielded ops a.tmps) = c) (hx : x = (bif c then v else undef)) (hv : c = true → (execOp a.eval o).run P w = .ok (.value v) w)
    (h : wpList P ops Q rest (a.put o.dst x) w) : wpList P ops Q (o :: rest) a w := by
  subst hx
  unfold wpList
  rw [hc]
  cases c with
  | true =>
    rw [if_pos rfl]
    refine .inl ?_
    unfold Oper.wp
    rw [hv rfl]
    exact h
  | false =>
    rw [if_neg (by decide)]
    exact h
/-- A call that is done if c. -/
theorem mayCallL {o : Oper} {rest : List Oper} {a : Act} {w : World} (c : Bool) (v x : Value) (f : FuncId) (args : Array Value) (hc : Region.wanted o (yielded ops a.tmps) = c) (hx : x = (bif c then v else undef))
    (he : c = true → ∀ w, (execOp a.eval o).run P w = .ok (.enter f args) w) (hC : c = true → Calls P f args w fun e w' => e = .returned v ∧ Below w.heap.size w w')
    (h : ∀ w', Below w.heap.size w w' → wpList P ops Q rest (a.put o.dst x) w') : wpList P ops Q (o :: rest) a w := by
  subst hx
  unfold wpList
  rw [hc]
  cases c with
  | true =>
    rw [if_pos rfl]
    refine .inl ?_
    unfold Oper.wp
    rw [he rfl w]
    refine (hC rfl).mono fun e w' hR => ?_
    obtain ⟨rfl, l⟩ := hR
    exact h w' l
  | false =>
    rw [if_neg (by decide)]
    exact h w (Below.refl _ _)
theorem mayH {i : Nat} {oi : Oper} (dst : Option Tmp) (hdst : oi.dst = dst) {fuel : Nat} {listed : Array Bool} {a : Act} {w : World} (c : Bool) (v x : Value) (hi : ops[i]? = some oi) (hc : Region.wanted oi (yielded ops a.tmps) = c) (hx : x = (bif c then v else undef))
    (hv : c = true → ∀ w, S w → (execOp a.eval oi).run P w = .ok (.value v) w)
    (hs : Region.noSelect ops = true) (hf : Region.free md ops listed i = true) (hr : (Region.ready md ops listed).contains i = true)
    (hQ : ∀ c a w, Q (.panic c) (a.put dst x) w → Q (.panic c) a w) (hS : S w)
    (h : wpAnyH P md ops Q S fuel (listed.setIfInBounds i true) (a.put dst x) w) : wpAnyH P md ops Q S (fuel + 1) listed a w := by
  subst hdst
  refine wpAnyH_take hi hs hf hr hQ ?_ hS h
  subst hx
  cases c with
  | true => exact .inl ⟨hc, hv rfl⟩
  | false => exact .inr ⟨hc, rfl⟩
/-- What only one operation may do, a skip. -/
theorem storeAny {o : Oper} {a : Act} {w : World} (v : Value) (b j : Nat) (ty : TypeId) (x y : Operand) (ho : o.op = .store ty x y) (hx : a.eval x = .pointer (some ⟨b, j, none⟩)) (hy : a.eval y = v) (hv : v.cells = #[v]) (h1 : v.oneCell' = true)
    (hc : (w.cell? ⟨b, j, none⟩).isSome = true) (hf : w.frozen? ⟨b, j, none⟩ = false) (hz : (P.info? ty).map (·.size) = some 1) : (execOp a.eval o).run P w = .ok .skip (w.setCell ⟨b, j, none⟩ v) := by
  have h0 : ∀ k : Nat, k < [v].length → k = 0 := fun k hk => by simpa using hk
  have hst := run_storeCells_cells (P := P) b j [v] 0 w (fun k hk => by rw [h0 k hk]; simpa using hc) (fun k hk => by rw [h0 k hk]; simpa using hf) (fun u hu => by simp at hu; subst hu; exact h1)
  cases hq : P.info? ty with
  | none => simp [hq] at hz
  | some i =>
    have hs : i.size = 1 := by simp [hq] at hz; omega
    simp only [Nat.add_zero] at hst
    have e : (storeVar ty ⟨b, j, none⟩ v).run P w = .ok () (w.setCell ⟨b, j, none⟩ v) := by
      simp [storeVar, sizeOf, typeInfo, hq, hv, hs, hst, World.setCells]
    unfold execOp
    simp only [ho, hx, hy, Instr.storeAt, Instr.sureAddr, Sem.run_bind, Sem.run_pure, Result.andThen_ok, e]
theorem skipOpL {o : Oper} {rest : List Oper} {a : Act} {w w' : World} (hw : Region.wanted o (yielded ops a.tmps) = true) (he : (execOp a.eval o).run P w = .ok .skip w') (h : wpList P ops Q rest (a.put o.dst undef) w') : wpList P ops Q (o :: rest) a w := by
  unfold wpList
  rw [if_pos hw]
  refine .inl ?_
  unfold Oper.wp
  rw [he]
  exact h
/-- One cell is loaded, wherever it lies, whatever is in it; several. -/
theorem load1 {o : Oper} {a : Act} {w : World} (ty : TypeId) (x : Operand) (p : Addr) (v : Value) (ho : o.op = .load ty x) (hx : a.eval x = .pointer (some p)) (hagg : ∀ w, (isAgg ty).run P w = .ok false w) (hc : w.cell? p = some v) : (execOp a.eval o).run P w = .ok (.value v) w := by
  have e : (loadVar ty p).run P w = .ok v w := by simp [loadVar, Sem.run_bind, hagg, hc]
  unfold execOp
  simp only [ho, hx, Instr.loadAt, Instr.sureAddr, Sem.run_bind, Sem.run_pure, Result.andThen_ok, e]
theorem loadN {o : Oper} {a : Act} {w : World} (ty : TypeId) (x : Operand) (p : Addr) (cs : List Value) (ho : o.op = .load ty x) (hx : a.eval x = .pointer (some p)) (hagg : ∀ w, (isAgg ty).run P w = .ok true w) (hz : ∀ w, (sizeOf ty).run P w = .ok cs.length w)
    (hc : ∀ j v, cs[j]? = some v → w.cell? (p.add j) = some v) : (execOp a.eval o).run P w = .ok (.value (.agg cs.toArray)) w := by
  have e : (loadVar ty p).run P w = .ok (.agg cs.toArray) w := by simp [loadVar, Sem.run_bind, hagg, hz, run_loadCells_list w p cs hc]
  unfold execOp
  simp only [ho, hx, Instr.loadAt, Instr.sureAddr, Sem.run_bind, Sem.run_pure, Result.andThen_ok, e]
end

theorem Own.src {w : World} {base : Nat} {e : TypeId} {n : Nat} {f : Nat → Int} {sp : Option Addr} {c : Nat} (h : Own w base e .u8 n f (.slice sp n c)) : Src w sp n f := by
  obtain ⟨sp', c', e, _, hs⟩ := h.bytes
  injection e with e1 _ _
  subst e1
  exact hs
/-- Blocks of one's own, with what is in them; what stood in w0 stands. -/
structure Mm (w0 : World) (l : List (Nat × List Value)) (w : World) : Prop where
  rows : ∀ p ∈ l, (∀ j, j < p.2.length → w.cell? ⟨p.1, j, none⟩ = p.2[j]? ∧ w.frozen? ⟨p.1, j, none⟩ = false) ∧ w0.heap.size ≤ p.1 ∧ p.1 < w.heap.size
  apart : l.Pairwise fun p q => p.1 ≠ q.1
  below : Below w0.heap.size w0 w
section
variable {w0 w w' : World} {l : List (Nat × List Value)}
theorem Mm.init (w : World) : Mm w [] w := ⟨fun _ h => (by cases h), List.Pairwise.nil, Below.refl _ _⟩
theorem Mm.of (b : Below w0.heap.size w0 w) : Mm w0 [] w := ⟨fun _ h => (by cases h), List.Pairwise.nil, b⟩
theorem Mm.call (h : Mm w0 l w) (b : Below w.heap.size w w') : Mm w0 l w' :=
  ⟨fun p hp => ⟨fun j hj => by
    have hlt := (h.rows p hp).2.2
    rw [b.cell (p := ⟨p.1, j, none⟩) hlt, b.frozen (p := ⟨p.1, j, none⟩) hlt]
    exact (h.rows p hp).1 j hj, (h.rows p hp).2.1, Nat.lt_of_lt_of_le (h.rows p hp).2.2 b.size⟩, h.apart, h.below.trans (b.mono h.below.size)⟩
theorem Mm.drew (h : Mm w0 l w) : Mm w0 l w.drew := h.call (Below.refl _ _).drew
theorem Mm.sub (h : Mm w0 l w) (l' : List (Nat × List Value)) (hl : l'.Sublist l) : Mm w0 l' w := ⟨fun p hp => h.rows p (hl.subset hp), h.apart.sublist hl, h.below⟩
theorem Mm.tail {p : Nat × List Value} (h : Mm w0 (p :: l) w) : Mm w0 l w := h.sub l (List.sublist_cons_self p l)
theorem Mm.box (h : Mm w0 l w) (c : Array Value) (t : TypeId) (b : Nat) (hb : b = w.heap.size) : Mm w0 ((b, c.toList) :: l) (w.alloc (.cells c t)) := by
  subst hb
  have hc := h.call ((Below.refl w.heap.size w).alloc (Nat.le_refl _) (.cells c t))
  refine ⟨fun p hp => ?_, List.pairwise_cons.2 ⟨fun q hq e => ?_, h.apart⟩, hc.below⟩
  · rcases List.mem_cons.1 hp with rfl | hp
    · refine ⟨fun j hj => ⟨?_, World.frozen?_alloc_at _ _ _ _ rfl⟩, h.below.size, by simp⟩
      rw [World.cell?_alloc_at _ _ _ _ rfl]
      simp
    · exact hc.rows p hp
  · have := (h.rows q hq).2.2
    simp only at e
    omega
theorem Mm.get (h : Mm w0 l w) {b : Nat} {cs : List Value} (hp : (b, cs) ∈ l) (j : Nat) (v : Value) (hv : cs[j]? = some v) : w.cell? ⟨b, j, none⟩ = some v := by
  have hj : j < cs.length := by
    rcases Nat.lt_or_ge j cs.length with h' | h'
    · exact h'
    · rw [List.getElem?_eq_none h'] at hv; cases hv
  rw [((h.rows _ hp).1 j hj).1, hv]
theorem Mm.isSome (h : Mm w0 l w) {b : Nat} {cs : List Value} (hp : (b, cs) ∈ l) (j : Nat) (hj : j < cs.length) : (w.cell? ⟨b, j, none⟩).isSome = true := by
  rw [((h.rows _ hp).1 j hj).1, List.getElem?_eq_getElem hj]
  rfl
theorem Mm.free (h : Mm w0 l w) {b : Nat} {cs : List Value} (hp : (b, cs) ∈ l) (j : Nat) (hj : j < cs.length) : w.frozen? ⟨b, j, none⟩ = false := ((h.rows _ hp).1 j hj).2
theorem Mm.rangeAt (h : Mm w0 l w) {b : Nat} {cs : List Value} (hp : (b, cs) ∈ l) : ∀ j v, cs[j]? = some v → w.cell? ((⟨b, 0, none⟩ : Addr).add j) = some v := fun j v hv => by
  rw [Addr.add_mid, Nat.zero_add]
  exact h.get hp j v hv
theorem Mm.part (h : Mm w0 l w) {b : Nat} {cs : List Value} (hp : (b, cs) ∈ l) (o : Nat) (ds : List Value) (hd : (cs.drop o).take ds.length = ds) : ∀ j v, ds[j]? = some v → w.cell? ((⟨b, o, none⟩ : Addr).add j) = some v := fun j v hv => by
  rw [Addr.add_mid]
  refine h.get hp (o + j) v ?_
  have hj : j < ds.length := by
    rcases Nat.lt_or_ge j ds.length with h' | h'
    · exact h'
    · rw [List.getElem?_eq_none h'] at hv; cases hv
  rw [← hd, List.getElem?_take, if_pos hj, List.getElem?_drop] at hv
  exact hv
theorem size_setCell (w : World) (p : Addr) (v : Value) : (w.setCell p v).heap.size = w.heap.size := by simp
/-- One cell of the first block is stored. -/
theorem Mm.set {b : Nat} {cs : List Value} (h : Mm w0 ((b, cs) :: l) w) (j : Nat) (hj : j < cs.length) (v : Value) : Mm w0 ((b, cs.set j v) :: l) (w.setCell ⟨b, j, none⟩ v) := by
  have hb := h.rows _ List.mem_cons_self
  have hne := (List.pairwise_cons.1 h.apart).1
  refine ⟨fun p hp => ?_, List.pairwise_cons.2 ⟨hne, (List.pairwise_cons.1 h.apart).2⟩, below_setAll h.below b hb.2.1 j [v]⟩
  rcases List.mem_cons.1 hp with rfl | hp
  · refine ⟨fun i hi => ⟨?_, by rw [World.frozen?_setCell]; exact (hb.1 i (by simpa using hi)).2⟩, hb.2.1, by rw [size_setCell]; exact hb.2.2⟩
    simp only [List.length_set] at hi
    by_cases e : i = j
    · subst e
      rw [World.cell?_setCell_same' _ _ _ (h.isSome List.mem_cons_self i hj), List.getElem?_set_self hj]
    · have e2 := World.cell?_setCell_other (w := w) (v := v) (a := ⟨b, j, none⟩) (b := ⟨b, i, none⟩) (by intro e'; injection e' with _ e'; exact e e'.symm)
      simp only
      rw [e2, List.getElem?_set_ne (Ne.symm e)]
      exact (hb.1 i hi).1
  · have h2 := h.rows p (List.mem_cons_of_mem _ hp)
    refine ⟨fun i hi => ⟨?_, by rw [World.frozen?_setCell]; exact (h2.1 i hi).2⟩, h2.2.1, by rw [size_setCell]; exact h2.2.2⟩
    rw [World.cell?_setCell_far _ _ _ _ (hne p hp)]
    exact (h2.1 i hi).1
/-- The blocks in another order. -/
theorem Mm.swap {p q : Nat × List Value} (h : Mm w0 (p :: q :: l) w) : Mm w0 (q :: p :: l) w := by
  obtain ⟨h1, h2⟩ := List.pairwise_cons.1 h.apart
  obtain ⟨h3, h4⟩ := List.pairwise_cons.1 h2
  refine ⟨fun x hx => h.rows x ?_, List.pairwise_cons.2 ⟨fun x hx => ?_, List.pairwise_cons.2 ⟨fun x hx => h1 x (List.mem_cons_of_mem _ hx), h4⟩⟩, h.below⟩
  · rcases List.mem_cons.1 hx with rfl | hx
    · exact List.mem_cons_of_mem _ List.mem_cons_self
    · rcases List.mem_cons.1 hx with rfl | hx
      · exact List.mem_cons_self
      · exact List.mem_cons_of_mem _ (List.mem_cons_of_mem _ hx)
  · rcases List.mem_cons.1 hx with rfl | hx
    · exact (h1 q List.mem_cons_self).symm
    · exact h3 x hx
theorem Mm.grown (h : Mm w0 l w) {r : Option Nat} (g : w.grownBy w' r) (m : Nat) (hm : ∀ p ∈ l, p.1 < m) (h0 : w0.heap.size ≤ m) (hz : m ≤ w.heap.size) (hr : ∀ b, r = some b → m ≤ b) : Mm w0 l w' := by
  have hb : Below m w w' := ⟨g.os, g.tape, g.output, g.size, fun j hj => g.block j (Nat.lt_of_lt_of_le hj hz) (fun e => by have := hr j e.symm; omega)⟩
  exact ⟨fun p hp => ⟨fun j hj => by
    rw [hb.cell (p := ⟨p.1, j, none⟩) (hm p hp), hb.frozen (p := ⟨p.1, j, none⟩) (hm p hp)]
    exact (h.rows p hp).1 j hj, (h.rows p hp).2.1, Nat.lt_of_lt_of_le (h.rows p hp).2.2 g.size⟩, h.apart, h.below.trans (hb.mono h0)⟩
theorem Mm.lt (h : Mm w0 l w) {b : Nat} {cs : List Value} (hp : (b, cs) ∈ l) : b < w.heap.size := (h.rows _ hp).2.2
theorem Mm.lo (h : Mm w0 l w) {b : Nat} {cs : List Value} (hp : (b, cs) ∈ l) : w0.heap.size ≤ b := (h.rows _ hp).2.1
end
end Go.Proofs.Yteaamgjlkohfcaa

namespace Go.Proofs.Yteaamgjlkohfcaa
open Go.RowKit

/-- How many bytes a number has at least; what the two highest bits tell; its bytes. -/
def vsz (n : Nat) : Nat := if n < 64 then 1 else if n < 16384 then 2 else if n < 1073741824 then 4 else 8
def vkd (k : Nat) : Nat := if k = 1 then 0 else if k = 2 then 1 else if k = 4 then 2 else 3
def fby (n s j : Nat) : Int := ((n / 256 ^ (s - 1 - j) % 256 : Nat) : Int)
def vby (n j : Nat) : Int := fby n (vsz n) j + (if j = 0 then ((64 * vkd (vsz n) : Nat) : Int) else 0)
abbrev vbad (n : Int) : Prop := n < 0 ∨ 4611686018427387903 < n
def vL (len : Nat) (n : Int) : Nat := if vbad n then 0 else len + vsz n.toNat
def vE (n : Int) : Int := if vbad n then 1 else 0
def vput (len : Nat) (z : Nat → Int) (n : Int) : Nat → Int := app z len (vby n.toNat)
theorem vsz_cases (n : Nat) : (vsz n = 1 ∧ n < 64) ∨ (vsz n = 2 ∧ 64 ≤ n ∧ n < 16384) ∨ (vsz n = 4 ∧ 16384 ≤ n ∧ n < 1073741824) ∨ (vsz n = 8 ∧ 1073741824 ≤ n) := by
  unfold vsz
  by_cases h1 : n < 64
  · rw [if_pos h1]; exact .inl ⟨rfl, h1⟩
  · rw [if_neg h1]
    by_cases h2 : n < 16384
    · rw [if_pos h2]; exact .inr (.inl ⟨rfl, by omega, h2⟩)
    · rw [if_neg h2]
      by_cases h3 : n < 1073741824
      · rw [if_pos h3]; exact .inr (.inr (.inl ⟨rfl, by omega, h3⟩))
      · rw [if_neg h3]; exact .inr (.inr (.inr ⟨rfl, by omega⟩))
theorem vsz_le (n : Nat) : 1 ≤ vsz n ∧ vsz n ≤ 8 := by rcases vsz_cases n with h | h | h | h <;> omega
theorem vkd_pow (k : Nat) (h : k = 1 ∨ k = 2 ∨ k = 4 ∨ k = 8) : 2 ^ vkd k = k ∧ vkd k ≤ 3 := by rcases h with rfl | rfl | rfl | rfl <;> decide
theorem vsz_four (n : Nat) : vsz n = 1 ∨ vsz n = 2 ∨ vsz n = 4 ∨ vsz n = 8 := by rcases vsz_cases n with h | h | h | h <;> omega
/-- The highest byte has its two highest bits free. -/
theorem vtop (n : Nat) (h : n < 4611686018427387904) : n / 256 ^ (vsz n - 1) < 64 := by
  rcases vsz_cases n with ⟨e, h1⟩ | ⟨e, h1, h2⟩ | ⟨e, h1, h2⟩ | ⟨e, h1⟩ <;> rw [e]
  · show n / 1 < 64; omega
  · show n / 256 < 64; omega
  · show n / 16777216 < 64; omega
  · show n / 72057594037927936 < 64; omega
theorem fby_in (n s j : Nat) : 0 ≤ fby n s j ∧ fby n s j < 256 := by
  unfold fby
  have := Nat.mod_lt (n / 256 ^ (s - 1 - j)) (show 0 < 256 by decide)
  omega
theorem vby_in (n : Nat) (h : n < 4611686018427387904) (m : Nat) : In 256 m (vby n) := fun j _ => by
  have h1 := fby_in n (vsz n) j
  have hk := (vkd_pow _ (vsz_four n)).2
  unfold vby
  by_cases e : j = 0
  · subst e
    have ht := vtop n h
    have e1 : fby n (vsz n) 0 = ((n / 256 ^ (vsz n - 1) : Nat) : Int) := by
      unfold fby
      rw [Nat.sub_zero, Nat.mod_eq_of_lt (by omega)]
    rw [if_pos rfl, e1]
    omega
  · rw [if_neg e]
    omega
def tV (z : Nat → Int) : Nat → Int
  | 0 => z 0 % 64
  | i + 1 => tV z i * 256 + z (i + 1)
def tK (b : Int) : Nat := 2 ^ (b / 64).toNat
theorem tK_four (b : Int) (h : 0 ≤ b ∧ b < 256) : (tK b = 1 ∧ b / 64 = 0) ∨ (tK b = 2 ∧ b / 64 = 1) ∨ (tK b = 4 ∧ b / 64 = 2) ∨ (tK b = 8 ∧ b / 64 = 3) := by
  unfold tK
  have : b / 64 = 0 ∨ b / 64 = 1 ∨ b / 64 = 2 ∨ b / 64 = 3 := by omega
  rcases this with e | e | e | e <;> rw [e] <;> simp
theorem vby_first (n : Nat) (h : n < 4611686018427387904) : vby n 0 = ((n / 256 ^ (vsz n - 1) + 64 * vkd (vsz n) : Nat) : Int) := by
  have ht := vtop n h
  unfold vby fby
  rw [if_pos rfl, Nat.sub_zero, Nat.mod_eq_of_lt (by omega)]
  omega
theorem tV_nonneg (z : Nat → Int) (m : Nat) (hz : In 256 m z) : ∀ i, i < m → 0 ≤ tV z i ∧ tV z i < 64 * 256 ^ i
  | 0, _ => by
    show 0 ≤ z 0 % 64 ∧ z 0 % 64 < 64 * 1
    omega
  | i + 1, hi => by
    have h1 := tV_nonneg z m hz i (by omega)
    have h2 := hz (i + 1) hi
    show 0 ≤ tV z i * 256 + z (i + 1) ∧ tV z i * 256 + z (i + 1) < 64 * 256 ^ (i + 1)
    rw [Int.pow_succ]
    omega
/-- What was read, cut behind any byte. -/
theorem tV_cut (z : Nat → Int) (m : Nat) (hz : In 256 m z) (i : Nat) : ∀ d, i + d < m → (tV z (i + d)).toNat / 256 ^ d = (tV z i).toNat
  | 0, _ => by rw [Nat.pow_zero, Nat.div_one, Nat.add_zero]
  | d + 1, h => by
    have ih := tV_cut z m hz i d (by omega)
    have h1 := tV_nonneg z m hz (i + d) (by omega)
    have h2 := hz (i + d + 1) (by omega)
    rw [Nat.pow_succ, Nat.mul_comm, ← Nat.div_div_eq_div_mul, ← ih]
    congr 1
    show (tV z (i + d) * 256 + z (i + d + 1)).toNat / 256 = _
    omega
theorem vby_back (z : Nat → Int) (k : Nat) (hk : tK (z 0) = k) (hz : In 256 k z) (hv : vsz (tV z (k - 1)).toNat = k) : ∀ j, j < k → vby (tV z (k - 1)).toNat j = z j := fun j hj => by
  have h0 := hz 0 (by omega)
  have hc := tV_cut z k hz j (k - 1 - j) (by omega)
  rw [show j + (k - 1 - j) = k - 1 by omega] at hc
  unfold vby fby
  rw [hv, hc]
  by_cases e : j = 0
  · subst e
    rw [if_pos rfl]
    show (((z 0 % 64).toNat % 256 : Nat) : Int) + ((64 * vkd k : Nat) : Int) = z 0
    rcases tK_four (z 0) h0 with ⟨e1, e2⟩ | ⟨e1, e2⟩ | ⟨e1, e2⟩ | ⟨e1, e2⟩ <;> rw [← hk, e1]
    · show _ + ((64 * 0 : Nat) : Int) = z 0; omega
    · show _ + ((64 * 1 : Nat) : Int) = z 0; omega
    · show _ + ((64 * 2 : Nat) : Int) = z 0; omega
    · show _ + ((64 * 3 : Nat) : Int) = z 0; omega
  · obtain ⟨i, rfl⟩ : ∃ i, j = i + 1 := ⟨j - 1, by omega⟩
    have h1 := tV_nonneg z k hz i (by omega)
    have h2 := hz (i + 1) hj
    rw [if_neg e]
    show (((tV z i * 256 + z (i + 1)).toNat % 256 : Nat) : Int) + 0 = z (i + 1)
    omega
/-- What is taken: the error, the number, how many bytes are behind. -/
def tE (len : Nat) (z : Nat → Int) : Int := if len = 0 then 3 else if len < tK (z 0) then 3 else if vsz (tV z (tK (z 0) - 1)).toNat ≠ tK (z 0) then 90 else 0
def tN (len : Nat) (z : Nat → Int) : Int := if tE len z = 0 then tV z (tK (z 0) - 1) else 0
def tL (len : Nat) (z : Nat → Int) : Nat := if tE len z = 0 then len - tK (z 0) else 0
def tR (z : Nat → Int) : Nat → Int := fun j => z (tK (z 0) + j)
theorem tE_ok {len : Nat} {z : Nat → Int} (h : tE len z = 0) : 0 < len ∧ tK (z 0) ≤ len ∧ vsz (tV z (tK (z 0) - 1)).toNat = tK (z 0) := by
  unfold tE at h
  split at h
  · cases h
  · split at h
    · cases h
    · split at h
      · cases h
      · rename_i h1 h2 h3
        exact ⟨by omega, by omega, Classical.byContradiction h3⟩
/-- Texts. -/
def xE (len : Nat) (z : Nat → Int) (most : Int) : Int := if tE len z ≠ 0 then tE len z else if most < tN len z then 2 else if ((tL len z : Nat) : Int) < tN len z then 3 else 0
def xL (len : Nat) (z : Nat → Int) (most : Int) : Nat := if xE len z most = 0 then (tN len z).toNat else 0
def yL (len : Nat) (z : Nat → Int) (most : Int) : Nat := if xE len z most = 0 then tL len z - (tN len z).toNat else 0
def yR (len : Nat) (z : Nat → Int) : Nat → Int := fun j => tR z ((tN len z).toNat + j)
end Go.Proofs.Yteaamgjlkohfcaa

namespace Go.Proofs.Yteaamgjlkohfcaa
open Go.RowKit

/-- What is taken, and put, is the bytes that were taken. -/
theorem put_take (len : Nat) (z : Nat → Int) (hz : In 256 len z) (h : tE len z = 0) : 0 ≤ tN len z ∧ tN len z < 4611686018427387904 ∧ vsz (tN len z).toNat = tK (z 0) ∧ tL len z = len - tK (z 0) ∧ tK (z 0) ≤ len ∧ ∀ j, j < tK (z 0) → vby (tN len z).toNat j = z j := by
  obtain ⟨q1, q2, q3⟩ := tE_ok h
  have hk := tK_four (z 0) (hz 0 q1)
  have hN : tN len z = tV z (tK (z 0) - 1) := by unfold tN; rw [if_pos h]
  have hL : tL len z = len - tK (z 0) := by unfold tL; rw [if_pos h]
  have hb := tV_nonneg z len hz (tK (z 0) - 1) (by omega)
  have h7 : (256 : Nat) ^ (tK (z 0) - 1) ≤ 256 ^ 7 := Nat.pow_le_pow_right (by decide) (by omega)
  have e7 : (256 : Nat) ^ 7 = 72057594037927936 := by decide
  have e8 : ((256 ^ (tK (z 0) - 1) : Nat) : Int) = (256 : Int) ^ (tK (z 0) - 1) := Int.natCast_pow 256 _
  refine ⟨by rw [hN]; exact hb.1, by rw [hN]; omega, by rw [hN]; exact q3, hL, q2, fun j hj => ?_⟩
  rw [hN]
  exact vby_back z (tK (z 0)) rfl (fun i hi => hz i (by omega)) q3 j hj
end Go.Proofs.Yteaamgjlkohfcaa

namespace Go.Proofs.Yteaamgjlkohfcaa
open Go.RowKit

/-- The least bytes of a number, as a list. -/
def vlst (n : Nat) : List Int := (List.range (vsz n)).map (vby n)
theorem vlst_length (n : Nat) : (vlst n).length = vsz n := by unfold vlst; rw [List.length_map, List.length_range]
theorem bl_app (a b : List Int) (j : Nat) : bl (a ++ b) j = if j < a.length then bl a j else bl b (j - a.length) := by
  unfold bl
  simp only [List.getD_eq_getElem?_getD, List.getElem?_append]
  split <;> rfl
theorem bl_vlst (n j : Nat) (h : j < vsz n) : bl (vlst n) j = vby n j := by
  unfold bl vlst
  simp [List.getD_eq_getElem?_getD, h]
def Byts (b : List Int) : Prop := ∀ x ∈ b, 0 ≤ x ∧ x < 256
theorem Byts.bl {b : List Int} (h : Byts b) : In 256 b.length (bl b) := fun j hj => by
  unfold Go.Proofs.Yteaamgjlkohfcaa.bl
  rw [List.getD_eq_getElem?_getD, List.getElem?_eq_getElem hj]
  exact h _ (List.getElem_mem hj)
theorem Byts.drop {b : List Int} (h : Byts b) (n : Nat) : Byts (b.drop n) := fun x hx => h x (List.mem_of_mem_drop hx)
theorem Byts.take {b : List Int} (h : Byts b) (n : Nat) : Byts (b.take n) := fun x hx => h x (List.mem_of_mem_take hx)
theorem Byts.app {a b : List Int} (ha : Byts a) (hb : Byts b) : Byts (a ++ b) := fun x hx => by
  rcases List.mem_append.1 hx with h | h
  · exact ha x h
  · exact hb x h
theorem Byts.tail {x : Int} {b : List Int} (h : Byts (x :: b)) : Byts b := fun y hy => h y (List.mem_cons_of_mem _ hy)
theorem vlst_byts (n : Nat) (h : n < 4611686018427387904) : Byts (vlst n) := fun x hx => by
  unfold vlst at hx
  obtain ⟨j, hj, rfl⟩ := List.mem_map.1 hx
  exact vby_in n h _ j (List.mem_range.1 hj)
theorem bl_ext {a b : List Int} (hl : a.length = b.length) (h : ∀ j, j < a.length → bl a j = bl b j) : a = b := by
  apply List.ext_getElem hl
  intro j h1 h2
  have := h j h1
  unfold bl at this
  rw [List.getD_eq_getElem?_getD, List.getD_eq_getElem?_getD, List.getElem?_eq_getElem h1, List.getElem?_eq_getElem h2] at this
  exact this
theorem bl_drop (b : List Int) (n j : Nat) : bl (b.drop n) j = bl b (n + j) := by
  unfold bl
  simp [List.getD_eq_getElem?_getD, List.getElem?_drop]
theorem bl_take (b : List Int) (n j : Nat) (h : j < n) : bl (b.take n) j = bl b j := by
  unfold bl
  simp [h]

/-- A number is read. -/
def nm (b : List Int) : Except Int (Int × List Int) := if tE b.length (bl b) = 0 then .ok (tN b.length (bl b), b.drop (tK (bl b 0))) else .error (tE b.length (bl b))
theorem nm_back {b r : List Int} {n : Int} (hb : Byts b) (h : nm b = .ok (n, r)) : 0 ≤ n ∧ n < 4611686018427387904 ∧ b = vlst n.toNat ++ r := by
  unfold nm at h
  split at h
  · rename_i hE
    injection h with h
    injection h with h1 h2
    obtain ⟨q1, q2, q3, q4, q5, q6⟩ := put_take b.length (bl b) hb.bl hE
    rw [h1] at q1 q2 q3 q6
    refine ⟨q1, q2, ?_⟩
    rw [← h2]
    refine bl_ext ?_ fun j hj => ?_
    · rw [List.length_append, vlst_length, List.length_drop, q3]; omega
    · rw [bl_app, vlst_length, q3]
      split
      · rename_i hj'
        rw [bl_vlst _ _ (by rw [q3]; exact hj'), q6 j hj']
      · rw [bl_drop]
        congr 1
        omega
  · cases h
/-- Ranges, texts. -/
def MX : Int := 4611686018427387903
def rd : Nat → Int → List Int → Except Int (List (Int × Int) × List Int)
  | 0, _, b => .ok ([], b)
  | n + 1, last, b => match nm b with
    | .error e => .error e
    | .ok (g, b1) => match nm b1 with
      | .error e => .error e
      | .ok (l, b2) => if MX - last < g ∨ MX - last - g < l then .error 100 else match rd n (last + g + l) b2 with
        | .error e => .error e
        | .ok (rs, b3) => .ok ((last + g, last + g + l) :: rs, b3)
def tx (b : List Int) : Except Int (List Int × List Int) := match nm b with
  | .error e => .error e
  | .ok (n, r) => if 128 < n then .error 2 else if (r.length : Int) < n then .error 3 else .ok (r.take n.toNat, r.drop n.toNat)
def ren : List (Int × Int) → Int → List Int
  | [], _ => []
  | p :: l, last => vlst (p.1 - last).toNat ++ (vlst (p.2 - p.1).toNat ++ ren l p.2)
def rok : List (Int × Int) → Int → Bool → Int → Bool
  | [], _, _, _ => true
  | p :: l, fr, ab, upb => !(decide (p.1 < fr) || (ab && p.1 == fr) || decide (p.2 ≤ p.1) || decide (upb < p.2)) && rok l p.2 true upb
theorem rok_cons {p : Int × Int} {l : List (Int × Int)} {fr upb : Int} {ab : Bool} (h : rok (p :: l) fr ab upb = true) : fr ≤ p.1 ∧ p.1 < p.2 ∧ p.2 ≤ upb ∧ rok l p.2 true upb = true := by
  simp only [rok, Bool.and_eq_true, Bool.not_eq_true', Bool.or_eq_false_iff, decide_eq_false_iff_not] at h
  obtain ⟨⟨⟨⟨h1, _⟩, h2⟩, h3⟩, h4⟩ := h
  exact ⟨by omega, by omega, by omega, h4⟩
/-- A frame. -/
structure Frm where
  kind : Int
  pos : Int
  lim : Int
  rg : List (Int × Int)
  byt : List Int
  tok : List Int
def z8 : List Int := [0, 0, 0, 0, 0, 0, 0, 0]
def nmb (n : Int) : Bool := decide (0 ≤ n) && decide (n ≤ MX)
def rise (l : List (Int × Int)) (fr : Int) (ab : Bool) (upb : Int) : Bool := rok l fr ab upb && decide (l.length ≤ 8)
def fkd (f : Frm) : Bool :=
  if f.kind = 1 then decide (1 ≤ f.byt.length) && decide (f.byt.length ≤ 128)
  else if f.kind = 2 then nmb f.pos && nmb f.lim && rise f.rg f.pos true MX
  else if f.kind = 3 ∨ f.kind = 4 then f.pos == 0
  else if f.kind = 5 then decide (f.pos ≤ 65535)
  else if f.kind = 6 then true
  else if f.kind = 7 then nmb f.pos && decide (0 ≤ f.lim) && decide (f.lim ≤ 65535) && rise f.rg 0 false f.pos
  else false
def foth (f : Frm) : Bool :=
  (decide (f.kind ≠ 1) && decide (0 < f.byt.length)) || (decide (f.kind ≠ 2 ∧ f.kind ≠ 7) && decide (f.lim ≠ 0)) || (decide (f.kind ≠ 2 ∧ f.kind ≠ 7) && decide (0 < f.rg.length)) || (decide (f.kind ≠ 3 ∧ f.kind ≠ 4) && decide (f.tok ≠ z8))
def fok (f : Frm) : Bool := fkd f && !foth f && nmb f.pos
structure FrW (f : Frm) : Prop where
  byt : Byts f.byt
  tok : Byts f.tok
  eight : f.tok.length = 8
theorem nmb_iff {n : Int} : nmb n = true ↔ 0 ≤ n ∧ n < 4611686018427387904 := by
  unfold nmb MX
  simp
  omega
/-- What a frame that may be is, kind by kind. -/
def Ok (f : Frm) : Prop :=
  (∃ (a : Int) (t : List Int), f = ⟨1, a, 0, [], t, z8⟩ ∧ (0 ≤ a ∧ a < 4611686018427387904) ∧ 1 ≤ t.length ∧ t.length ≤ 128)
  ∨ (∃ (a l : Int) (rs : List (Int × Int)), f = ⟨2, a, l, rs, [], z8⟩ ∧ (0 ≤ a ∧ a < 4611686018427387904) ∧ (0 ≤ l ∧ l < 4611686018427387904) ∧ rok rs a true MX = true ∧ rs.length ≤ 8)
  ∨ (∃ (k : Int) (t : List Int), f = ⟨k, 0, 0, [], [], t⟩ ∧ (k = 3 ∨ k = 4))
  ∨ (∃ a : Int, f = ⟨5, a, 0, [], [], z8⟩ ∧ 0 ≤ a ∧ a ≤ 65535)
  ∨ (∃ a : Int, f = ⟨6, a, 0, [], [], z8⟩ ∧ 0 ≤ a ∧ a < 4611686018427387904)
  ∨ (∃ (a l : Int) (rs : List (Int × Int)), f = ⟨7, a, l, rs, [], z8⟩ ∧ (0 ≤ a ∧ a < 4611686018427387904) ∧ (0 ≤ l ∧ l ≤ 65535) ∧ rok rs 0 false a = true ∧ rs.length ≤ 8)
theorem Ok.data (a : Int) (t : List Int) (h : 0 ≤ a ∧ a < 4611686018427387904) (h1 : 1 ≤ t.length) (h2 : t.length ≤ 128) : Ok ⟨1, a, 0, [], t, z8⟩ := .inl ⟨a, t, rfl, h, h1, h2⟩
theorem Ok.ack (a l : Int) (rs : List (Int × Int)) (h : 0 ≤ a ∧ a < 4611686018427387904) (hl : 0 ≤ l ∧ l < 4611686018427387904) (hr : rok rs a true MX = true) (h8 : rs.length ≤ 8) : Ok ⟨2, a, l, rs, [], z8⟩ := .inr (.inl ⟨a, l, rs, rfl, h, hl, hr, h8⟩)
theorem Ok.tok (k : Int) (t : List Int) (hk : k = 3 ∨ k = 4) : Ok ⟨k, 0, 0, [], [], t⟩ := .inr (.inr (.inl ⟨k, t, rfl, hk⟩))
theorem Ok.upd (a : Int) (h : 0 ≤ a ∧ a ≤ 65535) : Ok ⟨5, a, 0, [], [], z8⟩ := .inr (.inr (.inr (.inl ⟨a, rfl, h⟩)))
theorem Ok.close (a : Int) (h : 0 ≤ a ∧ a < 4611686018427387904) : Ok ⟨6, a, 0, [], [], z8⟩ := .inr (.inr (.inr (.inr (.inl ⟨a, rfl, h⟩))))
theorem Ok.got (a l : Int) (rs : List (Int × Int)) (h : 0 ≤ a ∧ a < 4611686018427387904) (hl : 0 ≤ l ∧ l ≤ 65535) (hr : rok rs 0 false a = true) (h8 : rs.length ≤ 8) : Ok ⟨7, a, l, rs, [], z8⟩ := .inr (.inr (.inr (.inr (.inr ⟨a, l, rs, rfl, h, hl, hr, h8⟩))))
theorem Ok.elim {motive : (f : Frm) → Ok f → Prop} (data : ∀ (a : Int) (t : List Int) (h : 0 ≤ a ∧ a < 4611686018427387904) (h1 : 1 ≤ t.length) (h2 : t.length ≤ 128), motive ⟨1, a, 0, [], t, z8⟩ (Ok.data a t h h1 h2))
    (ack : ∀ (a l : Int) (rs : List (Int × Int)) (h : 0 ≤ a ∧ a < 4611686018427387904) (hl : 0 ≤ l ∧ l < 4611686018427387904) (hr : rok rs a true MX = true) (h8 : rs.length ≤ 8), motive ⟨2, a, l, rs, [], z8⟩ (Ok.ack a l rs h hl hr h8))
    (tok : ∀ (k : Int) (t : List Int) (hk : k = 3 ∨ k = 4), motive ⟨k, 0, 0, [], [], t⟩ (Ok.tok k t hk)) (upd : ∀ (a : Int) (h : 0 ≤ a ∧ a ≤ 65535), motive ⟨5, a, 0, [], [], z8⟩ (Ok.upd a h)) (close : ∀ (a : Int) (h : 0 ≤ a ∧ a < 4611686018427387904), motive ⟨6, a, 0, [], [], z8⟩ (Ok.close a h))
    (got : ∀ (a l : Int) (rs : List (Int × Int)) (h : 0 ≤ a ∧ a < 4611686018427387904) (hl : 0 ≤ l ∧ l ≤ 65535) (hr : rok rs 0 false a = true) (h8 : rs.length ≤ 8), motive ⟨7, a, l, rs, [], z8⟩ (Ok.got a l rs h hl hr h8)) {f : Frm} (h : Ok f) : motive f h := by
  rcases id h with ⟨a, t, rfl, h0, h1, h2⟩ | ⟨a, l, rs, rfl, h0, hl, hr, h8⟩ | ⟨k, t, rfl, hk⟩ | ⟨a, rfl, h0⟩ | ⟨a, rfl, h0⟩ | ⟨a, l, rs, rfl, h0, hl, hr, h8⟩
  · exact data a t h0 h1 h2
  · exact ack a l rs h0 hl hr h8
  · exact tok k t hk
  · exact upd a h0
  · exact close a h0
  · exact got a l rs h0 hl hr h8
theorem len_zero {α : Type} {l : List α} (h : ¬ 0 < l.length) : l = [] := List.eq_nil_of_length_eq_zero (by omega)
theorem not_two {k a b : Int} (h : ¬ k = a → k = b) : k = a ∨ k = b := by
  by_cases e : k = a
  · exact .inl e
  · exact .inr (h e)
theorem fok_iff (f : Frm) : fok f = true ↔ Ok f := by
  constructor
  · intro h
    obtain ⟨k, a, l, rs, t, tk⟩ := f
    unfold fok at h
    rw [Bool.and_eq_true, Bool.and_eq_true, nmb_iff] at h
    obtain ⟨⟨h1, h2⟩, h3⟩ := h
    unfold fkd at h1
    unfold foth at h2
    simp only [Bool.not_eq_true', Bool.or_eq_false_iff, Bool.and_eq_false_iff, decide_eq_false_iff_not, ne_eq, not_and, Decidable.not_not] at h1 h2 h3
    obtain ⟨⟨⟨o1, o2⟩, o3⟩, o4⟩ := h2
    by_cases k1 : k = 1
    · subst k1
      simp only [if_true, Bool.and_eq_true, decide_eq_true_eq] at h1
      obtain rfl : l = 0 := o2.resolve_left (fun o => by have := not_two o; omega)
      obtain rfl : rs = [] := len_zero (o3.resolve_left (fun o => by have := not_two o; omega))
      obtain rfl : tk = z8 := o4.resolve_left (fun o => by have := not_two o; omega)
      exact .data a t h3 h1.1 h1.2
    · rw [if_neg k1] at h1
      obtain rfl : t = [] := len_zero (o1.resolve_left k1)
      by_cases k2 : k = 2
      · subst k2
        simp only [if_true, Bool.and_eq_true, nmb_iff, rise, decide_eq_true_eq] at h1
        obtain rfl : tk = z8 := o4.resolve_left (fun o => by have := not_two o; omega)
        exact .ack a l rs h3 h1.1.2 h1.2.1 h1.2.2
      · rw [if_neg k2] at h1
        by_cases k3 : k = 3 ∨ k = 4
        · rw [if_pos k3] at h1
          obtain rfl : a = 0 := by simpa using h1
          obtain rfl : l = 0 := o2.resolve_left (fun o => by have := not_two o; omega)
          obtain rfl : rs = [] := len_zero (o3.resolve_left (fun o => by have := not_two o; omega))
          exact .tok k tk k3
        · rw [if_neg k3] at h1
          obtain rfl : tk = z8 := o4.resolve_left (fun o => by have := not_two o; omega)
          by_cases k7 : k = 7
          · subst k7
            simp only [show ¬ ((7 : Int) = 5) by decide, show ¬ ((7 : Int) = 6) by decide, if_false, if_true, Bool.and_eq_true, nmb_iff, rise, decide_eq_true_eq] at h1
            exact .got a l rs h3 ⟨h1.1.1.2, h1.1.2⟩ h1.2.1 h1.2.2
          · obtain rfl : l = 0 := o2.resolve_left (fun o => by have := not_two o; omega)
            obtain rfl : rs = [] := len_zero (o3.resolve_left (fun o => by have := not_two o; omega))
            by_cases k5 : k = 5
            · subst k5
              simp only [if_true, decide_eq_true_eq] at h1
              exact .upd a ⟨h3.1, h1⟩
            · rw [if_neg k5] at h1
              by_cases k6 : k = 6
              · subst k6
                exact .close a h3
              · rw [if_neg k6, if_neg k7] at h1
                cases h1
  · intro h
    cases h using Ok.elim with
    | data a t h h1 h2 => simp [fok, fkd, foth, nmb_iff, h, h1, h2]
    | ack a l rs h hl hr h8 => simp [fok, fkd, foth, nmb_iff, h, hl, hr, h8, rise]
    | tok k t hk => rcases hk with rfl | rfl <;> simp [fok, fkd, foth, nmb_iff]
    | upd a h => simp [fok, fkd, foth, nmb_iff, h]; omega
    | close a h => simp [fok, fkd, foth, nmb_iff, h]
    | got a l rs h hl hr h8 => simp [fok, fkd, foth, nmb_iff, h, hl, hr, h8, rise]

/-- Its bytes, behind the kind's one. -/
def fbo (f : Frm) : List Int :=
  if f.kind = 3 ∨ f.kind = 4 then f.tok
  else vlst f.pos.toNat ++ (if f.kind = 1 then vlst f.byt.length ++ f.byt else if f.kind = 2 ∨ f.kind = 7 then vlst f.lim.toNat ++ (vlst f.rg.length ++ ren f.rg (if f.kind = 2 then f.pos else 0)) else [])
def fen (f : Frm) : List Int := f.kind :: fbo f
/-- How a frame is read. -/
def fp (k : Int) (b : List Int) : Except Int (Frm × List Int) :=
  if k = 3 ∨ k = 4 then (if b.length < 8 then .error 3 else .ok (⟨k, 0, 0, [], [], b.take 8⟩, b.drop 8))
  else match nm b with
    | .error e => .error e
    | .ok (a, b1) =>
      if k = 1 then (match tx b1 with
        | .error e => .error e
        | .ok (t, b2) => .ok (⟨k, a, 0, [], t, z8⟩, b2))
      else if k = 2 ∨ k = 7 then (match nm b1 with
        | .error e => .error e
        | .ok (l, b2) => match nm b2 with
          | .error e => .error e
          | .ok (n, b3) => if 8 < n then .error 100 else match rd n.toNat (if k = 2 then a else 0) b3 with
            | .error e => .error e
            | .ok (rs, b4) => .ok (⟨k, a, l, rs, [], z8⟩, b4))
      else .ok (⟨k, a, 0, [], [], z8⟩, b1)
theorem Ok.kind {f : Frm} (h : Ok f) : 1 ≤ f.kind ∧ f.kind ≤ 7 := by
  cases h using Ok.elim with
  | tok k t hk => simp only; omega
  | _ => simp only; omega
/-- Many frames. -/
def enb : List Frm → List Int
  | [] => []
  | f :: l => fen f ++ enb l
def en (l : List Frm) : Except Int (List Int) := if 16 < l.length then .error 2 else if l.all fok = false then .error 100 else if 256 < (enb l).length then .error 2 else .ok (enb l)
def dc : Nat → List Int → Except Int (List Frm)
  | _, [] => .ok []
  | 0, _ :: _ => .error 2
  | n + 1, k :: b => if k < 1 ∨ 7 < k then .error 100 else match fp k b with
    | .error e => .error e
    | .ok (f, r) => if fok f = false then .error 100 else match dc n r with
      | .error e => .error e
      | .ok fs => .ok (f :: fs)
def de (b : List Int) : Except Int (List Frm) := if 256 < b.length then .error 2 else dc 16 b
theorem enb_app (l m : List Frm) : enb (l ++ m) = enb l ++ enb m := by
  induction l with
  | nil => rfl
  | cons f l ih =>
    show fen f ++ enb (l ++ m) = fen f ++ enb l ++ enb m
    rw [ih, List.append_assoc]
end Go.Proofs.Yteaamgjlkohfcaa

namespace Go.Proofs.Yteaamgjlkohfcaa
open Go.RowKit

theorem idxN {P : Program} {o : Oper} {a : Act} (t e : TypeId) (n len cap : Nat) (ad : Addr) (i : Nat) (x y : Operand) (hu : P.underlying t = some (.slice e)) (hsz : ∀ w, (sizeOf e).run P w = .ok n w) (hi : i < len) (ho : o.op = .indexAddr t x y) (hx : a.eval x = .slice (some ad) len cap) (hy : a.eval y = .int .i64 (i : Int)) (w : World) :
    (execOp a.eval o).run P w = .ok (.value (.pointer (some (ad.add (i * n))))) w := by
  have e1 : (Instr.indexAt t (.slice (some ad) len cap) (.int .i64 (i : Int))).run P w = .ok (.pointer (some (ad.add (i * n)))) w := by
    simp [Instr.indexAt, run_underlying hu, asIntOf, hsz]
    intro hf
    omega
  unfold execOp
  simp only [ho, hx, hy, Sem.run_bind, e1, Result.andThen_ok, Sem.run_pure]
/-- Ranges in memory. -/
def rgz (l : List (Int × Int)) (j : Nat) : Int × Int := l.getD j (0, 0)
def Rg (w : World) (sp : Option Addr) (l : List (Int × Int)) : Prop := ∀ j, j < l.length → ∃ ad, sp = some ad ∧ w.cell? (ad.add (j * 2)) = some (.int .i64 (rgz l j).1) ∧ w.cell? ((ad.add (j * 2)).add 1) = some (.int .i64 (rgz l j).2)
theorem Rg.below {w w' : World} {sp : Option Addr} {l : List (Int × Int)} (h : Rg w sp l) {B : Nat} (b : Below B w w') (hB : w.heap.size ≤ B) : Rg w' sp l := fun j hj => by
  obtain ⟨ad, rfl, h1, h2⟩ := h j hj
  refine ⟨ad, rfl, ?_, ?_⟩
  · rw [b.cell (Nat.lt_of_lt_of_le (World.block_lt_of_cell? w _ h1) hB)]; exact h1
  · rw [b.cell (Nat.lt_of_lt_of_le (World.block_lt_of_cell? w _ h2) hB)]; exact h2
theorem Rg.at {w : World} {ad : Addr} {l : List (Int × Int)} (h : Rg w (some ad) l) (j : Nat) (hj : j < l.length) : w.cell? (ad.add (j * 2)) = some (.int .i64 (rgz l j).1) ∧ w.cell? ((ad.add (j * 2)).add 1) = some (.int .i64 (rgz l j).2) := by
  obtain ⟨ad', e, h1⟩ := h j hj
  injection e with e
  subst e
  exact h1
theorem drop_rgz (l : List (Int × Int)) (j : Nat) (hj : j < l.length) : l.drop j = rgz l j :: l.drop (j + 1) := by
  rw [List.drop_eq_getElem_cons hj]
  unfold rgz
  rw [List.getD_eq_getElem?_getD, List.getElem?_eq_getElem hj]
  rfl

set_option maxRecDepth 10000 in
set_option maxHeartbeats 16000000 in
theorem rnumber_any (n : Int) (w : World) : Calls Try.prog 20 #[.int .i64 n] w fun e w' => e = .returned (.bool (nmb n)) ∧ Below w.heap.size w w' := by
  have M := Mm.init w
  go_enter Try.func20, Try.ntmps20
  go_upto_region 1 with fail
  refine wp_region_list ?_
  refine readL (.int .i64 n) rfl (by kernel_rfl) ?_
  simp only [aP, lI, l0, lS]
  obtain ⟨b1, hb1⟩ : ∃ y_, y_ = (decide (n ≥ 0)) := ⟨_, rfl⟩
  refine readL (.bool b1) rfl (geqI .i64 _ _ _ _ _ _ rfl rfl rfl b1 hb1.symm _) ?_
  simp only [aP, lI, l0, lS]
  refine readL (.bool b1) rfl (by kernel_rfl) ?_
  simp only [aP, lI, l0, lS]
  refine mayL (b1) (.int .i64 n) ((bif b1 then (.int .i64 n) else undef)) (by cases b1 <;> rfl) (by cases b1 <;> rfl) (fun hc => by cases b1 <;> first | (cases hc; done) | kernel_rfl) ?_
  simp only [aP, lI, l0, lS]
  obtain ⟨b2, hb2⟩ : ∃ y_, y_ = (decide (n ≤ 4611686018427387903)) := ⟨_, rfl⟩
  refine mayL (b1) (.bool b2) ((bif b1 then (.bool b2) else undef)) (by cases b1 <;> rfl) (by cases b1 <;> rfl) (fun hc => by cases b1 <;> first | (cases hc; done) | exact (leqI .i64 _ _ _ _ _ _ rfl rfl rfl b2 hb2.symm _)) ?_
  simp only [aP, lI, l0, lS]
  obtain ⟨b3, hb3⟩ : ∃ y_, y_ = (b1 && b2) := ⟨_, rfl⟩
  refine readL (.bool b3) rfl (by subst hb3; cases b1 <;> rfl) ?_
  simp only [aP, lI, l0, lS]
  refine readL (.bool b3) rfl (by kernel_rfl) ?_
  simp only [aP, lI, l0, lS]
  first | show Exit.then _ _ _ _ _ | show Exit.inBlock _ _ _ _ _
  have e : b3 = nmb n := by
    unfold nmb MX
    rw [hb3, hb1, hb2]
  clear hb1 hb2 hb3
  subst e
  go_wp2
  go_ret
  exact ⟨rfl, M.below⟩

def fr_ (l : List (Int × Int)) (fr : Int) (j : Nat) : Int := if j = 0 then fr else (rgz l (j - 1)).2
def ab_ (ab : Bool) (j : Nat) : Bool := ab || decide ((j : Int) > 0)
set_option maxRecDepth 10000 in
set_option maxHeartbeats 16000000 in
theorem rrising_any (sp : Option Addr) (cap : Nat) (l : List (Int × Int)) (hlen : l.length ≤ 4611686018427387904) (fr upb : Int) (ab : Bool) (w : World) (hR : Rg w sp l) :
    Calls Try.prog 21 #[.slice sp l.length cap, .int .i64 fr, .bool ab, .int .i64 upb] w fun e w' => e = .returned (.bool (rise l fr ab upb)) ∧ Below w.heap.size w w' := by
  have M := Mm.init w
  go_enter Try.func21, Try.ntmps21
  go_wp2
  go_loopw [1, 9] (fun fw i w' => ∃ j : Nat, j ≤ l.length ∧ fw = .int .i64 (fr_ l fr j) ∧ i = .int .i64 (j : Int) ∧ Mm w [] w' ∧ rok l fr ab upb = rok (l.drop j) (fr_ l fr j) (ab_ ab j) upb) (fun _ i _ => l.length - (intOf i).toNat)
  case atStart => exact ⟨0, Nat.zero_le _, rfl, rfl, M, by unfold ab_; simp [fr_]⟩
  case round =>
    clear M
    obtain ⟨j, hj, rfl, rfl, M, hK⟩ := hrel
    by_cases hlt : j < l.length
    · obtain ⟨ad, rfl, _⟩ := hR j hlt
      have g1 : (j : Int) < ((l.length : Nat) : Int) := by omega
      go_upto_region 4 with fail
      refine wp_region_held_drew (S := fun w' => Mm w [] w') (by kernel_rfl) M.drew ?_
      clear M
      intro M
      generalize wr.drew = w1 at M  ⊢
      refine readH (i := 0) (some 16) rfl (.slice (some ad) l.length cap) rfl rfl (fun _ M => (by kernel_rfl)) (by kernel_rfl) (by kernel_rfl) (by kernel_rfl) (fun _ _ _ h => h) M ?_
      simp only [aP, lI, l0, lS]
      refine readH (i := 1) (some 17) rfl (.int .i64 (j : Int)) rfl rfl (fun _ M => (by kernel_rfl)) (by kernel_rfl) (by kernel_rfl) (by kernel_rfl) (fun _ _ _ h => h) M ?_
      simp only [aP, lI, l0, lS]
      refine readH (i := 2) (some 18) rfl (.pointer (some (ad.add (j * 2)))) rfl rfl (fun _ M => idxN 22 43 2 l.length cap ad j _ _ Try.underlying22 (fun _ => by kernel_rfl) hlt rfl rfl rfl _) (by kernel_rfl) (by kernel_rfl) (by kernel_rfl) (fun _ _ _ h => h) M ?_
      simp only [aP, lI, l0, lS]
      refine readH (i := 3) (some 19) rfl (.pointer (some (ad.add (j * 2)))) rfl rfl (fun _ M => (by kernel_rfl)) (by kernel_rfl) (by kernel_rfl) (by kernel_rfl) (fun _ _ _ h => h) M ?_
      simp only [aP, lI, l0, lS]
      refine readH (i := 4) (some 20) rfl (.int .i64 ((rgz l j).1)) rfl rfl (fun _ M => load1 3 _ (ad.add (j * 2)) _ rfl rfl (fun _ => by kernel_rfl) (((hR.below M.below (Nat.le_refl _)).at j hlt).1)) (by kernel_rfl) (by kernel_rfl) (by kernel_rfl) (fun _ _ _ h => h) M ?_
      simp only [aP, lI, l0, lS]
      refine readH (i := 5) (some 21) rfl (.int .i64 (fr_ l fr j)) rfl rfl (fun _ M => (by kernel_rfl)) (by kernel_rfl) (by kernel_rfl) (by kernel_rfl) (fun _ _ _ h => h) M ?_
      simp only [aP, lI, l0, lS]
      obtain ⟨b1, hb1⟩ : ∃ y_, y_ = (decide (((rgz l j).1) < (fr_ l fr j))) := ⟨_, rfl⟩
      refine readH (i := 6) (some 22) rfl (.bool b1) rfl rfl (fun _ M => lssI .i64 _ _ _ _ _ _ rfl rfl rfl b1 hb1.symm _) (by kernel_rfl) (by kernel_rfl) (by kernel_rfl) (fun _ _ _ h => h) M ?_
      simp only [aP, lI, l0, lS]
      refine readH (i := 7) (some 23) rfl (.bool b1) rfl rfl (fun _ M => (by kernel_rfl)) (by kernel_rfl) (by kernel_rfl) (by kernel_rfl) (fun _ _ _ h => h) M ?_
      simp only [aP, lI, l0, lS]
      refine mayH (i := 8) (some 24) rfl (!b1) (.bool ab) ((bif b1 then undef else (.bool ab))) rfl (by cases b1 <;> rfl) (by cases b1 <;> rfl) (fun hc _ M => by cases b1 <;> first | (cases hc; done) | kernel_rfl) (by kernel_rfl) (by kernel_rfl) (by kernel_rfl) (fun _ _ _ h => h) M ?_
      simp only [aP, lI, l0, lS]
      refine mayH (i := 9) (some 25) rfl (!b1) (.bool ab) ((bif b1 then undef else (.bool ab))) rfl (by cases b1 <;> rfl) (by cases b1 <;> rfl) (fun hc _ M => by cases b1 <;> first | (cases hc; done) | kernel_rfl) (by kernel_rfl) (by kernel_rfl) (by kernel_rfl) (fun _ _ _ h => h) M ?_
      simp only [aP, lI, l0, lS]
      refine mayH (i := 10) (some 26) rfl (!b1 && !ab) (.int .i64 (j : Int)) ((bif b1 then undef else (bif ab then undef else (.int .i64 (j : Int))))) rfl (by cases b1 <;> cases ab <;> rfl) (by cases b1 <;> cases ab <;> rfl) (fun hc _ M => by cases b1 <;> cases ab <;> first | (cases hc; done) | kernel_rfl) (by kernel_rfl) (by kernel_rfl) (by kernel_rfl) (fun _ _ _ h => h) M ?_
      simp only [aP, lI, l0, lS]
      obtain ⟨b2, hb2⟩ : ∃ y_, y_ = (decide ((j : Int) > 0)) := ⟨_, rfl⟩
      refine mayH (i := 11) (some 27) rfl (!b1 && !ab) (.bool b2) ((bif b1 then undef else (bif ab then undef else (.bool b2)))) rfl (by cases b1 <;> cases ab <;> rfl) (by cases b1 <;> cases ab <;> rfl) (fun hc _ M => by cases b1 <;> cases ab <;> first | (cases hc; done) | exact (gtrI .i64 _ _ _ _ _ _ rfl rfl rfl b2 hb2.symm _)) (by kernel_rfl) (by kernel_rfl) (by kernel_rfl) (fun _ _ _ h => h) M ?_
      simp only [aP, lI, l0, lS]
      obtain ⟨b3, hb3⟩ : ∃ y_, y_ = (ab || b2) := ⟨_, rfl⟩
      refine mayH (i := 12) (some 28) rfl (!b1) (.bool b3) ((bif b1 then undef else (.bool b3))) rfl (by cases b1 <;> rfl) (by cases b1 <;> rfl) (fun hc _ M => by cases b1 <;> first | (cases hc; done) | exact (by subst hb3; cases ab <;> rfl)) (by kernel_rfl) (by kernel_rfl) (by kernel_rfl) (fun _ _ _ h => h) M ?_
      simp only [aP, lI, l0, lS]
      refine mayH (i := 13) (some 29) rfl (!b1) (.bool b3) ((bif b1 then undef else (.bool b3))) rfl (by cases b1 <;> rfl) (by cases b1 <;> rfl) (fun hc _ M => by cases b1 <;> first | (cases hc; done) | kernel_rfl) (by kernel_rfl) (by kernel_rfl) (by kernel_rfl) (fun _ _ _ h => h) M ?_
      simp only [aP, lI, l0, lS]
      refine mayH (i := 14) (some 30) rfl (!b1 && b3) (.slice (some ad) l.length cap) ((bif b1 then undef else (bif b3 then (.slice (some ad) l.length cap) else undef))) rfl (by cases b1 <;> cases b3 <;> rfl) (by cases b1 <;> cases b3 <;> rfl) (fun hc _ M => by cases b1 <;> cases b3 <;> first | (cases hc; done) | kernel_rfl) (by kernel_rfl) (by kernel_rfl) (by kernel_rfl) (fun _ _ _ h => h) M ?_
      simp only [aP, lI, l0, lS]
      refine mayH (i := 15) (some 31) rfl (!b1 && b3) (.int .i64 (j : Int)) ((bif b1 then undef else (bif b3 then (.int .i64 (j : Int)) else undef))) rfl (by cases b1 <;> cases b3 <;> rfl) (by cases b1 <;> cases b3 <;> rfl) (fun hc _ M => by cases b1 <;> cases b3 <;> first | (cases hc; done) | kernel_rfl) (by kernel_rfl) (by kernel_rfl) (by kernel_rfl) (fun _ _ _ h => h) M ?_
      simp only [aP, lI, l0, lS]
      refine mayH (i := 16) (some 32) rfl (!b1 && b3) (.pointer (some (ad.add (j * 2)))) ((bif b1 then undef else (bif b3 then (.pointer (some (ad.add (j * 2)))) else undef))) rfl (by cases b1 <;> cases b3 <;> rfl) (by cases b1 <;> cases b3 <;> rfl) (fun hc _ M => by cases b1 <;> cases b3 <;> first | (cases hc; done) | exact (idxN 22 43 2 l.length cap ad j _ _ Try.underlying22 (fun _ => by kernel_rfl) hlt rfl rfl rfl _)) (by kernel_rfl) (by kernel_rfl) (by kernel_rfl) (fun _ _ _ h => h) M ?_
      simp only [aP, lI, l0, lS]
      refine mayH (i := 17) (some 33) rfl (!b1 && b3) (.pointer (some (ad.add (j * 2)))) ((bif b1 then undef else (bif b3 then (.pointer (some (ad.add (j * 2)))) else undef))) rfl (by cases b1 <;> cases b3 <;> rfl) (by cases b1 <;> cases b3 <;> rfl) (fun hc _ M => by cases b1 <;> cases b3 <;> first | (cases hc; done) | kernel_rfl) (by kernel_rfl) (by kernel_rfl) (by kernel_rfl) (fun _ _ _ h => h) M ?_
      simp only [aP, lI, l0, lS]
      refine mayH (i := 18) (some 34) rfl (!b1 && b3) (.int .i64 ((rgz l j).1)) ((bif b1 then undef else (bif b3 then (.int .i64 ((rgz l j).1)) else undef))) rfl (by cases b1 <;> cases b3 <;> rfl) (by cases b1 <;> cases b3 <;> rfl) (fun hc _ M => by cases b1 <;> cases b3 <;> first | (cases hc; done) | exact (load1 3 _ (ad.add (j * 2)) _ rfl rfl (fun _ => by kernel_rfl) (((hR.below M.below (Nat.le_refl _)).at j hlt).1))) (by kernel_rfl) (by kernel_rfl) (by kernel_rfl) (fun _ _ _ h => h) M ?_
      simp only [aP, lI, l0, lS]
      refine mayH (i := 19) (some 35) rfl (!b1 && b3) (.int .i64 (fr_ l fr j)) ((bif b1 then undef else (bif b3 then (.int .i64 (fr_ l fr j)) else undef))) rfl (by cases b1 <;> cases b3 <;> rfl) (by cases b1 <;> cases b3 <;> rfl) (fun hc _ M => by cases b1 <;> cases b3 <;> first | (cases hc; done) | kernel_rfl) (by kernel_rfl) (by kernel_rfl) (by kernel_rfl) (fun _ _ _ h => h) M ?_
      simp only [aP, lI, l0, lS]
      obtain ⟨b4, hb4⟩ : ∃ y_, y_ = (((rgz l j).1 : Int) == (fr_ l fr j : Int)) := ⟨_, rfl⟩
      refine mayH (i := 20) (some 36) rfl (!b1 && b3) (.bool b4) ((bif b1 then undef else (bif b3 then (.bool b4) else undef))) rfl (by cases b1 <;> cases b3 <;> rfl) (by cases b1 <;> cases b3 <;> rfl) (fun hc _ M => by cases b1 <;> cases b3 <;> first | (cases hc; done) | exact (eqlI .i64 _ _ _ _ _ _ rfl rfl rfl b4 hb4.symm _)) (by kernel_rfl) (by kernel_rfl) (by kernel_rfl) (fun _ _ _ h => h) M ?_
      simp only [aP, lI, l0, lS]
      obtain ⟨b5, hb5⟩ : ∃ y_, y_ = (b3 && b4) := ⟨_, rfl⟩
      refine mayH (i := 21) (some 37) rfl (!b1) (.bool b5) ((bif b1 then undef else (.bool b5))) rfl (by cases b1 <;> rfl) (by cases b1 <;> rfl) (fun hc _ M => by cases b1 <;> first | (cases hc; done) | exact (by subst hb5; cases b3 <;> rfl)) (by kernel_rfl) (by kernel_rfl) (by kernel_rfl) (fun _ _ _ h => h) M ?_
      simp only [aP, lI, l0, lS]
      obtain ⟨b6, hb6⟩ : ∃ y_, y_ = (b1 || b5) := ⟨_, rfl⟩
      refine readH (i := 22) (some 38) rfl (.bool b6) rfl rfl (fun _ M => by subst hb6; cases b1 <;> rfl) (by kernel_rfl) (by kernel_rfl) (by kernel_rfl) (fun _ _ _ h => h) M ?_
      simp only [aP, lI, l0, lS]
      refine readH (i := 23) (some 39) rfl (.bool b6) rfl rfl (fun _ M => (by kernel_rfl)) (by kernel_rfl) (by kernel_rfl) (by kernel_rfl) (fun _ _ _ h => h) M ?_
      simp only [aP, lI, l0, lS]
      refine mayH (i := 24) (some 40) rfl (!b6) (.slice (some ad) l.length cap) ((bif b6 then undef else (.slice (some ad) l.length cap))) rfl (by cases b6 <;> rfl) (by cases b6 <;> rfl) (fun hc _ M => by cases b6 <;> first | (cases hc; done) | kernel_rfl) (by kernel_rfl) (by kernel_rfl) (by kernel_rfl) (fun _ _ _ h => h) M ?_
      simp only [aP, lI, l0, lS]
      refine mayH (i := 25) (some 41) rfl (!b6) (.int .i64 (j : Int)) ((bif b6 then undef else (.int .i64 (j : Int)))) rfl (by cases b6 <;> rfl) (by cases b6 <;> rfl) (fun hc _ M => by cases b6 <;> first | (cases hc; done) | kernel_rfl) (by kernel_rfl) (by kernel_rfl) (by kernel_rfl) (fun _ _ _ h => h) M ?_
      simp only [aP, lI, l0, lS]
      refine mayH (i := 26) (some 42) rfl (!b6) (.pointer (some (ad.add (j * 2)))) ((bif b6 then undef else (.pointer (some (ad.add (j * 2)))))) rfl (by cases b6 <;> rfl) (by cases b6 <;> rfl) (fun hc _ M => by cases b6 <;> first | (cases hc; done) | exact (idxN 22 43 2 l.length cap ad j _ _ Try.underlying22 (fun _ => by kernel_rfl) hlt rfl rfl rfl _)) (by kernel_rfl) (by kernel_rfl) (by kernel_rfl) (fun _ _ _ h => h) M ?_
      simp only [aP, lI, l0, lS]
      refine mayH (i := 27) (some 43) rfl (!b6) (.pointer (some ((ad.add (j * 2)).add 1))) ((bif b6 then undef else (.pointer (some ((ad.add (j * 2)).add 1))))) rfl (by cases b6 <;> rfl) (by cases b6 <;> rfl) (fun hc _ M => by cases b6 <;> first | (cases hc; done) | kernel_rfl) (by kernel_rfl) (by kernel_rfl) (by kernel_rfl) (fun _ _ _ h => h) M ?_
      simp only [aP, lI, l0, lS]
      refine mayH (i := 28) (some 44) rfl (!b6) (.int .i64 ((rgz l j).2)) ((bif b6 then undef else (.int .i64 ((rgz l j).2)))) rfl (by cases b6 <;> rfl) (by cases b6 <;> rfl) (fun hc _ M => by cases b6 <;> first | (cases hc; done) | exact (load1 3 _ ((ad.add (j * 2)).add 1) _ rfl rfl (fun _ => by kernel_rfl) (((hR.below M.below (Nat.le_refl _)).at j hlt).2))) (by kernel_rfl) (by kernel_rfl) (by kernel_rfl) (fun _ _ _ h => h) M ?_
      simp only [aP, lI, l0, lS]
      refine mayH (i := 29) (some 45) rfl (!b6) (.slice (some ad) l.length cap) ((bif b6 then undef else (.slice (some ad) l.length cap))) rfl (by cases b6 <;> rfl) (by cases b6 <;> rfl) (fun hc _ M => by cases b6 <;> first | (cases hc; done) | kernel_rfl) (by kernel_rfl) (by kernel_rfl) (by kernel_rfl) (fun _ _ _ h => h) M ?_
      simp only [aP, lI, l0, lS]
      refine mayH (i := 30) (some 46) rfl (!b6) (.int .i64 (j : Int)) ((bif b6 then undef else (.int .i64 (j : Int)))) rfl (by cases b6 <;> rfl) (by cases b6 <;> rfl) (fun hc _ M => by cases b6 <;> first | (cases hc; done) | kernel_rfl) (by kernel_rfl) (by kernel_rfl) (by kernel_rfl) (fun _ _ _ h => h) M ?_
      simp only [aP, lI, l0, lS]
      refine mayH (i := 31) (some 47) rfl (!b6) (.pointer (some (ad.add (j * 2)))) ((bif b6 then undef else (.pointer (some (ad.add (j * 2)))))) rfl (by cases b6 <;> rfl) (by cases b6 <;> rfl) (fun hc _ M => by cases b6 <;> first | (cases hc; done) | exact (idxN 22 43 2 l.length cap ad j _ _ Try.underlying22 (fun _ => by kernel_rfl) hlt rfl rfl rfl _)) (by kernel_rfl) (by kernel_rfl) (by kernel_rfl) (fun _ _ _ h => h) M ?_
      simp only [aP, lI, l0, lS]
      refine mayH (i := 32) (some 48) rfl (!b6) (.pointer (some (ad.add (j * 2)))) ((bif b6 then undef else (.pointer (some (ad.add (j * 2)))))) rfl (by cases b6 <;> rfl) (by cases b6 <;> rfl) (fun hc _ M => by cases b6 <;> first | (cases hc; done) | kernel_rfl) (by kernel_rfl) (by kernel_rfl) (by kernel_rfl) (fun _ _ _ h => h) M ?_
      simp only [aP, lI, l0, lS]
      refine mayH (i := 33) (some 49) rfl (!b6) (.int .i64 ((rgz l j).1)) ((bif b6 then undef else (.int .i64 ((rgz l j).1)))) rfl (by cases b6 <;> rfl) (by cases b6 <;> rfl) (fun hc _ M => by cases b6 <;> first | (cases hc; done) | exact (load1 3 _ (ad.add (j * 2)) _ rfl rfl (fun _ => by kernel_rfl) (((hR.below M.below (Nat.le_refl _)).at j hlt).1))) (by kernel_rfl) (by kernel_rfl) (by kernel_rfl) (fun _ _ _ h => h) M ?_
      simp only [aP, lI, l0, lS]
      obtain ⟨b7, hb7⟩ : ∃ y_, y_ = (decide (((rgz l j).2) ≤ ((rgz l j).1))) := ⟨_, rfl⟩
      refine mayH (i := 34) (some 50) rfl (!b6) (.bool b7) ((bif b6 then undef else (.bool b7))) rfl (by cases b6 <;> rfl) (by cases b6 <;> rfl) (fun hc _ M => by cases b6 <;> first | (cases hc; done) | exact (leqI .i64 _ _ _ _ _ _ rfl rfl rfl b7 hb7.symm _)) (by kernel_rfl) (by kernel_rfl) (by kernel_rfl) (fun _ _ _ h => h) M ?_
      simp only [aP, lI, l0, lS]
      obtain ⟨b8, hb8⟩ : ∃ y_, y_ = (b6 || b7) := ⟨_, rfl⟩
      refine readH (i := 35) (some 51) rfl (.bool b8) rfl rfl (fun _ M => by subst hb8; cases b6 <;> rfl) (by kernel_rfl) (by kernel_rfl) (by kernel_rfl) (fun _ _ _ h => h) M ?_
      simp only [aP, lI, l0, lS]
      refine readH (i := 36) (some 52) rfl (.bool b8) rfl rfl (fun _ M => (by kernel_rfl)) (by kernel_rfl) (by kernel_rfl) (by kernel_rfl) (fun _ _ _ h => h) M ?_
      simp only [aP, lI, l0, lS]
      refine mayH (i := 37) (some 53) rfl (!b8) (.slice (some ad) l.length cap) ((bif b8 then undef else (.slice (some ad) l.length cap))) rfl (by cases b8 <;> rfl) (by cases b8 <;> rfl) (fun hc _ M => by cases b8 <;> first | (cases hc; done) | kernel_rfl) (by kernel_rfl) (by kernel_rfl) (by kernel_rfl) (fun _ _ _ h => h) M ?_
      simp only [aP, lI, l0, lS]
      refine mayH (i := 38) (some 54) rfl (!b8) (.int .i64 (j : Int)) ((bif b8 then undef else (.int .i64 (j : Int)))) rfl (by cases b8 <;> rfl) (by cases b8 <;> rfl) (fun hc _ M => by cases b8 <;> first | (cases hc; done) | kernel_rfl) (by kernel_rfl) (by kernel_rfl) (by kernel_rfl) (fun _ _ _ h => h) M ?_
      simp only [aP, lI, l0, lS]
      refine mayH (i := 39) (some 55) rfl (!b8) (.pointer (some (ad.add (j * 2)))) ((bif b8 then undef else (.pointer (some (ad.add (j * 2)))))) rfl (by cases b8 <;> rfl) (by cases b8 <;> rfl) (fun hc _ M => by cases b8 <;> first | (cases hc; done) | exact (idxN 22 43 2 l.length cap ad j _ _ Try.underlying22 (fun _ => by kernel_rfl) hlt rfl rfl rfl _)) (by kernel_rfl) (by kernel_rfl) (by kernel_rfl) (fun _ _ _ h => h) M ?_
      simp only [aP, lI, l0, lS]
      refine mayH (i := 40) (some 56) rfl (!b8) (.pointer (some ((ad.add (j * 2)).add 1))) ((bif b8 then undef else (.pointer (some ((ad.add (j * 2)).add 1))))) rfl (by cases b8 <;> rfl) (by cases b8 <;> rfl) (fun hc _ M => by cases b8 <;> first | (cases hc; done) | kernel_rfl) (by kernel_rfl) (by kernel_rfl) (by kernel_rfl) (fun _ _ _ h => h) M ?_
      simp only [aP, lI, l0, lS]
      refine mayH (i := 41) (some 57) rfl (!b8) (.int .i64 ((rgz l j).2)) ((bif b8 then undef else (.int .i64 ((rgz l j).2)))) rfl (by cases b8 <;> rfl) (by cases b8 <;> rfl) (fun hc _ M => by cases b8 <;> first | (cases hc; done) | exact (load1 3 _ ((ad.add (j * 2)).add 1) _ rfl rfl (fun _ => by kernel_rfl) (((hR.below M.below (Nat.le_refl _)).at j hlt).2))) (by kernel_rfl) (by kernel_rfl) (by kernel_rfl) (fun _ _ _ h => h) M ?_
      simp only [aP, lI, l0, lS]
      refine mayH (i := 42) (some 58) rfl (!b8) (.int .i64 upb) ((bif b8 then undef else (.int .i64 upb))) rfl (by cases b8 <;> rfl) (by cases b8 <;> rfl) (fun hc _ M => by cases b8 <;> first | (cases hc; done) | kernel_rfl) (by kernel_rfl) (by kernel_rfl) (by kernel_rfl) (fun _ _ _ h => h) M ?_
      simp only [aP, lI, l0, lS]
      obtain ⟨b9, hb9⟩ : ∃ y_, y_ = (decide (((rgz l j).2) > upb)) := ⟨_, rfl⟩
      refine mayH (i := 43) (some 59) rfl (!b8) (.bool b9) ((bif b8 then undef else (.bool b9))) rfl (by cases b8 <;> rfl) (by cases b8 <;> rfl) (fun hc _ M => by cases b8 <;> first | (cases hc; done) | exact (gtrI .i64 _ _ _ _ _ _ rfl rfl rfl b9 hb9.symm _)) (by kernel_rfl) (by kernel_rfl) (by kernel_rfl) (fun _ _ _ h => h) M ?_
      simp only [aP, lI, l0, lS]
      obtain ⟨b10, hb10⟩ : ∃ y_, y_ = (b8 || b9) := ⟨_, rfl⟩
      refine readH (i := 44) (some 60) rfl (.bool b10) rfl rfl (fun _ M => by subst hb10; cases b8 <;> rfl) (by kernel_rfl) (by kernel_rfl) (by kernel_rfl) (fun _ _ _ h => h) M ?_
      simp only [aP, lI, l0, lS]
      refine wpAnyH_done (by kernel_rfl) ?_ _
      first | show Exit.then _ _ _ _ _ | show Exit.inBlock _ _ _ _ _
      have hrok : rok (l.drop j) (fr_ l fr j) (ab_ ab j) upb = (!b10 && rok (l.drop (j + 1)) (rgz l j).2 true upb) := by
        rw [drop_rgz l j hlt]
        unfold ab_
        show (!(decide ((rgz l j).1 < fr_ l fr j) || ((ab || decide ((j : Int) > 0)) && (rgz l j).1 == fr_ l fr j) || decide ((rgz l j).2 ≤ (rgz l j).1) || decide (upb < (rgz l j).2)) && _) = _
        simp only [hb1, hb2, hb3, hb4, hb5, hb6, hb7, hb8, hb9, hb10, gt_iff_lt]
      rw [hrok] at hK
      clear hrok hb1 hb2 hb3 hb4 hb5 hb6 hb7 hb8 hb9 hb10
      cases b10 with
      | true =>
        have hA : rise l fr ab upb = false := by unfold rise; rw [hK]; rfl
        clear hK
        go_wp2
        go_ret
        exact ⟨by rw [hA]; rfl, M.below⟩
      | false =>
        rw [Bool.not_false, Bool.true_and] at hK
        go_upto_region 6 with fail
        refine wp_region_list ?_
        refine readL (.slice (some ad) l.length cap) rfl (by kernel_rfl) ?_
        simp only [aP, lI, l0, lS]
        refine readL (.int .i64 (j : Int)) rfl (by kernel_rfl) ?_
        simp only [aP, lI, l0, lS]
        refine readL (.pointer (some (ad.add (j * 2)))) rfl (idxN 22 43 2 l.length cap ad j _ _ Try.underlying22 (fun _ => by kernel_rfl) hlt rfl rfl rfl _) ?_
        simp only [aP, lI, l0, lS]
        refine readL (.pointer (some ((ad.add (j * 2)).add 1))) rfl (by kernel_rfl) ?_
        simp only [aP, lI, l0, lS]
        refine readL (.int .i64 ((rgz l j).2)) rfl (load1 3 _ ((ad.add (j * 2)).add 1) _ rfl rfl (fun _ => by kernel_rfl) (((hR.below M.below (Nat.le_refl _)).at j hlt).2)) ?_
        simp only [aP, lI, l0, lS]
        refine readL (.int .i64 ((rgz l j).2)) rfl (by kernel_rfl) ?_
        simp only [aP, lI, l0, lS]
        first | show Exit.then _ _ _ _ _ | show Exit.inBlock _ _ _ _ _
        have HS := show Hid _ from (And.intro M (show rok l fr ab upb = rok (l.drop (j + 1)) (fr_ l fr (j + 1)) (ab_ ab (j + 1)) upb from by
          rw [hK]
          have e1 : fr_ l fr (j + 1) = (rgz l j).2 := by unfold fr_; rw [if_neg (by omega), Nat.add_sub_cancel]
          have e2 : ab_ ab (j + 1) = true := by unfold ab_; rw [decide_eq_true (by omega)]; simp
          rw [e1, e2]))
        have e1 : (rgz l j).2 = fr_ l fr (j + 1) := by unfold fr_; rw [if_neg (by omega), Nat.add_sub_cancel]
        rw [e1]
        clear M hK e1
        go_wp2
        go_roundw
        case rel => first | exact ⟨j + 1, by omega, rfl, by go_num, HS.out⟩ | ((repeat apply Exists.intro); refine ⟨⟨j + 1, by omega, rfl, ?_, HS.out⟩, rfl⟩ <;> first | rfl | go_num)
        case measure => simp [intOf]; omega
    · obtain rfl : j = l.length := by omega
      have g1 : ¬ ((l.length : Nat) : Int) < ((l.length : Nat) : Int) := by omega
      rw [List.drop_length] at hK
      go_upto_region 7 with fail
      refine wp_region_list ?_
      refine readL (.slice sp l.length cap) rfl (by kernel_rfl) ?_
      simp only [aP, lI, l0, lS]
      refine readL (.int .i64 ((l.length : Nat) : Int)) rfl (lenS _ 22 43 sp l.length cap rfl Try.underlying22 rfl _) ?_
      simp only [aP, lI, l0, lS]
      obtain ⟨b11, hb11⟩ : ∃ y_, y_ = (decide (((l.length : Nat) : Int) ≤ 8)) := ⟨_, rfl⟩
      refine readL (.bool b11) rfl (leqI .i64 _ _ _ _ _ _ rfl rfl rfl b11 hb11.symm _) ?_
      simp only [aP, lI, l0, lS]
      refine readL (.bool b11) rfl (by kernel_rfl) ?_
      simp only [aP, lI, l0, lS]
      first | show Exit.then _ _ _ _ _ | show Exit.inBlock _ _ _ _ _
      have hA : rise l fr ab upb = b11 := by unfold rise; rw [hK, hb11]; show (true && _) = _; rw [Bool.true_and]; congr 1; exact propext (by omega)
      clear hK hb11
      subst hA
      go_wp2
      go_ret
      exact ⟨rfl, M.below⟩
end Go.Proofs.Yteaamgjlkohfcaa

namespace Go.Proofs.Yteaamgjlkohfcaa
open Go.RowKit

def fcs (f : Frm) (rp : Option Addr) (rc : Nat) (bp : Option Addr) (bc : Nat) : List Value := [.int .i64 f.kind, .int .i64 f.pos, .int .i64 f.lim, .slice rp f.rg.length rc, .slice bp f.byt.length bc, .int .u8 (bl f.tok 0), .int .u8 (bl f.tok 1), .int .u8 (bl f.tok 2), .int .u8 (bl f.tok 3), .int .u8 (bl f.tok 4), .int .u8 (bl f.tok 5), .int .u8 (bl f.tok 6), .int .u8 (bl f.tok 7)]
def fchk (f : Frm) : Int := if fok f = true then 0 else 100
def i64 (n : Int) : Prop := -9223372036854775808 ≤ n ∧ n < 9223372036854775808
/-- What a frame's cells speak of. -/
structure FV (w : World) (f : Frm) (rp : Option Addr) (rc : Nat) (bp : Option Addr) (bc : Nat) : Prop where
  rg : Rg w rp f.rg
  rle : f.rg.length ≤ rc
  rnil : rp = none → rc = 0
  rmax : f.rg.length ≤ 140737488351232
  src : Src w bp f.byt.length (bl f.byt)
  ble : f.byt.length ≤ bc
  bnil : bp = none → bc = 0
  bmax : f.byt.length ≤ 140737488351232
  wf : FrW f
  kind : i64 f.kind
  pos : i64 f.pos
  lim : i64 f.lim
theorem FV.below {w w' : World} {f : Frm} {rp bp : Option Addr} {rc bc : Nat} (h : FV w f rp rc bp bc) {B : Nat} (b : Below B w w') (hB : w.heap.size ≤ B) : FV w' f rp rc bp bc :=
  ⟨h.rg.below b hB, h.rle, h.rnil, h.rmax, h.src.below b hB, h.ble, h.bnil, h.bmax, h.wf, h.kind, h.pos, h.lim⟩
theorem tok_val (t : List Int) (h : t.length = 8) (hb : Byts t) : (!decide (val 256 (bl t) 8 = val 256 (fun _ => 0) 8)) = decide (t ≠ z8) := by
  have hi : In 256 8 (bl t) := by have := hb.bl; rw [h] at this; exact this
  have hz : In 256 8 (fun _ => (0 : Int)) := fun _ _ => ⟨Int.le_refl _, show (0 : Int) < 256 by decide⟩
  have key : val 256 (bl t) 8 = val 256 (fun _ => 0) 8 ↔ t = z8 := by
    constructor
    · intro e
      refine bl_ext (by rw [h]; rfl) fun j hj => ?_
      rw [val_inj 256 (by decide) _ _ 8 hi hz e j (by omega)]
      have : j = 0 ∨ j = 1 ∨ j = 2 ∨ j = 3 ∨ j = 4 ∨ j = 5 ∨ j = 6 ∨ j = 7 := by omega
      rcases this with rfl | rfl | rfl | rfl | rfl | rfl | rfl | rfl <;> rfl
    · rintro rfl
      rfl
  by_cases e : t = z8
  · rw [decide_eq_true (key.2 e), decide_eq_false (fun h => h e)]; rfl
  · rw [decide_eq_false (fun h => e (key.1 h)), decide_eq_true e]; rfl

theorem foth_form (f : Frm) : (((((f.kind != 1) && decide (0 < ((f.byt.length : Nat) : Int))) || (((f.kind != 2) && (f.kind != 7)) && (f.lim != 0))) || (((f.kind != 2) && (f.kind != 7)) && decide (0 < ((f.rg.length : Nat) : Int)))) || ((!decide (f.kind = 3 ∨ f.kind = 4)) && decide (f.tok ≠ z8))) =
    ((decide (f.kind ≠ 1) && decide (0 < f.byt.length)) || (decide (f.kind ≠ 2 ∧ f.kind ≠ 7) && decide (f.lim ≠ 0)) || (decide (f.kind ≠ 2 ∧ f.kind ≠ 7) && decide (0 < f.rg.length)) || (decide (f.kind ≠ 3 ∧ f.kind ≠ 4) && decide (f.tok ≠ z8))) := by
  have e1 : decide (0 < ((f.byt.length : Nat) : Int)) = decide (0 < f.byt.length) := decide_eq_decide.2 (by omega)
  have e2 : decide (0 < ((f.rg.length : Nat) : Int)) = decide (0 < f.rg.length) := decide_eq_decide.2 (by omega)
  have e3 : (f.kind != 1) = decide (f.kind ≠ 1) := by by_cases h : f.kind = 1 <;> simp [h]
  have e4 : ((f.kind != 2) && (f.kind != 7)) = decide (f.kind ≠ 2 ∧ f.kind ≠ 7) := by by_cases h : f.kind = 2 <;> by_cases h' : f.kind = 7 <;> simp [h, h']
  have e5 : (f.lim != 0) = decide (f.lim ≠ 0) := by by_cases h : f.lim = 0 <;> simp [h]
  have e6 : (!decide (f.kind = 3 ∨ f.kind = 4)) = decide (f.kind ≠ 3 ∧ f.kind ≠ 4) := by by_cases h : f.kind = 3 <;> by_cases h' : f.kind = 4 <;> simp [h, h']
  rw [e1, e2, e3, e4, e5, e6]

set_option maxRecDepth 10000 in
set_option maxHeartbeats 32000000 in
theorem rcheck_any (f : Frm) (rp : Option Addr) (rc : Nat) (bp : Option Addr) (bc : Nat) (w : World) (hf : FV w f rp rc bp bc) :
    Calls Try.prog 11 #[.agg (fcs f rp rc bp bc).toArray] w fun e w' => e = .returned (.int .i64 (fchk f)) ∧ Below w.heap.size w w' := by
  have M := Mm.init w
  unfold fcs
  go_enter Try.func11, Try.ntmps11
  go_upto_region 0 with fail
  refine wp_region_list ?_
  refine actL (w' := w.alloc (.cells #[.int .i64 f.kind, .int .i64 f.pos, .int .i64 f.lim, .slice rp f.rg.length rc, .slice bp f.byt.length bc, .int .u8 (bl f.tok 0), .int .u8 (bl f.tok 1), .int .u8 (bl f.tok 2), .int .u8 (bl f.tok 3), .int .u8 (bl f.tok 4), .int .u8 (bl f.tok 5), .int .u8 (bl f.tok 6), .int .u8 (bl f.tok 7)] 26)) (.pointer (some ⟨w.heap.size, 0, none⟩)) rfl (by kernel_rfl) ?_
  simp only [aP, lI, l0, lS]
  replace M := M.box #[.int .i64 f.kind, .int .i64 f.pos, .int .i64 f.lim, .slice rp f.rg.length rc, .slice bp f.byt.length bc, .int .u8 (bl f.tok 0), .int .u8 (bl f.tok 1), .int .u8 (bl f.tok 2), .int .u8 (bl f.tok 3), .int .u8 (bl f.tok 4), .int .u8 (bl f.tok 5), .int .u8 (bl f.tok 6), .int .u8 (bl f.tok 7)] 26 w.heap.size rfl
  generalize w.alloc (.cells #[.int .i64 f.kind, .int .i64 f.pos, .int .i64 f.lim, .slice rp f.rg.length rc, .slice bp f.byt.length bc, .int .u8 (bl f.tok 0), .int .u8 (bl f.tok 1), .int .u8 (bl f.tok 2), .int .u8 (bl f.tok 3), .int .u8 (bl f.tok 4), .int .u8 (bl f.tok 5), .int .u8 (bl f.tok 6), .int .u8 (bl f.tok 7)] 26) = w1 at M ⊢
  generalize w.heap.size = B1 at *
  replace M : Mm w [(B1, [.int .i64 f.kind, .int .i64 f.pos, .int .i64 f.lim, .slice rp f.rg.length rc, .slice bp f.byt.length bc, .int .u8 (bl f.tok 0), .int .u8 (bl f.tok 1), .int .u8 (bl f.tok 2), .int .u8 (bl f.tok 3), .int .u8 (bl f.tok 4), .int .u8 (bl f.tok 5), .int .u8 (bl f.tok 6), .int .u8 (bl f.tok 7)])] w1 := M
  refine readL (.int .i64 0) rfl (by kernel_rfl) ?_
  simp only [aP, lI, l0, lS]
  first | show Exit.then _ _ _ _ _ | show Exit.inBlock _ _ _ _ _
  go_upto_region 1 with fail
  refine wp_region_list ?_
  refine readL (.pointer (some ⟨B1, 0, none⟩)) rfl (by kernel_rfl) ?_
  simp only [aP, lI, l0, lS]
  refine readL (.int .i64 f.kind) rfl (load1 3 _ ⟨B1, 0, none⟩ _ rfl rfl (fun _ => by kernel_rfl) (M.get List.mem_cons_self 0 _ rfl)) ?_
  simp only [aP, lI, l0, lS]
  obtain ⟨b1, hb1⟩ : ∃ y_, y_ = ((f.kind : Int) == (3 : Int)) := ⟨_, rfl⟩
  refine readL (.bool b1) rfl (eqlI .i64 _ _ _ _ _ _ rfl rfl rfl b1 hb1.symm _) ?_
  simp only [aP, lI, l0, lS]
  refine readL (.bool b1) rfl (by kernel_rfl) ?_
  simp only [aP, lI, l0, lS]
  refine mayL (!b1) (.pointer (some ⟨B1, 0, none⟩)) ((bif b1 then undef else (.pointer (some ⟨B1, 0, none⟩)))) (by cases b1 <;> rfl) (by cases b1 <;> rfl) (fun hc => by cases b1 <;> first | (cases hc; done) | kernel_rfl) ?_
  simp only [aP, lI, l0, lS]
  refine mayL (!b1) (.int .i64 f.kind) ((bif b1 then undef else (.int .i64 f.kind))) (by cases b1 <;> rfl) (by cases b1 <;> rfl) (fun hc => by cases b1 <;> first | (cases hc; done) | exact (load1 3 _ ⟨B1, 0, none⟩ _ rfl rfl (fun _ => by kernel_rfl) (M.get List.mem_cons_self 0 _ rfl))) ?_
  simp only [aP, lI, l0, lS]
  obtain ⟨b2, hb2⟩ : ∃ y_, y_ = ((f.kind : Int) == (4 : Int)) := ⟨_, rfl⟩
  refine mayL (!b1) (.bool b2) ((bif b1 then undef else (.bool b2))) (by cases b1 <;> rfl) (by cases b1 <;> rfl) (fun hc => by cases b1 <;> first | (cases hc; done) | exact (eqlI .i64 _ _ _ _ _ _ rfl rfl rfl b2 hb2.symm _)) ?_
  simp only [aP, lI, l0, lS]
  obtain ⟨b3, hb3⟩ : ∃ y_, y_ = (b1 || b2) := ⟨_, rfl⟩
  refine readL (.bool b3) rfl (by subst hb3; cases b1 <;> rfl) ?_
  simp only [aP, lI, l0, lS]
  refine readL (.bool b3) rfl (by kernel_rfl) ?_
  simp only [aP, lI, l0, lS]
  first | show Exit.then _ _ _ _ _ | show Exit.inBlock _ _ _ _ _
  have htk : b3 = decide (f.kind = 3 ∨ f.kind = 4) := by
    rw [hb3, hb1, hb2]
    by_cases h3 : f.kind = 3
    · simp [h3]
    · by_cases h4 : f.kind = 4 <;> simp [h3, h4]
  clear hb1 hb2 hb3
  go_upto_region 2 with fail
  refine wp_region_list ?_
  refine readL (.bool true) rfl (by kernel_rfl) ?_
  simp only [aP, lI, l0, lS]
  first | show Exit.then _ _ _ _ _ | show Exit.inBlock _ _ _ _ _
  go_upto_region 3 with fail
  refine wp_region_list ?_
  refine readL (.pointer (some ⟨B1, 0, none⟩)) rfl (by kernel_rfl) ?_
  simp only [aP, lI, l0, lS]
  refine readL (.int .i64 f.kind) rfl (load1 3 _ ⟨B1, 0, none⟩ _ rfl rfl (fun _ => by kernel_rfl) (M.get List.mem_cons_self 0 _ rfl)) ?_
  simp only [aP, lI, l0, lS]
  first | show Exit.then _ _ _ _ _ | show Exit.inBlock _ _ _ _ _
  go_upto_block 0 with fail
  go_cut [4] from 5 (fun ok wx => ok = .bool (fkd f) ∧ Mm w [(B1, [.int .i64 f.kind, .int .i64 f.pos, .int .i64 f.lim, .slice rp f.rg.length rc, .slice bp f.byt.length bc, .int .u8 (bl f.tok 0), .int .u8 (bl f.tok 1), .int .u8 (bl f.tok 2), .int .u8 (bl f.tok 3), .int .u8 (bl f.tok 4), .int .u8 (bl f.tok 5), .int .u8 (bl f.tok 6), .int .u8 (bl f.tok 7)])] wx)
  case first =>
    go_upto_region 5 with fail
    refine wp_region_list ?_
    obtain ⟨b4, hb4⟩ : ∃ y_, y_ = ((f.kind : Int) == (1 : Int)) := ⟨_, rfl⟩
    refine readL (.bool b4) rfl (eqlI .i64 _ _ _ _ _ _ rfl rfl rfl b4 hb4.symm _) ?_
    simp only [aP, lI, l0, lS]
    refine readL (.bool b4) rfl (by kernel_rfl) ?_
    simp only [aP, lI, l0, lS]
    first | show Exit.then _ _ _ _ _ | show Exit.inBlock _ _ _ _ _
    cases b4 with
    | true =>
      have k1 : f.kind = 1 := by simpa using hb4.symm
      go_upto_region 6 with fail
      refine wp_region_list ?_
      refine readL (.pointer (some ⟨B1, 4, none⟩)) rfl (by kernel_rfl) ?_
      simp only [aP, lI, l0, lS]
      refine readL (.slice bp f.byt.length bc) rfl (load1 23 _ ⟨B1, 4, none⟩ _ rfl rfl (fun _ => by kernel_rfl) (M.get List.mem_cons_self 4 _ rfl)) ?_
      simp only [aP, lI, l0, lS]
      refine readL (.int .i64 ((f.byt.length : Nat) : Int)) rfl (lenS _ 23 5 bp f.byt.length bc rfl Try.underlying23 rfl _) ?_
      simp only [aP, lI, l0, lS]
      obtain ⟨b5, hb5⟩ : ∃ y_, y_ = (decide (((f.byt.length : Nat) : Int) ≥ 1)) := ⟨_, rfl⟩
      refine readL (.bool b5) rfl (geqI .i64 _ _ _ _ _ _ rfl rfl rfl b5 hb5.symm _) ?_
      simp only [aP, lI, l0, lS]
      refine readL (.bool b5) rfl (by kernel_rfl) ?_
      simp only [aP, lI, l0, lS]
      refine mayL (b5) (.pointer (some ⟨B1, 4, none⟩)) ((bif b5 then (.pointer (some ⟨B1, 4, none⟩)) else undef)) (by cases b5 <;> rfl) (by cases b5 <;> rfl) (fun hc => by cases b5 <;> first | (cases hc; done) | kernel_rfl) ?_
      simp only [aP, lI, l0, lS]
      refine mayL (b5) (.slice bp f.byt.length bc) ((bif b5 then (.slice bp f.byt.length bc) else undef)) (by cases b5 <;> rfl) (by cases b5 <;> rfl) (fun hc => by cases b5 <;> first | (cases hc; done) | exact (load1 23 _ ⟨B1, 4, none⟩ _ rfl rfl (fun _ => by kernel_rfl) (M.get List.mem_cons_self 4 _ rfl))) ?_
      simp only [aP, lI, l0, lS]
      refine mayL (b5) (.int .i64 ((f.byt.length : Nat) : Int)) ((bif b5 then (.int .i64 ((f.byt.length : Nat) : Int)) else undef)) (by cases b5 <;> rfl) (by cases b5 <;> rfl) (fun hc => by cases b5 <;> first | (cases hc; done) | exact (lenS _ 23 5 bp f.byt.length bc rfl Try.underlying23 rfl _)) ?_
      simp only [aP, lI, l0, lS]
      obtain ⟨b6, hb6⟩ : ∃ y_, y_ = (decide (((f.byt.length : Nat) : Int) ≤ 128)) := ⟨_, rfl⟩
      refine mayL (b5) (.bool b6) ((bif b5 then (.bool b6) else undef)) (by cases b5 <;> rfl) (by cases b5 <;> rfl) (fun hc => by cases b5 <;> first | (cases hc; done) | exact (leqI .i64 _ _ _ _ _ _ rfl rfl rfl b6 hb6.symm _)) ?_
      simp only [aP, lI, l0, lS]
      obtain ⟨b7, hb7⟩ : ∃ y_, y_ = (b5 && b6) := ⟨_, rfl⟩
      refine readL (.bool b7) rfl (by subst hb7; cases b5 <;> rfl) ?_
      simp only [aP, lI, l0, lS]
      refine readL (.bool b7) rfl (by kernel_rfl) ?_
      simp only [aP, lI, l0, lS]
      first | show Exit.then _ _ _ _ _ | show Exit.inBlock _ _ _ _ _
      have hA : b7 = fkd f := by
        unfold fkd
        rw [if_pos k1]
        simp only [hb5, hb6, hb7]
        rw [decide_eq_decide.2 (show (((f.byt.length : Nat) : Int) ≥ 1) ↔ 1 ≤ f.byt.length by omega), decide_eq_decide.2 (show (((f.byt.length : Nat) : Int) ≤ 128) ↔ f.byt.length ≤ 128 by omega)]
      replace hA := show Hid _ from hA
      clear htk
      try clear k1
      try clear k2
      try clear k3
      try clear k5
      try clear k6
      try clear k7
      try clear hb1
      try clear hb2
      try clear hb3
      try clear hb4
      try clear hb5
      try clear hb6
      try clear hb7
      go_wp2
      go_meet
      exact ⟨by rw [hA.out], M⟩
    | false =>
      have k1 : ¬ f.kind = 1 := by simpa using hb4.symm
      go_upto_region 7 with fail
      refine wp_region_list ?_
      obtain ⟨b8, hb8⟩ : ∃ y_, y_ = ((f.kind : Int) == (2 : Int)) := ⟨_, rfl⟩
      refine readL (.bool b8) rfl (eqlI .i64 _ _ _ _ _ _ rfl rfl rfl b8 hb8.symm _) ?_
      simp only [aP, lI, l0, lS]
      refine readL (.bool b8) rfl (by kernel_rfl) ?_
      simp only [aP, lI, l0, lS]
      first | show Exit.then _ _ _ _ _ | show Exit.inBlock _ _ _ _ _
      cases b8 with
      | true =>
        have k2 : f.kind = 2 := by simpa using hb8.symm
        go_upto_region 8 with fail
        refine wp_region_list ?_
        refine readL (.pointer (some ⟨B1, 1, none⟩)) rfl (by kernel_rfl) ?_
        simp only [aP, lI, l0, lS]
        refine readL (.int .i64 f.pos) rfl (load1 3 _ ⟨B1, 1, none⟩ _ rfl rfl (fun _ => by kernel_rfl) (M.get List.mem_cons_self 1 _ rfl)) ?_
        simp only [aP, lI, l0, lS]
        obtain ⟨b9, hb9⟩ : ∃ y_, y_ = (nmb f.pos) := ⟨_, rfl⟩
        have hC : Calls Try.prog 20 #[.int .i64 f.pos] w1 (fun e w' => e = .returned (.bool b9) ∧ Below w1.heap.size w1 w') := (by rw [hb9]; exact rnumber_any _ _)
        refine callL rfl (fun _ => by kernel_rfl) (hC) ?_
        rintro e w2 ⟨rfl, l⟩
        replace M := M.call l
        refine ⟨_, rfl, ?_⟩
        clear l hC
        simp only [aP, lI, l0, lS]
        refine readL (.bool b9) rfl (by kernel_rfl) ?_
        simp only [aP, lI, l0, lS]
        refine mayL (b9) (.pointer (some ⟨B1, 2, none⟩)) ((bif b9 then (.pointer (some ⟨B1, 2, none⟩)) else undef)) (by cases b9 <;> rfl) (by cases b9 <;> rfl) (fun hc => by cases b9 <;> first | (cases hc; done) | kernel_rfl) ?_
        simp only [aP, lI, l0, lS]
        refine mayL (b9) (.int .i64 f.lim) ((bif b9 then (.int .i64 f.lim) else undef)) (by cases b9 <;> rfl) (by cases b9 <;> rfl) (fun hc => by cases b9 <;> first | (cases hc; done) | exact (load1 3 _ ⟨B1, 2, none⟩ _ rfl rfl (fun _ => by kernel_rfl) (M.get List.mem_cons_self 2 _ rfl))) ?_
        simp only [aP, lI, l0, lS]
        obtain ⟨b10, hb10⟩ : ∃ y_, y_ = (nmb f.lim) := ⟨_, rfl⟩
        have hC : Calls Try.prog 20 #[.int .i64 f.lim] w2 (fun e w' => e = .returned (.bool b10) ∧ Below w2.heap.size w2 w') := (by rw [hb10]; exact rnumber_any _ _)
        refine mayCallL (b9) (.bool b10) ((bif b9 then (.bool b10) else undef)) 20 #[.int .i64 f.lim] (by cases b9 <;> rfl) (by cases b9 <;> rfl) (fun hc => by cases b9 <;> first | (cases hc; done) | (intro _; kernel_rfl)) (fun _ => hC) ?_
        intro w3 l
        replace M := M.call l
        clear l hC
        simp only [aP, lI, l0, lS]
        obtain ⟨b11, hb11⟩ : ∃ y_, y_ = (b9 && b10) := ⟨_, rfl⟩
        refine readL (.bool b11) rfl (by subst hb11; cases b9 <;> rfl) ?_
        simp only [aP, lI, l0, lS]
        refine readL (.bool b11) rfl (by kernel_rfl) ?_
        simp only [aP, lI, l0, lS]
        refine mayL (b11) (.pointer (some ⟨B1, 3, none⟩)) ((bif b11 then (.pointer (some ⟨B1, 3, none⟩)) else undef)) (by cases b11 <;> rfl) (by cases b11 <;> rfl) (fun hc => by cases b11 <;> first | (cases hc; done) | kernel_rfl) ?_
        simp only [aP, lI, l0, lS]
        refine mayL (b11) (.slice rp f.rg.length rc) ((bif b11 then (.slice rp f.rg.length rc) else undef)) (by cases b11 <;> rfl) (by cases b11 <;> rfl) (fun hc => by cases b11 <;> first | (cases hc; done) | exact (load1 22 _ ⟨B1, 3, none⟩ _ rfl rfl (fun _ => by kernel_rfl) (M.get List.mem_cons_self 3 _ rfl))) ?_
        simp only [aP, lI, l0, lS]
        refine mayL (b11) (.pointer (some ⟨B1, 1, none⟩)) ((bif b11 then (.pointer (some ⟨B1, 1, none⟩)) else undef)) (by cases b11 <;> rfl) (by cases b11 <;> rfl) (fun hc => by cases b11 <;> first | (cases hc; done) | kernel_rfl) ?_
        simp only [aP, lI, l0, lS]
        refine mayL (b11) (.int .i64 f.pos) ((bif b11 then (.int .i64 f.pos) else undef)) (by cases b11 <;> rfl) (by cases b11 <;> rfl) (fun hc => by cases b11 <;> first | (cases hc; done) | exact (load1 3 _ ⟨B1, 1, none⟩ _ rfl rfl (fun _ => by kernel_rfl) (M.get List.mem_cons_self 1 _ rfl))) ?_
        simp only [aP, lI, l0, lS]
        obtain ⟨b12, hb12⟩ : ∃ y_, y_ = (rise f.rg f.pos true 4611686018427387903) := ⟨_, rfl⟩
        have hC : Calls Try.prog 21 #[.slice rp f.rg.length rc, .int .i64 f.pos, .bool true, .int .i64 4611686018427387903] w3 (fun e w' => e = .returned (.bool b12) ∧ Below w3.heap.size w3 w') := (by rw [hb12]; exact rrising_any rp rc f.rg (by have := hf.rmax; omega) _ _ _ _ (hf.rg.below M.below (Nat.le_refl _)))
        refine mayCallL (b11) (.bool b12) ((bif b11 then (.bool b12) else undef)) 21 #[.slice rp f.rg.length rc, .int .i64 f.pos, .bool true, .int .i64 4611686018427387903] (by cases b11 <;> rfl) (by cases b11 <;> rfl) (fun hc => by cases b11 <;> first | (cases hc; done) | (intro _; kernel_rfl)) (fun _ => hC) ?_
        intro w4 l
        replace M := M.call l
        clear l hC
        simp only [aP, lI, l0, lS]
        obtain ⟨b13, hb13⟩ : ∃ y_, y_ = (b11 && b12) := ⟨_, rfl⟩
        refine readL (.bool b13) rfl (by subst hb13; cases b11 <;> rfl) ?_
        simp only [aP, lI, l0, lS]
        refine readL (.bool b13) rfl (by kernel_rfl) ?_
        simp only [aP, lI, l0, lS]
        first | show Exit.then _ _ _ _ _ | show Exit.inBlock _ _ _ _ _
        have hA : b13 = fkd f := by
          unfold fkd
          rw [if_neg k1, if_pos k2]
          simp only [hb9, hb10, hb11, hb12, hb13, MX]
        replace hA := show Hid _ from hA
        clear htk
        try clear k1
        try clear k2
        try clear k3
        try clear k5
        try clear k6
        try clear k7
        try clear hb1
        try clear hb2
        try clear hb3
        try clear hb4
        try clear hb8
        try clear hb9
        try clear hb10
        try clear hb11
        try clear hb12
        try clear hb13
        go_wp2
        go_meet
        exact ⟨by rw [hA.out], M⟩
      | false =>
        have k2 : ¬ f.kind = 2 := by simpa using hb8.symm
        go_upto_region 9 with fail
        refine wp_region_list ?_
        obtain ⟨b14, hb14⟩ : ∃ y_, y_ = ((f.kind : Int) == (3 : Int)) := ⟨_, rfl⟩
        refine readL (.bool b14) rfl (eqlI .i64 _ _ _ _ _ _ rfl rfl rfl b14 hb14.symm _) ?_
        simp only [aP, lI, l0, lS]
        refine readL (.bool b14) rfl (by kernel_rfl) ?_
        simp only [aP, lI, l0, lS]
        first | show Exit.then _ _ _ _ _ | show Exit.inBlock _ _ _ _ _
        cases b14 with
        | true =>
          have k3 : f.kind = 3 ∨ f.kind = 4 := .inl (by simpa using hb14.symm)
          go_upto_region 11 with fail
          refine wp_region_list ?_
          refine readL (.pointer (some ⟨B1, 1, none⟩)) rfl (by kernel_rfl) ?_
          simp only [aP, lI, l0, lS]
          refine readL (.int .i64 f.pos) rfl (load1 3 _ ⟨B1, 1, none⟩ _ rfl rfl (fun _ => by kernel_rfl) (M.get List.mem_cons_self 1 _ rfl)) ?_
          simp only [aP, lI, l0, lS]
          obtain ⟨b15, hb15⟩ : ∃ y_, y_ = ((f.pos : Int) == (0 : Int)) := ⟨_, rfl⟩
          refine readL (.bool b15) rfl (eqlI .i64 _ _ _ _ _ _ rfl rfl rfl b15 hb15.symm _) ?_
          simp only [aP, lI, l0, lS]
          refine readL (.bool b15) rfl (by kernel_rfl) ?_
          simp only [aP, lI, l0, lS]
          first | show Exit.then _ _ _ _ _ | show Exit.inBlock _ _ _ _ _
          have hA : b15 = fkd f := by
            unfold fkd
            rw [if_neg k1, if_neg k2, if_pos k3]
            exact hb15
          replace hA := show Hid _ from hA
          clear htk
          try clear k1
          try clear k2
          try clear k3
          try clear k5
          try clear k6
          try clear k7
          try clear hb1
          try clear hb2
          try clear hb3
          try clear hb4
          try clear hb8
          try clear hb14
          try clear hb15
          go_wp2
          go_meet
          exact ⟨by rw [hA.out], M⟩
        | false =>
          go_upto_region 10 with fail
          refine wp_region_list ?_
          obtain ⟨b16, hb16⟩ : ∃ y_, y_ = ((f.kind : Int) == (4 : Int)) := ⟨_, rfl⟩
          refine readL (.bool b16) rfl (eqlI .i64 _ _ _ _ _ _ rfl rfl rfl b16 hb16.symm _) ?_
          simp only [aP, lI, l0, lS]
          refine readL (.bool b16) rfl (by kernel_rfl) ?_
          simp only [aP, lI, l0, lS]
          first | show Exit.then _ _ _ _ _ | show Exit.inBlock _ _ _ _ _
          cases b16 with
          | true =>
            have k3 : f.kind = 3 ∨ f.kind = 4 := .inr (by simpa using hb16.symm)
            go_upto_region 11 with fail
            refine wp_region_list ?_
            refine readL (.pointer (some ⟨B1, 1, none⟩)) rfl (by kernel_rfl) ?_
            simp only [aP, lI, l0, lS]
            refine readL (.int .i64 f.pos) rfl (load1 3 _ ⟨B1, 1, none⟩ _ rfl rfl (fun _ => by kernel_rfl) (M.get List.mem_cons_self 1 _ rfl)) ?_
            simp only [aP, lI, l0, lS]
            obtain ⟨b17, hb17⟩ : ∃ y_, y_ = ((f.pos : Int) == (0 : Int)) := ⟨_, rfl⟩
            refine readL (.bool b17) rfl (eqlI .i64 _ _ _ _ _ _ rfl rfl rfl b17 hb17.symm _) ?_
            simp only [aP, lI, l0, lS]
            refine readL (.bool b17) rfl (by kernel_rfl) ?_
            simp only [aP, lI, l0, lS]
            first | show Exit.then _ _ _ _ _ | show Exit.inBlock _ _ _ _ _
            have hA : b17 = fkd f := by
              unfold fkd
              rw [if_neg k1, if_neg k2, if_pos k3]
              exact hb17
            replace hA := show Hid _ from hA
            clear htk
            try clear k1
            try clear k2
            try clear k3
            try clear k5
            try clear k6
            try clear k7
            try clear hb1
            try clear hb2
            try clear hb3
            try clear hb4
            try clear hb8
            try clear hb14
            try clear hb16
            try clear hb17
            go_wp2
            go_meet
            exact ⟨by rw [hA.out], M⟩
          | false =>
            have k3 : ¬ (f.kind = 3 ∨ f.kind = 4) := by
              have e1 : ¬ f.kind = 3 := by simpa using hb14.symm
              have e2 : ¬ f.kind = 4 := by simpa using hb16.symm
              omega
            go_upto_region 12 with fail
            refine wp_region_list ?_
            obtain ⟨b18, hb18⟩ : ∃ y_, y_ = ((f.kind : Int) == (5 : Int)) := ⟨_, rfl⟩
            refine readL (.bool b18) rfl (eqlI .i64 _ _ _ _ _ _ rfl rfl rfl b18 hb18.symm _) ?_
            simp only [aP, lI, l0, lS]
            refine readL (.bool b18) rfl (by kernel_rfl) ?_
            simp only [aP, lI, l0, lS]
            first | show Exit.then _ _ _ _ _ | show Exit.inBlock _ _ _ _ _
            cases b18 with
            | true =>
              have k5 : f.kind = 5 := by simpa using hb18.symm
              go_upto_region 13 with fail
              refine wp_region_list ?_
              refine readL (.pointer (some ⟨B1, 1, none⟩)) rfl (by kernel_rfl) ?_
              simp only [aP, lI, l0, lS]
              refine readL (.int .i64 f.pos) rfl (load1 3 _ ⟨B1, 1, none⟩ _ rfl rfl (fun _ => by kernel_rfl) (M.get List.mem_cons_self 1 _ rfl)) ?_
              simp only [aP, lI, l0, lS]
              obtain ⟨b19, hb19⟩ : ∃ y_, y_ = (decide (f.pos ≤ 65535)) := ⟨_, rfl⟩
              refine readL (.bool b19) rfl (leqI .i64 _ _ _ _ _ _ rfl rfl rfl b19 hb19.symm _) ?_
              simp only [aP, lI, l0, lS]
              refine readL (.bool b19) rfl (by kernel_rfl) ?_
              simp only [aP, lI, l0, lS]
              first | show Exit.then _ _ _ _ _ | show Exit.inBlock _ _ _ _ _
              have hA : b19 = fkd f := by
                unfold fkd
                rw [if_neg k1, if_neg k2, if_neg k3, if_pos k5]
                exact hb19
              replace hA := show Hid _ from hA
              clear htk
              try clear k1
              try clear k2
              try clear k3
              try clear k5
              try clear k6
              try clear k7
              try clear hb1
              try clear hb2
              try clear hb3
              try clear hb4
              try clear hb8
              try clear hb14
              try clear hb16
              try clear hb18
              try clear hb19
              go_wp2
              go_meet
              exact ⟨by rw [hA.out], M⟩
            | false =>
              have k5 : ¬ f.kind = 5 := by simpa using hb18.symm
              go_upto_region 14 with fail
              refine wp_region_list ?_
              obtain ⟨b20, hb20⟩ : ∃ y_, y_ = ((f.kind : Int) == (6 : Int)) := ⟨_, rfl⟩
              refine readL (.bool b20) rfl (eqlI .i64 _ _ _ _ _ _ rfl rfl rfl b20 hb20.symm _) ?_
              simp only [aP, lI, l0, lS]
              refine readL (.bool b20) rfl (by kernel_rfl) ?_
              simp only [aP, lI, l0, lS]
              first | show Exit.then _ _ _ _ _ | show Exit.inBlock _ _ _ _ _
              cases b20 with
              | true =>
                have k6 : f.kind = 6 := by simpa using hb20.symm
                have hA : true = fkd f := by
                  unfold fkd
                  rw [if_neg k1, if_neg k2, if_neg k3, if_neg k5, if_pos k6]
                replace hA := show Hid _ from hA
                clear htk
                try clear k1
                try clear k2
                try clear k3
                try clear k5
                try clear k6
                try clear k7
                try clear hb1
                try clear hb2
                try clear hb3
                try clear hb4
                try clear hb8
                try clear hb14
                try clear hb16
                try clear hb18
                try clear hb20
                go_wp2
                go_meet
                exact ⟨by rw [hA.out], M⟩
              | false =>
                have k6 : ¬ f.kind = 6 := by simpa using hb20.symm
                go_upto_region 15 with fail
                refine wp_region_list ?_
                obtain ⟨b21, hb21⟩ : ∃ y_, y_ = ((f.kind : Int) == (7 : Int)) := ⟨_, rfl⟩
                refine readL (.bool b21) rfl (eqlI .i64 _ _ _ _ _ _ rfl rfl rfl b21 hb21.symm _) ?_
                simp only [aP, lI, l0, lS]
                refine readL (.bool b21) rfl (by kernel_rfl) ?_
                simp only [aP, lI, l0, lS]
                first | show Exit.then _ _ _ _ _ | show Exit.inBlock _ _ _ _ _
                cases b21 with
                | true =>
                  have k7 : f.kind = 7 := by simpa using hb21.symm
                  go_upto_region 16 with fail
                  refine wp_region_list ?_
                  refine readL (.pointer (some ⟨B1, 1, none⟩)) rfl (by kernel_rfl) ?_
                  simp only [aP, lI, l0, lS]
                  refine readL (.int .i64 f.pos) rfl (load1 3 _ ⟨B1, 1, none⟩ _ rfl rfl (fun _ => by kernel_rfl) (M.get List.mem_cons_self 1 _ rfl)) ?_
                  simp only [aP, lI, l0, lS]
                  obtain ⟨b22, hb22⟩ : ∃ y_, y_ = (nmb f.pos) := ⟨_, rfl⟩
                  have hC : Calls Try.prog 20 #[.int .i64 f.pos] w1 (fun e w' => e = .returned (.bool b22) ∧ Below w1.heap.size w1 w') := (by rw [hb22]; exact rnumber_any _ _)
                  refine callL rfl (fun _ => by kernel_rfl) (hC) ?_
                  rintro e w5 ⟨rfl, l⟩
                  replace M := M.call l
                  refine ⟨_, rfl, ?_⟩
                  clear l hC
                  simp only [aP, lI, l0, lS]
                  refine readL (.bool b22) rfl (by kernel_rfl) ?_
                  simp only [aP, lI, l0, lS]
                  refine mayL (b22) (.pointer (some ⟨B1, 2, none⟩)) ((bif b22 then (.pointer (some ⟨B1, 2, none⟩)) else undef)) (by cases b22 <;> rfl) (by cases b22 <;> rfl) (fun hc => by cases b22 <;> first | (cases hc; done) | kernel_rfl) ?_
                  simp only [aP, lI, l0, lS]
                  refine mayL (b22) (.int .i64 f.lim) ((bif b22 then (.int .i64 f.lim) else undef)) (by cases b22 <;> rfl) (by cases b22 <;> rfl) (fun hc => by cases b22 <;> first | (cases hc; done) | exact (load1 3 _ ⟨B1, 2, none⟩ _ rfl rfl (fun _ => by kernel_rfl) (M.get List.mem_cons_self 2 _ rfl))) ?_
                  simp only [aP, lI, l0, lS]
                  obtain ⟨b23, hb23⟩ : ∃ y_, y_ = (decide (f.lim ≥ 0)) := ⟨_, rfl⟩
                  refine mayL (b22) (.bool b23) ((bif b22 then (.bool b23) else undef)) (by cases b22 <;> rfl) (by cases b22 <;> rfl) (fun hc => by cases b22 <;> first | (cases hc; done) | exact (geqI .i64 _ _ _ _ _ _ rfl rfl rfl b23 hb23.symm _)) ?_
                  simp only [aP, lI, l0, lS]
                  obtain ⟨b24, hb24⟩ : ∃ y_, y_ = (b22 && b23) := ⟨_, rfl⟩
                  refine readL (.bool b24) rfl (by subst hb24; cases b22 <;> rfl) ?_
                  simp only [aP, lI, l0, lS]
                  refine readL (.bool b24) rfl (by kernel_rfl) ?_
                  simp only [aP, lI, l0, lS]
                  refine mayL (b24) (.pointer (some ⟨B1, 2, none⟩)) ((bif b24 then (.pointer (some ⟨B1, 2, none⟩)) else undef)) (by cases b24 <;> rfl) (by cases b24 <;> rfl) (fun hc => by cases b24 <;> first | (cases hc; done) | kernel_rfl) ?_
                  simp only [aP, lI, l0, lS]
                  refine mayL (b24) (.int .i64 f.lim) ((bif b24 then (.int .i64 f.lim) else undef)) (by cases b24 <;> rfl) (by cases b24 <;> rfl) (fun hc => by cases b24 <;> first | (cases hc; done) | exact (load1 3 _ ⟨B1, 2, none⟩ _ rfl rfl (fun _ => by kernel_rfl) (M.get List.mem_cons_self 2 _ rfl))) ?_
                  simp only [aP, lI, l0, lS]
                  obtain ⟨b25, hb25⟩ : ∃ y_, y_ = (decide (f.lim ≤ 65535)) := ⟨_, rfl⟩
                  refine mayL (b24) (.bool b25) ((bif b24 then (.bool b25) else undef)) (by cases b24 <;> rfl) (by cases b24 <;> rfl) (fun hc => by cases b24 <;> first | (cases hc; done) | exact (leqI .i64 _ _ _ _ _ _ rfl rfl rfl b25 hb25.symm _)) ?_
                  simp only [aP, lI, l0, lS]
                  obtain ⟨b26, hb26⟩ : ∃ y_, y_ = (b24 && b25) := ⟨_, rfl⟩
                  refine readL (.bool b26) rfl (by subst hb26; cases b24 <;> rfl) ?_
                  simp only [aP, lI, l0, lS]
                  refine readL (.bool b26) rfl (by kernel_rfl) ?_
                  simp only [aP, lI, l0, lS]
                  refine mayL (b26) (.pointer (some ⟨B1, 3, none⟩)) ((bif b26 then (.pointer (some ⟨B1, 3, none⟩)) else undef)) (by cases b26 <;> rfl) (by cases b26 <;> rfl) (fun hc => by cases b26 <;> first | (cases hc; done) | kernel_rfl) ?_
                  simp only [aP, lI, l0, lS]
                  refine mayL (b26) (.slice rp f.rg.length rc) ((bif b26 then (.slice rp f.rg.length rc) else undef)) (by cases b26 <;> rfl) (by cases b26 <;> rfl) (fun hc => by cases b26 <;> first | (cases hc; done) | exact (load1 22 _ ⟨B1, 3, none⟩ _ rfl rfl (fun _ => by kernel_rfl) (M.get List.mem_cons_self 3 _ rfl))) ?_
                  simp only [aP, lI, l0, lS]
                  refine mayL (b26) (.pointer (some ⟨B1, 1, none⟩)) ((bif b26 then (.pointer (some ⟨B1, 1, none⟩)) else undef)) (by cases b26 <;> rfl) (by cases b26 <;> rfl) (fun hc => by cases b26 <;> first | (cases hc; done) | kernel_rfl) ?_
                  simp only [aP, lI, l0, lS]
                  refine mayL (b26) (.int .i64 f.pos) ((bif b26 then (.int .i64 f.pos) else undef)) (by cases b26 <;> rfl) (by cases b26 <;> rfl) (fun hc => by cases b26 <;> first | (cases hc; done) | exact (load1 3 _ ⟨B1, 1, none⟩ _ rfl rfl (fun _ => by kernel_rfl) (M.get List.mem_cons_self 1 _ rfl))) ?_
                  simp only [aP, lI, l0, lS]
                  obtain ⟨b27, hb27⟩ : ∃ y_, y_ = (rise f.rg 0 false f.pos) := ⟨_, rfl⟩
                  have hC : Calls Try.prog 21 #[.slice rp f.rg.length rc, .int .i64 0, .bool false, .int .i64 f.pos] w5 (fun e w' => e = .returned (.bool b27) ∧ Below w5.heap.size w5 w') := (by rw [hb27]; exact rrising_any rp rc f.rg (by have := hf.rmax; omega) _ _ _ _ (hf.rg.below M.below (Nat.le_refl _)))
                  refine mayCallL (b26) (.bool b27) ((bif b26 then (.bool b27) else undef)) 21 #[.slice rp f.rg.length rc, .int .i64 0, .bool false, .int .i64 f.pos] (by cases b26 <;> rfl) (by cases b26 <;> rfl) (fun hc => by cases b26 <;> first | (cases hc; done) | (intro _; kernel_rfl)) (fun _ => hC) ?_
                  intro w6 l
                  replace M := M.call l
                  clear l hC
                  simp only [aP, lI, l0, lS]
                  obtain ⟨b28, hb28⟩ : ∃ y_, y_ = (b26 && b27) := ⟨_, rfl⟩
                  refine readL (.bool b28) rfl (by subst hb28; cases b26 <;> rfl) ?_
                  simp only [aP, lI, l0, lS]
                  refine readL (.bool b28) rfl (by kernel_rfl) ?_
                  simp only [aP, lI, l0, lS]
                  first | show Exit.then _ _ _ _ _ | show Exit.inBlock _ _ _ _ _
                  have hA : b28 = fkd f := by
                    unfold fkd
                    rw [if_neg k1, if_neg k2, if_neg k3, if_neg k5, if_neg k6, if_pos k7]
                    simp only [hb22, hb23, hb24, hb25, hb26, hb27, hb28, ge_iff_le]
                  replace hA := show Hid _ from hA
                  clear htk
                  try clear k1
                  try clear k2
                  try clear k3
                  try clear k5
                  try clear k6
                  try clear k7
                  try clear hb1
                  try clear hb2
                  try clear hb3
                  try clear hb4
                  try clear hb8
                  try clear hb14
                  try clear hb16
                  try clear hb18
                  try clear hb20
                  try clear hb21
                  try clear hb22
                  try clear hb23
                  try clear hb24
                  try clear hb25
                  try clear hb26
                  try clear hb27
                  try clear hb28
                  go_wp2
                  go_meet
                  exact ⟨by rw [hA.out], M⟩
                | false =>
                  have k7 : ¬ f.kind = 7 := by simpa using hb21.symm
                  go_upto_region 4 with fail
                  refine wp_region_list ?_
                  refine readL (.bool false) rfl (by kernel_rfl) ?_
                  simp only [aP, lI, l0, lS]
                  first | show Exit.then _ _ _ _ _ | show Exit.inBlock _ _ _ _ _
                  have hA : false = fkd f := by
                    unfold fkd
                    rw [if_neg k1, if_neg k2, if_neg k3, if_neg k5, if_neg k6, if_neg k7]
                  replace hA := show Hid _ from hA
                  clear htk
                  try clear k1
                  try clear k2
                  try clear k3
                  try clear k5
                  try clear k6
                  try clear k7
                  try clear hb1
                  try clear hb2
                  try clear hb3
                  try clear hb4
                  try clear hb8
                  try clear hb14
                  try clear hb16
                  try clear hb18
                  try clear hb20
                  try clear hb21
                  go_wp2
                  go_meet
                  exact ⟨by rw [hA.out], M⟩
  case rest =>
    obtain ⟨rfl, M⟩ := hcut
    obtain ⟨b29, hb29⟩ : ∃ y_, y_ = (fkd f) := ⟨_, rfl⟩
    rw [← hb29]
    obtain ⟨b30, hb30⟩ : ∃ y_, y_ = (decide (f.tok ≠ z8)) := ⟨_, rfl⟩
    have htok : In 256 8 (bl f.tok) := by have := hf.wf.tok.bl; rw [hf.wf.eight] at this; exact this
    go_upto_region 17 with fail
    refine wp_region_list ?_
    refine readL (.pointer (some ⟨B1, 0, none⟩)) rfl (by kernel_rfl) ?_
    simp only [aP, lI, l0, lS]
    refine readL (.int .i64 f.kind) rfl (load1 3 _ ⟨B1, 0, none⟩ _ rfl rfl (fun _ => by kernel_rfl) (M.get List.mem_cons_self 0 _ rfl)) ?_
    simp only [aP, lI, l0, lS]
    obtain ⟨b31, hb31⟩ : ∃ y_, y_ = ((f.kind : Int) != (1 : Int)) := ⟨_, rfl⟩
    refine readL (.bool b31) rfl (neqI .i64 _ _ _ _ _ _ rfl rfl rfl b31 hb31.symm _) ?_
    simp only [aP, lI, l0, lS]
    refine readL (.bool b31) rfl (by kernel_rfl) ?_
    simp only [aP, lI, l0, lS]
    refine mayL (b31) (.pointer (some ⟨B1, 4, none⟩)) ((bif b31 then (.pointer (some ⟨B1, 4, none⟩)) else undef)) (by cases b31 <;> rfl) (by cases b31 <;> rfl) (fun hc => by cases b31 <;> first | (cases hc; done) | kernel_rfl) ?_
    simp only [aP, lI, l0, lS]
    refine mayL (b31) (.slice bp f.byt.length bc) ((bif b31 then (.slice bp f.byt.length bc) else undef)) (by cases b31 <;> rfl) (by cases b31 <;> rfl) (fun hc => by cases b31 <;> first | (cases hc; done) | exact (load1 23 _ ⟨B1, 4, none⟩ _ rfl rfl (fun _ => by kernel_rfl) (M.get List.mem_cons_self 4 _ rfl))) ?_
    simp only [aP, lI, l0, lS]
    refine mayL (b31) (.int .i64 ((f.byt.length : Nat) : Int)) ((bif b31 then (.int .i64 ((f.byt.length : Nat) : Int)) else undef)) (by cases b31 <;> rfl) (by cases b31 <;> rfl) (fun hc => by cases b31 <;> first | (cases hc; done) | exact (lenS _ 23 5 bp f.byt.length bc rfl Try.underlying23 rfl _)) ?_
    simp only [aP, lI, l0, lS]
    obtain ⟨b32, hb32⟩ : ∃ y_, y_ = (decide (((f.byt.length : Nat) : Int) > 0)) := ⟨_, rfl⟩
    refine mayL (b31) (.bool b32) ((bif b31 then (.bool b32) else undef)) (by cases b31 <;> rfl) (by cases b31 <;> rfl) (fun hc => by cases b31 <;> first | (cases hc; done) | exact (gtrI .i64 _ _ _ _ _ _ rfl rfl rfl b32 hb32.symm _)) ?_
    simp only [aP, lI, l0, lS]
    obtain ⟨b33, hb33⟩ : ∃ y_, y_ = (b31 && b32) := ⟨_, rfl⟩
    refine readL (.bool b33) rfl (by subst hb33; cases b31 <;> rfl) ?_
    simp only [aP, lI, l0, lS]
    refine readL (.bool b33) rfl (by kernel_rfl) ?_
    simp only [aP, lI, l0, lS]
    refine mayL (!b33) (.pointer (some ⟨B1, 0, none⟩)) ((bif b33 then undef else (.pointer (some ⟨B1, 0, none⟩)))) (by cases b33 <;> rfl) (by cases b33 <;> rfl) (fun hc => by cases b33 <;> first | (cases hc; done) | kernel_rfl) ?_
    simp only [aP, lI, l0, lS]
    refine mayL (!b33) (.int .i64 f.kind) ((bif b33 then undef else (.int .i64 f.kind))) (by cases b33 <;> rfl) (by cases b33 <;> rfl) (fun hc => by cases b33 <;> first | (cases hc; done) | exact (load1 3 _ ⟨B1, 0, none⟩ _ rfl rfl (fun _ => by kernel_rfl) (M.get List.mem_cons_self 0 _ rfl))) ?_
    simp only [aP, lI, l0, lS]
    obtain ⟨b34, hb34⟩ : ∃ y_, y_ = ((f.kind : Int) != (2 : Int)) := ⟨_, rfl⟩
    refine mayL (!b33) (.bool b34) ((bif b33 then undef else (.bool b34))) (by cases b33 <;> rfl) (by cases b33 <;> rfl) (fun hc => by cases b33 <;> first | (cases hc; done) | exact (neqI .i64 _ _ _ _ _ _ rfl rfl rfl b34 hb34.symm _)) ?_
    simp only [aP, lI, l0, lS]
    refine mayL (!b33) (.bool b34) ((bif b33 then undef else (.bool b34))) (by cases b33 <;> rfl) (by cases b33 <;> rfl) (fun hc => by cases b33 <;> first | (cases hc; done) | kernel_rfl) ?_
    simp only [aP, lI, l0, lS]
    refine mayL (!b33 && b34) (.pointer (some ⟨B1, 0, none⟩)) ((bif b33 then undef else (bif b34 then (.pointer (some ⟨B1, 0, none⟩)) else undef))) (by cases b33 <;> cases b34 <;> rfl) (by cases b33 <;> cases b34 <;> rfl) (fun hc => by cases b33 <;> cases b34 <;> first | (cases hc; done) | kernel_rfl) ?_
    simp only [aP, lI, l0, lS]
    refine mayL (!b33 && b34) (.int .i64 f.kind) ((bif b33 then undef else (bif b34 then (.int .i64 f.kind) else undef))) (by cases b33 <;> cases b34 <;> rfl) (by cases b33 <;> cases b34 <;> rfl) (fun hc => by cases b33 <;> cases b34 <;> first | (cases hc; done) | exact (load1 3 _ ⟨B1, 0, none⟩ _ rfl rfl (fun _ => by kernel_rfl) (M.get List.mem_cons_self 0 _ rfl))) ?_
    simp only [aP, lI, l0, lS]
    obtain ⟨b35, hb35⟩ : ∃ y_, y_ = ((f.kind : Int) != (7 : Int)) := ⟨_, rfl⟩
    refine mayL (!b33 && b34) (.bool b35) ((bif b33 then undef else (bif b34 then (.bool b35) else undef))) (by cases b33 <;> cases b34 <;> rfl) (by cases b33 <;> cases b34 <;> rfl) (fun hc => by cases b33 <;> cases b34 <;> first | (cases hc; done) | exact (neqI .i64 _ _ _ _ _ _ rfl rfl rfl b35 hb35.symm _)) ?_
    simp only [aP, lI, l0, lS]
    obtain ⟨b36, hb36⟩ : ∃ y_, y_ = (b34 && b35) := ⟨_, rfl⟩
    refine mayL (!b33) (.bool b36) ((bif b33 then undef else (.bool b36))) (by cases b33 <;> rfl) (by cases b33 <;> rfl) (fun hc => by cases b33 <;> first | (cases hc; done) | exact (by subst hb36; cases b34 <;> rfl)) ?_
    simp only [aP, lI, l0, lS]
    refine mayL (!b33) (.bool b36) ((bif b33 then undef else (.bool b36))) (by cases b33 <;> rfl) (by cases b33 <;> rfl) (fun hc => by cases b33 <;> first | (cases hc; done) | kernel_rfl) ?_
    simp only [aP, lI, l0, lS]
    refine mayL (!b33 && b36) (.pointer (some ⟨B1, 2, none⟩)) ((bif b33 then undef else (bif b36 then (.pointer (some ⟨B1, 2, none⟩)) else undef))) (by cases b33 <;> cases b36 <;> rfl) (by cases b33 <;> cases b36 <;> rfl) (fun hc => by cases b33 <;> cases b36 <;> first | (cases hc; done) | kernel_rfl) ?_
    simp only [aP, lI, l0, lS]
    refine mayL (!b33 && b36) (.int .i64 f.lim) ((bif b33 then undef else (bif b36 then (.int .i64 f.lim) else undef))) (by cases b33 <;> cases b36 <;> rfl) (by cases b33 <;> cases b36 <;> rfl) (fun hc => by cases b33 <;> cases b36 <;> first | (cases hc; done) | exact (load1 3 _ ⟨B1, 2, none⟩ _ rfl rfl (fun _ => by kernel_rfl) (M.get List.mem_cons_self 2 _ rfl))) ?_
    simp only [aP, lI, l0, lS]
    obtain ⟨b37, hb37⟩ : ∃ y_, y_ = ((f.lim : Int) != (0 : Int)) := ⟨_, rfl⟩
    refine mayL (!b33 && b36) (.bool b37) ((bif b33 then undef else (bif b36 then (.bool b37) else undef))) (by cases b33 <;> cases b36 <;> rfl) (by cases b33 <;> cases b36 <;> rfl) (fun hc => by cases b33 <;> cases b36 <;> first | (cases hc; done) | exact (neqI .i64 _ _ _ _ _ _ rfl rfl rfl b37 hb37.symm _)) ?_
    simp only [aP, lI, l0, lS]
    obtain ⟨b38, hb38⟩ : ∃ y_, y_ = (b36 && b37) := ⟨_, rfl⟩
    refine mayL (!b33) (.bool b38) ((bif b33 then undef else (.bool b38))) (by cases b33 <;> rfl) (by cases b33 <;> rfl) (fun hc => by cases b33 <;> first | (cases hc; done) | exact (by subst hb38; cases b36 <;> rfl)) ?_
    simp only [aP, lI, l0, lS]
    obtain ⟨b39, hb39⟩ : ∃ y_, y_ = (b33 || b38) := ⟨_, rfl⟩
    refine readL (.bool b39) rfl (by subst hb39; cases b33 <;> rfl) ?_
    simp only [aP, lI, l0, lS]
    refine readL (.bool b39) rfl (by kernel_rfl) ?_
    simp only [aP, lI, l0, lS]
    refine mayL (!b39) (.pointer (some ⟨B1, 0, none⟩)) ((bif b39 then undef else (.pointer (some ⟨B1, 0, none⟩)))) (by cases b39 <;> rfl) (by cases b39 <;> rfl) (fun hc => by cases b39 <;> first | (cases hc; done) | kernel_rfl) ?_
    simp only [aP, lI, l0, lS]
    refine mayL (!b39) (.int .i64 f.kind) ((bif b39 then undef else (.int .i64 f.kind))) (by cases b39 <;> rfl) (by cases b39 <;> rfl) (fun hc => by cases b39 <;> first | (cases hc; done) | exact (load1 3 _ ⟨B1, 0, none⟩ _ rfl rfl (fun _ => by kernel_rfl) (M.get List.mem_cons_self 0 _ rfl))) ?_
    simp only [aP, lI, l0, lS]
    obtain ⟨b40, hb40⟩ : ∃ y_, y_ = ((f.kind : Int) != (2 : Int)) := ⟨_, rfl⟩
    refine mayL (!b39) (.bool b40) ((bif b39 then undef else (.bool b40))) (by cases b39 <;> rfl) (by cases b39 <;> rfl) (fun hc => by cases b39 <;> first | (cases hc; done) | exact (neqI .i64 _ _ _ _ _ _ rfl rfl rfl b40 hb40.symm _)) ?_
    simp only [aP, lI, l0, lS]
    refine mayL (!b39) (.bool b40) ((bif b39 then undef else (.bool b40))) (by cases b39 <;> rfl) (by cases b39 <;> rfl) (fun hc => by cases b39 <;> first | (cases hc; done) | kernel_rfl) ?_
    simp only [aP, lI, l0, lS]
    refine mayL (!b39 && b40) (.pointer (some ⟨B1, 0, none⟩)) ((bif b39 then undef else (bif b40 then (.pointer (some ⟨B1, 0, none⟩)) else undef))) (by cases b39 <;> cases b40 <;> rfl) (by cases b39 <;> cases b40 <;> rfl) (fun hc => by cases b39 <;> cases b40 <;> first | (cases hc; done) | kernel_rfl) ?_
    simp only [aP, lI, l0, lS]
    refine mayL (!b39 && b40) (.int .i64 f.kind) ((bif b39 then undef else (bif b40 then (.int .i64 f.kind) else undef))) (by cases b39 <;> cases b40 <;> rfl) (by cases b39 <;> cases b40 <;> rfl) (fun hc => by cases b39 <;> cases b40 <;> first | (cases hc; done) | exact (load1 3 _ ⟨B1, 0, none⟩ _ rfl rfl (fun _ => by kernel_rfl) (M.get List.mem_cons_self 0 _ rfl))) ?_
    simp only [aP, lI, l0, lS]
    obtain ⟨b41, hb41⟩ : ∃ y_, y_ = ((f.kind : Int) != (7 : Int)) := ⟨_, rfl⟩
    refine mayL (!b39 && b40) (.bool b41) ((bif b39 then undef else (bif b40 then (.bool b41) else undef))) (by cases b39 <;> cases b40 <;> rfl) (by cases b39 <;> cases b40 <;> rfl) (fun hc => by cases b39 <;> cases b40 <;> first | (cases hc; done) | exact (neqI .i64 _ _ _ _ _ _ rfl rfl rfl b41 hb41.symm _)) ?_
    simp only [aP, lI, l0, lS]
    obtain ⟨b42, hb42⟩ : ∃ y_, y_ = (b40 && b41) := ⟨_, rfl⟩
    refine mayL (!b39) (.bool b42) ((bif b39 then undef else (.bool b42))) (by cases b39 <;> rfl) (by cases b39 <;> rfl) (fun hc => by cases b39 <;> first | (cases hc; done) | exact (by subst hb42; cases b40 <;> rfl)) ?_
    simp only [aP, lI, l0, lS]
    refine mayL (!b39) (.bool b42) ((bif b39 then undef else (.bool b42))) (by cases b39 <;> rfl) (by cases b39 <;> rfl) (fun hc => by cases b39 <;> first | (cases hc; done) | kernel_rfl) ?_
    simp only [aP, lI, l0, lS]
    refine mayL (!b39 && b42) (.pointer (some ⟨B1, 3, none⟩)) ((bif b39 then undef else (bif b42 then (.pointer (some ⟨B1, 3, none⟩)) else undef))) (by cases b39 <;> cases b42 <;> rfl) (by cases b39 <;> cases b42 <;> rfl) (fun hc => by cases b39 <;> cases b42 <;> first | (cases hc; done) | kernel_rfl) ?_
    simp only [aP, lI, l0, lS]
    refine mayL (!b39 && b42) (.slice rp f.rg.length rc) ((bif b39 then undef else (bif b42 then (.slice rp f.rg.length rc) else undef))) (by cases b39 <;> cases b42 <;> rfl) (by cases b39 <;> cases b42 <;> rfl) (fun hc => by cases b39 <;> cases b42 <;> first | (cases hc; done) | exact (load1 22 _ ⟨B1, 3, none⟩ _ rfl rfl (fun _ => by kernel_rfl) (M.get List.mem_cons_self 3 _ rfl))) ?_
    simp only [aP, lI, l0, lS]
    refine mayL (!b39 && b42) (.int .i64 ((f.rg.length : Nat) : Int)) ((bif b39 then undef else (bif b42 then (.int .i64 ((f.rg.length : Nat) : Int)) else undef))) (by cases b39 <;> cases b42 <;> rfl) (by cases b39 <;> cases b42 <;> rfl) (fun hc => by cases b39 <;> cases b42 <;> first | (cases hc; done) | exact (lenS _ 22 43 rp f.rg.length rc rfl Try.underlying22 rfl _)) ?_
    simp only [aP, lI, l0, lS]
    obtain ⟨b43, hb43⟩ : ∃ y_, y_ = (decide (((f.rg.length : Nat) : Int) > 0)) := ⟨_, rfl⟩
    refine mayL (!b39 && b42) (.bool b43) ((bif b39 then undef else (bif b42 then (.bool b43) else undef))) (by cases b39 <;> cases b42 <;> rfl) (by cases b39 <;> cases b42 <;> rfl) (fun hc => by cases b39 <;> cases b42 <;> first | (cases hc; done) | exact (gtrI .i64 _ _ _ _ _ _ rfl rfl rfl b43 hb43.symm _)) ?_
    simp only [aP, lI, l0, lS]
    obtain ⟨b44, hb44⟩ : ∃ y_, y_ = (b42 && b43) := ⟨_, rfl⟩
    refine mayL (!b39) (.bool b44) ((bif b39 then undef else (.bool b44))) (by cases b39 <;> rfl) (by cases b39 <;> rfl) (fun hc => by cases b39 <;> first | (cases hc; done) | exact (by subst hb44; cases b42 <;> rfl)) ?_
    simp only [aP, lI, l0, lS]
    obtain ⟨b45, hb45⟩ : ∃ y_, y_ = (b39 || b44) := ⟨_, rfl⟩
    refine readL (.bool b45) rfl (by subst hb45; cases b39 <;> rfl) ?_
    simp only [aP, lI, l0, lS]
    refine readL (.bool b45) rfl (by kernel_rfl) ?_
    simp only [aP, lI, l0, lS]
    refine mayL (!b45) (.bool b3) ((bif b45 then undef else (.bool b3))) (by cases b45 <;> rfl) (by cases b45 <;> rfl) (fun hc => by cases b45 <;> first | (cases hc; done) | kernel_rfl) ?_
    simp only [aP, lI, l0, lS]
    obtain ⟨b46, hb46⟩ : ∃ y_, y_ = (!b3) := ⟨_, rfl⟩
    refine mayL (!b45) (.bool b46) ((bif b45 then undef else (.bool b46))) (by cases b45 <;> rfl) (by cases b45 <;> rfl) (fun hc => by cases b45 <;> first | (cases hc; done) | exact (by subst hb46; cases b3 <;> rfl)) ?_
    simp only [aP, lI, l0, lS]
    refine mayL (!b45) (.bool b46) ((bif b45 then undef else (.bool b46))) (by cases b45 <;> rfl) (by cases b45 <;> rfl) (fun hc => by cases b45 <;> first | (cases hc; done) | kernel_rfl) ?_
    simp only [aP, lI, l0, lS]
    refine mayL (!b45 && b46) (.pointer (some ⟨B1, 5, none⟩)) ((bif b45 then undef else (bif b46 then (.pointer (some ⟨B1, 5, none⟩)) else undef))) (by cases b45 <;> cases b46 <;> rfl) (by cases b45 <;> cases b46 <;> rfl) (fun hc => by cases b45 <;> cases b46 <;> first | (cases hc; done) | kernel_rfl) ?_
    simp only [aP, lI, l0, lS]
    refine mayL (!b45 && b46) (.agg #[.int .u8 (bl f.tok 0), .int .u8 (bl f.tok 1), .int .u8 (bl f.tok 2), .int .u8 (bl f.tok 3), .int .u8 (bl f.tok 4), .int .u8 (bl f.tok 5), .int .u8 (bl f.tok 6), .int .u8 (bl f.tok 7)]) ((bif b45 then undef else (bif b46 then (.agg #[.int .u8 (bl f.tok 0), .int .u8 (bl f.tok 1), .int .u8 (bl f.tok 2), .int .u8 (bl f.tok 3), .int .u8 (bl f.tok 4), .int .u8 (bl f.tok 5), .int .u8 (bl f.tok 6), .int .u8 (bl f.tok 7)]) else undef))) (by cases b45 <;> cases b46 <;> rfl) (by cases b45 <;> cases b46 <;> rfl) (fun hc => by cases b45 <;> cases b46 <;> first | (cases hc; done) | exact (loadN 24 _ ⟨B1, 5, none⟩ [.int .u8 (bl f.tok 0), .int .u8 (bl f.tok 1), .int .u8 (bl f.tok 2), .int .u8 (bl f.tok 3), .int .u8 (bl f.tok 4), .int .u8 (bl f.tok 5), .int .u8 (bl f.tok 6), .int .u8 (bl f.tok 7)] rfl rfl (fun _ => by kernel_rfl) (fun _ => by kernel_rfl) (M.part List.mem_cons_self 5 _ rfl))) ?_
    simp only [aP, lI, l0, lS]
    refine mayL (!b45 && b46) (.agg #[.int .u8 0, .int .u8 0, .int .u8 0, .int .u8 0, .int .u8 0, .int .u8 0, .int .u8 0, .int .u8 0]) ((bif b45 then undef else (bif b46 then (.agg #[.int .u8 0, .int .u8 0, .int .u8 0, .int .u8 0, .int .u8 0, .int .u8 0, .int .u8 0, .int .u8 0]) else undef))) (by cases b45 <;> cases b46 <;> rfl) (by cases b45 <;> cases b46 <;> rfl) (fun hc => by cases b45 <;> cases b46 <;> first | (cases hc; done) | kernel_rfl) ?_
    simp only [aP, lI, l0, lS]
    refine mayL (!b45 && b46) (.bool b30) ((bif b45 then undef else (bif b46 then (.bool b30) else undef))) (by cases b45 <;> cases b46 <;> rfl) (by cases b45 <;> cases b46 <;> rfl) (fun hc => by cases b45 <;> cases b46 <;> first | (cases hc; done) | exact (neqV 8 (bl f.tok) (fun _ => 0) 24 5 _ _ _ rfl rfl rfl Try.underlying24 Try.underlying5 (fun _ => by kernel_rfl) (by kernel_rfl) htok (fun _ _ => ⟨Int.le_refl _, show (0 : Int) < 256 by decide⟩) b30 (by rw [hb30]; exact tok_val f.tok hf.wf.eight hf.wf.tok) _)) ?_
    simp only [aP, lI, l0, lS]
    obtain ⟨b47, hb47⟩ : ∃ y_, y_ = (b46 && b30) := ⟨_, rfl⟩
    refine mayL (!b45) (.bool b47) ((bif b45 then undef else (.bool b47))) (by cases b45 <;> rfl) (by cases b45 <;> rfl) (fun hc => by cases b45 <;> first | (cases hc; done) | exact (by subst hb47; cases b46 <;> rfl)) ?_
    simp only [aP, lI, l0, lS]
    obtain ⟨b48, hb48⟩ : ∃ y_, y_ = (b45 || b47) := ⟨_, rfl⟩
    refine readL (.bool b48) rfl (by subst hb48; cases b45 <;> rfl) ?_
    simp only [aP, lI, l0, lS]
    first | show Exit.then _ _ _ _ _ | show Exit.inBlock _ _ _ _ _
    have hO : b48 = foth f := by
      unfold foth
      simp only [hb31, hb32, hb33, hb34, hb35, hb36, hb37, hb38, hb39, hb40, hb41, hb42, hb43, hb44, hb45, hb46, hb47, hb48, hb30, htk, gt_iff_lt]
      exact foth_form f
    clear hb31 hb32 hb33 hb34 hb35 hb36 hb37 hb38 hb39 hb40 hb41 hb42 hb43 hb44 hb45 hb46 hb47 hb48
    cases b48 with
    | true =>
      go_upto_region 18 with fail
      refine wp_region_list ?_
      refine readL (.bool false) rfl (by kernel_rfl) ?_
      simp only [aP, lI, l0, lS]
      first | show Exit.then _ _ _ _ _ | show Exit.inBlock _ _ _ _ _
      go_upto_region 19 with fail
      refine wp_region_list ?_
      refine readL (.bool false) rfl (by kernel_rfl) ?_
      simp only [aP, lI, l0, lS]
      refine readL (.bool true) rfl (by kernel_rfl) ?_
      simp only [aP, lI, l0, lS]
      refine readL (.bool true) rfl (by kernel_rfl) ?_
      simp only [aP, lI, l0, lS]
      with_reducible refine skipL ?_ ?_
      · rfl
      simp only [aP, lI, l0, lS]
      with_reducible refine skipL ?_ ?_
      · rfl
      simp only [aP, lI, l0, lS]
      with_reducible refine skipL ?_ ?_
      · rfl
      simp only [aP, lI, l0, lS]
      with_reducible refine skipL ?_ ?_
      · rfl
      simp only [aP, lI, l0, lS]
      refine readL (.bool true) rfl (by kernel_rfl) ?_
      simp only [aP, lI, l0, lS]
      first | show Exit.then _ _ _ _ _ | show Exit.inBlock _ _ _ _ _
      have hK : fok f = false := by unfold fok; rw [← hO]; simp
      replace hK := show Hid (fchk f = _) from (by unfold fchk; rw [hK]; rfl)
      clear hO htk
      try clear hb1
      try clear hb2
      try clear hb3
      try clear hb29
      try clear hb30
      try clear hb31
      try clear hb32
      try clear hb33
      try clear hb34
      try clear hb35
      try clear hb36
      try clear hb37
      try clear hb38
      try clear hb39
      try clear hb40
      try clear hb41
      try clear hb42
      try clear hb43
      try clear hb44
      try clear hb45
      try clear hb46
      try clear hb47
      try clear hb48
      go_wp2
      go_ret
      exact ⟨by rw [hK.out]; rfl, M.below⟩
    | false =>
      go_upto_region 19 with fail
      refine wp_region_list ?_
      refine readL (.bool b29) rfl (by kernel_rfl) ?_
      simp only [aP, lI, l0, lS]
      obtain ⟨b49, hb49⟩ : ∃ y_, y_ = (!b29) := ⟨_, rfl⟩
      refine readL (.bool b49) rfl (by subst hb49; cases b29 <;> rfl) ?_
      simp only [aP, lI, l0, lS]
      refine readL (.bool b49) rfl (by kernel_rfl) ?_
      simp only [aP, lI, l0, lS]
      refine mayL (!b49) (.pointer (some ⟨B1, 1, none⟩)) ((bif b49 then undef else (.pointer (some ⟨B1, 1, none⟩)))) (by cases b49 <;> rfl) (by cases b49 <;> rfl) (fun hc => by cases b49 <;> first | (cases hc; done) | kernel_rfl) ?_
      simp only [aP, lI, l0, lS]
      refine mayL (!b49) (.int .i64 f.pos) ((bif b49 then undef else (.int .i64 f.pos))) (by cases b49 <;> rfl) (by cases b49 <;> rfl) (fun hc => by cases b49 <;> first | (cases hc; done) | exact (load1 3 _ ⟨B1, 1, none⟩ _ rfl rfl (fun _ => by kernel_rfl) (M.get List.mem_cons_self 1 _ rfl))) ?_
      simp only [aP, lI, l0, lS]
      obtain ⟨b50, hb50⟩ : ∃ y_, y_ = (nmb f.pos) := ⟨_, rfl⟩
      have hC : Calls Try.prog 20 #[.int .i64 f.pos] wc (fun e w' => e = .returned (.bool b50) ∧ Below wc.heap.size wc w') := (by rw [hb50]; exact rnumber_any _ _)
      refine mayCallL (!b49) (.bool b50) ((bif b49 then undef else (.bool b50))) 20 #[.int .i64 f.pos] (by cases b49 <;> rfl) (by cases b49 <;> rfl) (fun hc => by cases b49 <;> first | (cases hc; done) | (intro _; kernel_rfl)) (fun _ => hC) ?_
      intro w7 l
      replace M := M.call l
      clear l hC
      simp only [aP, lI, l0, lS]
      obtain ⟨b51, hb51⟩ : ∃ y_, y_ = (!b50) := ⟨_, rfl⟩
      refine mayL (!b49) (.bool b51) ((bif b49 then undef else (.bool b51))) (by cases b49 <;> rfl) (by cases b49 <;> rfl) (fun hc => by cases b49 <;> first | (cases hc; done) | exact (by subst hb51; cases b50 <;> rfl)) ?_
      simp only [aP, lI, l0, lS]
      obtain ⟨b52, hb52⟩ : ∃ y_, y_ = (b49 || b51) := ⟨_, rfl⟩
      refine readL (.bool b52) rfl (by subst hb52; cases b49 <;> rfl) ?_
      simp only [aP, lI, l0, lS]
      first | show Exit.then _ _ _ _ _ | show Exit.inBlock _ _ _ _ _
      cases b52 with
      | true =>
        have hK : fok f = false := by
          unfold fok
          rw [← hO, ← hb29]
          have := hb52
          simp only [hb49, hb50, hb51] at this
          revert this
          cases b29 <;> cases nmb f.pos <;> simp
        replace hK := show Hid (fchk f = _) from (by unfold fchk; rw [hK]; rfl)
        clear hO htk
        try clear hb1
        try clear hb2
        try clear hb3
        try clear hb29
        try clear hb30
        try clear hb31
        try clear hb32
        try clear hb33
        try clear hb34
        try clear hb35
        try clear hb36
        try clear hb37
        try clear hb38
        try clear hb39
        try clear hb40
        try clear hb41
        try clear hb42
        try clear hb43
        try clear hb44
        try clear hb45
        try clear hb46
        try clear hb47
        try clear hb48
        try clear hb49
        try clear hb50
        try clear hb51
        try clear hb52
        go_wp2
        go_ret
        exact ⟨by rw [hK.out]; rfl, M.below⟩
      | false =>
        have hK : fok f = true := by
          unfold fok
          rw [← hO, ← hb29]
          have := hb52
          simp only [hb49, hb50, hb51] at this
          revert this
          cases b29 <;> cases nmb f.pos <;> simp
        replace hK := show Hid (fchk f = _) from (by unfold fchk; rw [hK]; rfl)
        clear hO htk
        try clear hb1
        try clear hb2
        try clear hb3
        try clear hb29
        try clear hb30
        try clear hb31
        try clear hb32
        try clear hb33
        try clear hb34
        try clear hb35
        try clear hb36
        try clear hb37
        try clear hb38
        try clear hb39
        try clear hb40
        try clear hb41
        try clear hb42
        try clear hb43
        try clear hb44
        try clear hb45
        try clear hb46
        try clear hb47
        try clear hb48
        try clear hb49
        try clear hb50
        try clear hb51
        try clear hb52
        go_wp2
        go_ret
        exact ⟨by rw [hK.out]; rfl, M.below⟩
end Go.Proofs.Yteaamgjlkohfcaa

namespace Go.Proofs.Yteaamgjlkohfcaa
open Go.RowKit

def PutV (len : Nat) (z : Nat → Int) (n : Int) (B : Nat) (e : Ending) (w' : World) : Prop := ∃ v, e = .returned (.tuple #[v, .int .i64 (vE n)]) ∧ Own w' B 5 .u8 (vL len n) (vput len z n) v
def PutB (len : Nat) (z : Nat → Int) (tl : Nat) (x : Nat → Int) (B : Nat) (e : Ending) (w' : World) : Prop := ∃ v, e = .returned (.tuple #[v, .int .i64 0]) ∧ Own w' B 5 .u8 (len + vsz tl + tl) (app (app z len (vby tl)) (len + vsz tl) x) v
def PutVarOK : Prop := ∀ (sp : Option Addr) (len cap : Nat), len ≤ 140737488351232 → len ≤ cap → (sp = none → cap = 0) → ∀ z : Nat → Int, In 256 len z → ∀ n : Int, (-9223372036854775808 ≤ n ∧ n < 9223372036854775808) → ∀ w : World, Src w sp len z → Calls Try.prog 39 #[.slice sp len cap, .int .i64 n] w fun e w' => PutV len z n w.heap.size e w' ∧ Below w.heap.size w w'
def PutBytesOK : Prop := ∀ (sp : Option Addr) (len cap : Nat), len ≤ 140737488351232 → len ≤ cap → (sp = none → cap = 0) → ∀ z : Nat → Int, In 256 len z → ∀ (tp : Option Addr) (tl tc : Nat), tl ≤ 140737488351232 → tl ≤ tc → (tp = none → tc = 0) → ∀ x : Nat → Int, In 256 tl x → len + tl ≤ 140737488351232 → ∀ w : World, Src w sp len z → Src w tp tl x → Calls Try.prog 31 #[.slice sp len cap, .slice tp tl tc] w fun e w' => PutB len z tl x w.heap.size e w' ∧ Below w.heap.size w w'
end Go.Proofs.Yteaamgjlkohfcaa

namespace Go.Proofs.Yteaamgjlkohfcaa
open Go.RowKit

set_option maxRecDepth 10000 in
set_option maxHeartbeats 4000000 in
theorem rsize_any (n : Nat) (w : World) : Calls Try.prog 53 #[.int .i64 (n : Int)] w fun e w' => e = .returned (.int .i64 ((vsz n : Nat) : Int)) ∧ Below w.heap.size w w' := by
  have hB := Below.refl w.heap.size w
  rcases vsz_cases n with ⟨e, h1⟩ | ⟨e, h1, h2⟩ | ⟨e, h1, h2⟩ | ⟨e, h1⟩ <;> rw [e]
  · have g1 : (n : Int) < 64 := by omega
    go_enter Try.func53, Try.ntmps53
    go_wp2
    go_ret
    exact ⟨rfl, hB⟩
  · have g1 : ¬ (n : Int) < 64 := by omega
    have g2 : (n : Int) < 16384 := by omega
    go_enter Try.func53, Try.ntmps53
    go_wp2
    go_ret
    exact ⟨rfl, hB⟩
  · have g1 : ¬ (n : Int) < 64 := by omega
    have g2 : ¬ (n : Int) < 16384 := by omega
    have g3 : (n : Int) < 1073741824 := by omega
    go_enter Try.func53, Try.ntmps53
    go_wp2
    go_ret
    exact ⟨rfl, hB⟩
  · have g1 : ¬ (n : Int) < 64 := by omega
    have g2 : ¬ (n : Int) < 16384 := by omega
    have g3 : ¬ (n : Int) < 1073741824 := by omega
    go_enter Try.func53, Try.ntmps53
    go_wp2
    go_ret
    exact ⟨rfl, hB⟩
set_option maxRecDepth 10000 in
set_option maxHeartbeats 16000000 in
theorem rputvar_good (sp : Option Addr) (len cap : Nat) (hlen : len ≤ 140737488351232) (hnil : sp = none → cap = 0) (z : Nat → Int) (n : Nat) (hn : n < 4611686018427387904) (w : World) (hs : Src w sp len z) :
    Calls Try.prog 42 #[.slice sp len cap, .int .i64 (n : Int)] w fun e w' => ∃ v, e = .returned (.tuple #[v, .int .i64 0]) ∧ Own w' w.heap.size 5 .u8 (len + vsz n) (app z len (vby n)) v ∧ Below w.heap.size w w' := by
  have h1 : ¬ (n : Int) < 0 := by omega
  have h2 : ¬ 4611686018427387903 < (n : Int) := by omega
  have h2' : ¬ 4611686018427387904 ≤ (n : Int) := by omega
  go_enter Try.func42, Try.ntmps42
  go_upto_region 3 with fail
  clear h1 h2 h2'
  refine wp_region_list ?_
  refine pureL (.int .i64 (n : Int)) rfl (fun _ => by kernel_rfl) ?_
  simp only [aP, lI, l0, lS]
  refine callL rfl (fun _ => by kernel_rfl) (rsize_any n _) ?_
  rintro e w1 ⟨rfl, hB⟩
  refine ⟨_, rfl, ?_⟩
  simp only [aP, lI, l0, lS]
  refine pureL (.int .i64 ((vsz n : Nat) : Int)) rfl (fun _ => by kernel_rfl) ?_
  simp only [aP, lI, l0, lS]
  have hK4 := vkd_pow _ (vsz_four n)
  have hK8 := vsz_le n
  have hby : ∀ j, vby n j = fby n (vsz n) j + (if j = 0 then ((64 * vkd (vsz n) : Nat) : Int) else 0) := fun _ => rfl
  have hin := vby_in n hn 8
  generalize hKe : vsz n = K at *
  show Exit.then _ _ _ _ _
  go_wp2
  go_loopw [7] (fun kw w' => ∃ m : Nat, m ≤ vkd K ∧ kw = .int .i64 (m : Int) ∧ w1 = w') (fun kw _ => vkd K - (intOf kw).toNat)
  case atStart => exact ⟨0, Nat.zero_le _, rfl, rfl⟩
  case round =>
    obtain ⟨m, hm, rfl, rfl⟩ := hrel
    have hpm : 2 ^ m ≤ 2 ^ vkd K := Nat.pow_le_pow_right (by decide) hm
    by_cases hlt : m < vkd K
    · have hpl : 2 ^ m < 2 ^ vkd K := Nat.pow_lt_pow_right (by decide) hlt
      go_upto_region 5 with fail
      refine wp_region_list ?_
      refine pureL (.int .i64 ((m : Nat) : Int)) rfl (fun _ => by kernel_rfl) ?_
      simp only [aP, lI, l0, lS]
      refine pureL (.int .i64 ((2 ^ m : Nat) : Int)) rfl (fun w => shlI .i64 .i64 _ _ _ _ _ _ _ rfl rfl rfl (by omega) (shl_one m (by omega)) w) ?_
      simp only [aP, lI, l0, lS]
      refine pureL (.int .i64 ((K : Nat) : Int)) rfl (fun _ => by kernel_rfl) ?_
      simp only [aP, lI, l0, lS]
      refine pureL (.bool true) rfl (fun w => lssI .i64 _ _ _ _ _ _ rfl rfl rfl true (decide_eq_true (by omega)) w) ?_
      simp only [aP, lI, l0, lS]
      show Exit.then _ _ _ _ _
      clear hpm hpl
      go_wp2
      go_roundw
      case rel => exact ⟨m + 1, by omega, by go_num, trivial⟩
      case measure => simp [intOf]; omega
    · obtain rfl : m = vkd K := by omega
      go_upto_region 5 with fail
      refine wp_region_list ?_
      refine pureL (.int .i64 (((vkd K) : Nat) : Int)) rfl (fun _ => by kernel_rfl) ?_
      simp only [aP, lI, l0, lS]
      refine pureL (.int .i64 ((2 ^ (vkd K) : Nat) : Int)) rfl (fun w => shlI .i64 .i64 _ _ _ _ _ _ _ rfl rfl rfl (by omega) (shl_one (vkd K) (by omega)) w) ?_
      simp only [aP, lI, l0, lS]
      refine pureL (.int .i64 ((K : Nat) : Int)) rfl (fun _ => by kernel_rfl) ?_
      simp only [aP, lI, l0, lS]
      refine pureL (.bool false) rfl (fun w => lssI .i64 _ _ _ _ _ _ rfl rfl rfl false (decide_eq_false (by omega)) w) ?_
      simp only [aP, lI, l0, lS]
      show Exit.then _ _ _ _ _
      clear hpm hm hlt
      go_upto_region 7 with fail
      refine wp_region_list ?_
      refine actL (w' := w1.alloc (.cells #[] 5)) (.slice (some ⟨w1.heap.size, 0, none⟩) 0 0) rfl (by kernel_rfl) ?_
      simp only [aP, lI, l0, lS]
      refine pureL (.slice sp len cap) rfl (fun _ => by kernel_rfl) ?_
      simp only [aP, lI, l0, lS]
      have hb1 := (Below.refl w1.heap.size w1).alloc (Nat.le_refl _) (.cells #[] 5)
      obtain ⟨v, w2, hr, ho, hgr, _⟩ := run_append_Own (P := Try.prog) (ty := 23) Try.underlying23 one8 (Own.lit w1 w1.heap.size 5 .u8 0 (fun _ => 0) (Nat.le_refl _) (by unfold maxLen; omega)) (sp) (len) (cap) (z) ((hs.below hB (Nat.le_refl _)).below hb1 (Nat.le_refl _)) hnil (by unfold maxLen; omega) (by omega) hb1.size
      have hb2 := hb1.grown hgr hb1.size (fun b hb => by injection hb with hb; simp only at hb; omega)
      refine actL v rfl (appendOp _ _ 23 _ _ _ rfl rfl rfl hr) ?_
      simp only [aP, lI, l0, lS]
      have hO : Own w2 w1.heap.size 5 .u8 (len) (z) v := by
        rw [Nat.zero_add] at ho
        exact ho.congr fun j _ => by unfold app; rw [if_neg (Nat.not_lt_zero j), Nat.sub_zero]
      clear hr ho hgr hb1
      refine pureL v rfl (fun _ => by kernel_rfl) ?_
      simp only [aP, lI, l0, lS]
      replace hO := hO.lower hB.size
      replace hB := hB.trans (hb2.mono hB.size)
      clear hb2
      show Exit.then _ _ _ _ _
      go_upto_region 8 with fail
      refine wp_region_list ?_
      refine pureL (.int .i64 ((K : Nat) : Int)) rfl (fun _ => by kernel_rfl) ?_
      simp only [aP, lI, l0, lS]
      refine pureL (.int .i64 ((K : Int) - 1)) rfl (fun w => subI .i64 _ _ _ _ _ _ _ rfl rfl rfl (by rw [IntKind.wrap_i64]; omega) w) ?_
      simp only [aP, lI, l0, lS]
      refine pureL (.int .i64 ((K : Int) - 1)) rfl (fun _ => by kernel_rfl) ?_
      simp only [aP, lI, l0, lS]
      show Exit.then _ _ _ _ _
      go_wp2
      go_loopw [8, 9] (fun ow iw w' => ∃ (m : Nat) (v : Value) (i : Int), m ≤ K ∧ i = (K : Int) - 1 - (m : Int) ∧ v = ow ∧ iw = .int .i64 i ∧ Own w' w.heap.size 5 .u8 (len + m) (app z len (vby n)) v ∧ Below w.heap.size w w') (fun _ iw _ => ((intOf iw) + 1).toNat)
      case atStart => exact ⟨0, _, _, Nat.zero_le _, rfl, rfl, by rw [show ((K : Int) - 1 - ((0 : Nat) : Int)) = (K : Int) - 1 by omega], hO.congr fun j hj => by unfold app; rw [if_pos (by omega)], hB⟩
      case round =>
        clear hO hB
        obtain ⟨m, v, i, hm, hi, rfl, rfl, hO, hB⟩ := hrel
        by_cases hlt : m < K
        · obtain ⟨e, rfl⟩ := Int.eq_ofNat_of_zero_le (show 0 ≤ i by omega)
          have he : e = K - 1 - m := by omega
          have hfb : fby n K m = (((n / 256 ^ e) % 256 : Nat) : Int) := by unfold fby; rw [he]
          have hbm := hin m (by omega)
          go_upto_region 9 with fail
          refine wp_region_list ?_
          refine pureL (.int .i64 ((e : Nat) : Int)) rfl (fun _ => by kernel_rfl) ?_
          simp only [aP, lI, l0, lS]
          refine pureL (.bool true) rfl (fun w => geqI .i64 _ _ _ _ _ _ rfl rfl rfl true (decide_eq_true (by omega)) w) ?_
          simp only [aP, lI, l0, lS]
          show Exit.then _ _ _ _ _
          go_upto_region 11 with fail
          refine wp_region_list ?_
          refine pureL (.int .i64 (n : Int)) rfl (fun _ => by kernel_rfl) ?_
          simp only [aP, lI, l0, lS]
          refine pureL (.int .i64 ((e : Nat) : Int)) rfl (fun _ => by kernel_rfl) ?_
          simp only [aP, lI, l0, lS]
          refine pureL (.int .i64 ((8 * e : Nat) : Int)) rfl (fun w => mulI .i64 _ _ _ _ _ _ _ rfl rfl rfl (by rw [IntKind.wrap_i64]; omega) w) ?_
          simp only [aP, lI, l0, lS]
          refine pureL (.int .i64 (((n / 256 ^ e) : Nat) : Int)) rfl (fun w => shrI .i64 .i64 _ _ _ _ _ _ _ rfl rfl rfl (by omega) (shr_byte n e (by omega)) w) ?_
          simp only [aP, lI, l0, lS]
          refine pureL (.int .i64 (((n / 256 ^ e) % 256 : Nat) : Int)) rfl (fun w => vandI .i64 _ _ _ _ _ _ _ rfl rfl rfl (by rw [i64_and255]; omega) w) ?_
          simp only [aP, lI, l0, lS]
          refine pureL (.int .i64 (((n / 256 ^ e) % 256 : Nat) : Int)) rfl (fun _ => by kernel_rfl) ?_
          simp only [aP, lI, l0, lS]
          show Exit.then _ _ _ _ _
          by_cases h0 : m = 0
          · have hv : vby n m = (((n / 256 ^ e) % 256 + vkd K * 64 : Nat) : Int) := by rw [hby, if_pos h0, hfb]; omega
            go_upto_region 12 with fail
            refine wp_region_list ?_
            refine pureL (.int .i64 ((e : Nat) : Int)) rfl (fun _ => by kernel_rfl) ?_
            simp only [aP, lI, l0, lS]
            refine pureL (.int .i64 ((K : Nat) : Int)) rfl (fun _ => by kernel_rfl) ?_
            simp only [aP, lI, l0, lS]
            refine pureL (.int .i64 ((K : Int) - 1)) rfl (fun w => subI .i64 _ _ _ _ _ _ _ rfl rfl rfl (by rw [IntKind.wrap_i64]; omega) w) ?_
            simp only [aP, lI, l0, lS]
            refine pureL (.bool true) rfl (fun w => eqlI .i64 _ _ _ _ _ _ rfl rfl rfl true (by simp; omega) w) ?_
            simp only [aP, lI, l0, lS]
            show Exit.then _ _ _ _ _
            go_upto_region 13 with fail
            refine wp_region_list ?_
            refine pureL (.int .i64 (((n / 256 ^ e) % 256 : Nat) : Int)) rfl (fun _ => by kernel_rfl) ?_
            simp only [aP, lI, l0, lS]
            refine pureL (.int .i64 ((vkd K : Nat) : Int)) rfl (fun _ => by kernel_rfl) ?_
            simp only [aP, lI, l0, lS]
            refine pureL (.int .i64 ((vkd K * 64 : Nat) : Int)) rfl (fun w => mulI .i64 _ _ _ _ _ _ _ rfl rfl rfl (by rw [IntKind.wrap_i64]; omega) w) ?_
            simp only [aP, lI, l0, lS]
            refine pureL (.int .i64 (((n / 256 ^ e) % 256 + vkd K * 64 : Nat) : Int)) rfl (fun w => addI .i64 _ _ _ _ _ _ _ rfl rfl rfl (by rw [IntKind.wrap_i64]; omega) w) ?_
            simp only [aP, lI, l0, lS]
            refine pureL (.int .i64 (((n / 256 ^ e) % 256 + vkd K * 64 : Nat) : Int)) rfl (fun _ => by kernel_rfl) ?_
            simp only [aP, lI, l0, lS]
            show Exit.then _ _ _ _ _
            obtain ⟨so, co, rfl, _, _⟩ := hO.bytes
            go_upto_region 14 with fail
            refine wp_region_list ?_
            refine pureL (.slice so (len + m) co) rfl (fun _ => by kernel_rfl) ?_
            simp only [aP, lI, l0, lS]
            refine pureL (.int .i64 (((n / 256 ^ e) % 256 + vkd K * 64 : Nat) : Int)) rfl (fun _ => by kernel_rfl) ?_
            simp only [aP, lI, l0, lS]
            refine pureL (.int .u8 (vby n m)) rfl (fun w => convI .i64 .u8 _ _ _ _ _ rfl (by kernel_rfl) Try.underlying5 (by kernel_rfl) rfl (by rw [IntKind.wrap_u8, hv]; omega) w) ?_
            simp only [aP, lI, l0, lS]
            refine actL (w' := wr.alloc (.cells #[.int .u8 (vby n m)] 5)) (.slice (some ⟨wr.heap.size, 0, none⟩) 1 1) rfl (by kernel_rfl) ?_
            simp only [aP, lI, l0, lS]
            obtain ⟨v, w3, hr, ho, hgr⟩ := hO.more8 (by omega) (vby n m) (by unfold app; rw [if_neg (by omega), show len + m - len = m by omega]) 23 hB.size
            refine actL v rfl (appendOp _ _ 23 _ _ _ rfl rfl rfl hr) ?_
            simp only [aP, lI, l0, lS]
            refine pureL v rfl (fun _ => by kernel_rfl) ?_
            simp only [aP, lI, l0, lS]
            have HS := show Hid _ from (And.intro (show Own w3 w.heap.size 5 .u8 (len + (m + 1)) (app z len (vby n)) v from ho) ((hB.alloc hB.size (.cells #[.int .u8 (vby n m)] 5)).grown hgr (Nat.le_trans hB.size (by simp)) (fun b hb => (World.ownsRow.lt hO b hb).1)))
            clear hr ho hgr hO hB hv
            show Exit.inBlock _ _ _ _ _
            go_wp2
            go_roundw
            case rel => first | exact ⟨m + 1, v, ((e : Nat) : Int) - 1, by omega, by omega, rfl, by go_num, HS.out.1, HS.out.2⟩ | ((repeat apply Exists.intro); refine ⟨⟨m + 1, v, ((e : Nat) : Int) - 1, by omega, by omega, rfl, by go_num, HS.out.1, HS.out.2⟩, rfl⟩)
            case measure => simp [intOf]; omega
          · have hv : vby n m = (((n / 256 ^ e) % 256 : Nat) : Int) := by rw [hby, if_neg h0, hfb]; omega
            go_upto_region 12 with fail
            refine wp_region_list ?_
            refine pureL (.int .i64 ((e : Nat) : Int)) rfl (fun _ => by kernel_rfl) ?_
            simp only [aP, lI, l0, lS]
            refine pureL (.int .i64 ((K : Nat) : Int)) rfl (fun _ => by kernel_rfl) ?_
            simp only [aP, lI, l0, lS]
            refine pureL (.int .i64 ((K : Int) - 1)) rfl (fun w => subI .i64 _ _ _ _ _ _ _ rfl rfl rfl (by rw [IntKind.wrap_i64]; omega) w) ?_
            simp only [aP, lI, l0, lS]
            refine pureL (.bool false) rfl (fun w => eqlI .i64 _ _ _ _ _ _ rfl rfl rfl false (by simp; omega) w) ?_
            simp only [aP, lI, l0, lS]
            show Exit.then _ _ _ _ _
            obtain ⟨so, co, rfl, _, _⟩ := hO.bytes
            go_upto_region 14 with fail
            refine wp_region_list ?_
            refine pureL (.slice so (len + m) co) rfl (fun _ => by kernel_rfl) ?_
            simp only [aP, lI, l0, lS]
            refine pureL (.int .i64 (((n / 256 ^ e) % 256 : Nat) : Int)) rfl (fun _ => by kernel_rfl) ?_
            simp only [aP, lI, l0, lS]
            refine pureL (.int .u8 (vby n m)) rfl (fun w => convI .i64 .u8 _ _ _ _ _ rfl (by kernel_rfl) Try.underlying5 (by kernel_rfl) rfl (by rw [IntKind.wrap_u8, hv]; omega) w) ?_
            simp only [aP, lI, l0, lS]
            refine actL (w' := wr.alloc (.cells #[.int .u8 (vby n m)] 5)) (.slice (some ⟨wr.heap.size, 0, none⟩) 1 1) rfl (by kernel_rfl) ?_
            simp only [aP, lI, l0, lS]
            obtain ⟨v, w3, hr, ho, hgr⟩ := hO.more8 (by omega) (vby n m) (by unfold app; rw [if_neg (by omega), show len + m - len = m by omega]) 23 hB.size
            refine actL v rfl (appendOp _ _ 23 _ _ _ rfl rfl rfl hr) ?_
            simp only [aP, lI, l0, lS]
            refine pureL v rfl (fun _ => by kernel_rfl) ?_
            simp only [aP, lI, l0, lS]
            have HS := show Hid _ from (And.intro (show Own w3 w.heap.size 5 .u8 (len + (m + 1)) (app z len (vby n)) v from ho) ((hB.alloc hB.size (.cells #[.int .u8 (vby n m)] 5)).grown hgr (Nat.le_trans hB.size (by simp)) (fun b hb => (World.ownsRow.lt hO b hb).1)))
            clear hr ho hgr hO hB hv
            show Exit.inBlock _ _ _ _ _
            go_wp2
            go_roundw
            case rel => first | exact ⟨m + 1, v, ((e : Nat) : Int) - 1, by omega, by omega, rfl, by go_num, HS.out.1, HS.out.2⟩ | ((repeat apply Exists.intro); refine ⟨⟨m + 1, v, ((e : Nat) : Int) - 1, by omega, by omega, rfl, by go_num, HS.out.1, HS.out.2⟩, rfl⟩)
            case measure => simp [intOf]; omega
        · obtain rfl : m = K := by omega
          obtain rfl : i = -1 := by omega
          obtain ⟨so, co, rfl, _, _⟩ := hO.bytes
          go_upto_region 15 with fail
          refine wp_region_list ?_
          refine pureL (.slice so (len + m) co) rfl (fun _ => by kernel_rfl) ?_
          simp only [aP, lI, l0, lS]
          refine pureL (.slice so (len + m) co) rfl (fun _ => by kernel_rfl) ?_
          simp only [aP, lI, l0, lS]
          refine pureL (.int .i64 0) rfl (fun _ => by kernel_rfl) ?_
          simp only [aP, lI, l0, lS]
          show Exit.then _ _ _ _ _
          go_wp2
          go_ret2
          exact ⟨_, rfl, by first | exact hO | (rw [hKe]; exact hO), hB⟩

end Go.Proofs.Yteaamgjlkohfcaa

namespace Go.Proofs.Yteaamgjlkohfcaa
open Go.RowKit

abbrev OwnL (w : World) (base : Nat) (l : List Int) (v : Value) : Prop := Own w base 5 .u8 l.length (bl l) v
theorem bl_app' (a b : List Int) (j : Nat) : app (bl a) a.length (bl b) j = bl (a ++ b) j := by
  rw [bl_app]
  rfl
theorem OwnL.app {w : World} {base : Nat} {a b : List Int} {v : Value} (h : Own w base 5 .u8 (a.length + b.length) (app (bl a) a.length (bl b)) v) : OwnL w base (a ++ b) v := by
  unfold OwnL
  rw [List.length_append]
  exact h.congr fun j _ => bl_app' a b j
theorem OwnL.put {w : World} {base : Nat} {l : List Int} {n : Nat} {v : Value} (h : Own w base 5 .u8 (l.length + vsz n) (Go.Proofs.Yteaamgjlkohfcaa.app (bl l) l.length (vby n)) v) : OwnL w base (l ++ vlst n) v := by
  refine OwnL.app ?_
  rw [vlst_length]
  refine h.congr fun j hj => ?_
  unfold Go.Proofs.Yteaamgjlkohfcaa.app
  split
  · rfl
  · exact (bl_vlst n (j - l.length) (by omega)).symm
end Go.Proofs.Yteaamgjlkohfcaa
