/- Texts of Base Step Kr Hold Float Jz Sr Pt Gn Ar Ow Mk Om Jl Sc Vl Mx Va Vg Qa Qb Qc Ve Oa Qd Qe Qg My Zr Gw Gx Vx Vy Vz Vo Qf Qh Ob, joined. -/
import Derived.WalkKit
import Derived.WalkSpells
import Derived.Deep.RegionHeld3
import Derived.RowKit3
import Derived.Stop.BytesEq
import Derived.KernelRfl
import Derived.Deep.QuietTactic
import Derived.Lib.SlBytesConst
import Derived.Laws.BytesArg
import Derived.Laws.Concat
import Derived.Laws.AppendOwn
import Derived.Laws.OwnMore
import Derived.Test.YteaamgjlkohfcaaProg
import Derived.Laws.MakeOwn
import Derived.Laws.StructEq
import Derived.Laws.Small
import Derived.Lib.ConvBytes
import Derived.Laws.Bits128
import Derived.Laws.Cells
import Derived.Deep.Cut
import Derived.Deep.CutBlock
import Derived.Deep.DeepCutAuto
import Derived.BigQuiet
import Derived.OwnWalk
import Derived.Lib.AppendZerosOnto
import Derived.Deep.DeepAppendWide
import Derived.Laws.BitsAllLaws
import Derived.Lib.SliceRun
namespace Go.Proofs.Yteaamgjlkohfcaa
open Go.RowKit
theorem aP (a : Act) (d : Tmp) (v : Value) : a.put (some d) v = { a with tmps := a.tmps.setIfInBounds d v } := rfl
theorem lI (l : List Value) (i : Nat) (v : Value) : l.toArray.setIfInBounds i v = (l.set i v).toArray := List.setIfInBounds_toArray l i v
theorem l0 (x v : Value) (l : List Value) : (x :: l).set 0 v = v :: l := rfl
theorem lS (x v : Value) (l : List Value) (n : Nat) : (x :: l).set (n + 1) v = x :: l.set n v := rfl

/-- A row of n integers of one kind. -/
def row (k : IntKind) (n : Nat) (f : Nat → Int) : List Value := (List.range n).map fun j => .int k (f j)

theorem row_length (k : IntKind) (n : Nat) (f : Nat → Int) : (row k n f).length = n := by simp [row]
theorem row_get (k : IntKind) (n : Nat) (f : Nat → Int) (j : Nat) (h : j < n) : (row k n f)[j]? = some (.int k (f j)) := by simp [row, h]
theorem row_get_some {k : IntKind} {n : Nat} {f : Nat → Int} {j : Nat} {v : Value} (h : (row k n f)[j]? = some v) : j < n ∧ v = .int k (f j) := by
  have hj : j < n := by
    have := (List.getElem?_eq_some_iff.1 h).1
    rw [row_length] at this; exact this
  rw [row_get k n f j hj] at h
  exact ⟨hj, (Option.some.inj h).symm⟩
theorem row_congr (k : IntKind) (n : Nat) {f g : Nat → Int} (h : ∀ j, j < n → f j = g j) : row k n f = row k n g := by
  unfold row
  refine List.map_congr_left fun j hj => ?_
  rw [h j (List.mem_range.1 hj)]
theorem row_one (k : IntKind) (n : Nat) (f : Nat → Int) : ∀ v ∈ row k n f, v.oneCell' = true := by
  intro v hv
  obtain ⟨j, _, rfl⟩ := List.mem_map.1 hv
  rfl

/-- Block b holds such a row, and it may be written. -/
structure Has (w : World) (b : Nat) (k : IntKind) (n : Nat) (f : Nat → Int) : Prop where
  cell : ∀ j, j < n → w.cell? ⟨b, j, none⟩ = some (.int k (f j))
  free : ∀ j, j < n → w.frozen? ⟨b, j, none⟩ = false

def upd (f : Nat → Int) (i : Nat) (x : Int) : Nat → Int := fun j => if j = i then x else f j
theorem upd_same (f : Nat → Int) (i : Nat) (x : Int) : upd f i x i = x := by simp [upd]
theorem upd_other (f : Nat → Int) (i : Nat) (x : Int) (j : Nat) (h : j ≠ i) : upd f i x j = f j := by simp [upd, h]

theorem Has.drew {w : World} {b : Nat} {k : IntKind} {n : Nat} {f : Nat → Int} (h : Has w b k n f) : Has w.drew b k n f := ⟨h.cell, h.free⟩
theorem Has.congr {w : World} {b : Nat} {k : IntKind} {n : Nat} {f g : Nat → Int} (h : Has w b k n f) (e : ∀ j, j < n → f j = g j) : Has w b k n g :=
  ⟨fun j hj => by rw [← e j hj]; exact h.cell j hj, h.free⟩
theorem Has.new (w : World) (k : IntKind) (n : Nat) (f : Nat → Int) (t : TypeId) (b : Nat) (hb : b = w.heap.size) : Has (w.alloc (.cells (row k n f).toArray t)) b k n f :=
  ⟨fun j hj => by rw [World.cell?_alloc_at _ _ _ _ hb]; simpa using row_get k n f j hj, fun j _ => by rw [World.frozen?_alloc_at _ _ _ _ hb]⟩
theorem Has.alloc {w : World} {b : Nat} {k : IntKind} {n : Nat} {f : Nat → Int} (h : Has w b k n f) (o : Obj) (hb : b < w.heap.size) : Has (w.alloc o) b k n f :=
  ⟨fun j hj => by rw [World.cell?_alloc_past _ _ _ hb]; exact h.cell j hj, fun j hj => by rw [World.frozen?_alloc_past _ _ _ hb]; exact h.free j hj⟩
theorem Has.below {w w' : World} {b : Nat} {k : IntKind} {n : Nat} {f : Nat → Int} (h : Has w b k n f) {B : Nat} (hl : Below B w w') (hb : b < B) : Has w' b k n f :=
  ⟨fun j hj => by rw [hl.cell (p := ⟨b, j, none⟩) hb]; exact h.cell j hj, fun j hj => by rw [hl.frozen (p := ⟨b, j, none⟩) hb]; exact h.free j hj⟩
theorem Has.set {w : World} {b : Nat} {k : IntKind} {n : Nat} {f : Nat → Int} (h : Has w b k n f) (i : Nat) (hi : i < n) (x : Int) : Has (w.setCell ⟨b, i, none⟩ (.int k x)) b k n (upd f i x) :=
  ⟨fun j hj => by
    by_cases e : j = i
    · subst e; rw [upd_same, World.cell?_setCell_same _ _ _ (h.cell j hj)]
    · rw [upd_other _ _ _ _ e, World.cell?_setCell_other _ _ _ _ (by intro h'; exact e (by injection h' with _ h2; exact h2.symm))]; exact h.cell j hj,
   fun j hj => by rw [World.frozen?_setCell]; exact h.free j hj⟩
theorem Has.set_other {w : World} {b : Nat} {k : IntKind} {n : Nat} {f : Nat → Int} (h : Has w b k n f) (p : Addr) (v : Value) (hp : p.block ≠ b) : Has (w.setCell p v) b k n f :=
  ⟨fun j hj => by rw [World.cell?_setCell_other _ _ _ _ (by intro h'; exact hp (by rw [h']))]; exact h.cell j hj, fun j hj => by rw [World.frozen?_setCell]; exact h.free j hj⟩
theorem Has.range {w : World} {b : Nat} {k : IntKind} {n : Nat} {f : Nat → Int} (h : Has w b k n f) : w.rangeAt b 0 (row k n f) := fun j v hv => by
  obtain ⟨hj, rfl⟩ := row_get_some hv
  rw [Nat.zero_add]; exact h.cell j hj
theorem Has.there {w : World} {b : Nat} {k : IntKind} {n : Nat} {f : Nat → Int} (h : Has w b k n f) : w.there b 0 n := fun j hj => by
  rw [Nat.zero_add, h.cell j hj]; exact ⟨rfl, h.free j hj⟩
theorem Has.all {w : World} {b : Nat} {n : Nat} (ht : w.there b 0 n) (k : IntKind) (g : Nat → Int) : Has (w.setCells b 0 (row k n g)) b k n g :=
  ⟨fun j hj => by
    have := World.rangeAt_setCells_same w b 0 (row k n g) (by rw [row_length]; exact ht) j _ (row_get k n g j hj)
    rw [Nat.zero_add] at this; exact this,
   fun j hj => by rw [World.frozen?_setCells]; have := (ht j hj).2; rw [Nat.zero_add] at this; exact this⟩

theorem below_setAll {B : Nat} {w w' : World} (h : Below B w w') (b : Nat) (hb : B ≤ b) : ∀ (o : Nat) (vs : List Value), Below B w (w'.setCells b o vs)
  | _, [] => h
  | o, v :: vs => by
    rw [World.setCells]
    exact below_setAll (h.setCell (by simpa using hb) v) b hb (o + 1) vs

theorem size_setAll (b : Nat) : ∀ (o : Nat) (vs : List Value) (w : World), (w.setCells b o vs).heap.size = w.heap.size
  | _, [], _ => rfl
  | o, v :: vs, w => by rw [World.setCells, size_setAll b (o + 1) vs]; simp
theorem Has.setAll_other {w : World} {b : Nat} {k : IntKind} {n : Nat} {f : Nat → Int} (h : Has w b k n f) (b' : Nat) (hb : b' ≠ b) : ∀ (o : Nat) (vs : List Value), Has (w.setCells b' o vs) b k n f
  | _, [] => h
  | o, v :: vs => by
    rw [World.setCells]
    exact Has.setAll_other (h.set_other _ v hb) b' hb (o + 1) vs

/-- The world has k blocks more at least, and those that stood are as they were. -/
structure Fr (w : World) (k : Nat) (w' : World) : Prop where
  below : Below w.heap.size w w'
  size : w.heap.size + k ≤ w'.heap.size
theorem Fr.refl (w : World) : Fr w 0 w := ⟨Below.refl _ _, by omega⟩
theorem Fr.alloc {w w' : World} {k : Nat} (h : Fr w k w') (o : Obj) : Fr w (k + 1) (w'.alloc o) := ⟨h.below.alloc (by have := h.size; omega) _, by have := h.size; simp; omega⟩
theorem Fr.drew {w w' : World} {k : Nat} (h : Fr w k w') : Fr w k w'.drew := ⟨h.below.drew, h.size⟩
theorem Fr.set {w w' : World} {k : Nat} (h : Fr w k w') (p : Addr) (v : Value) (hp : w.heap.size ≤ p.block) : Fr w k (w'.setCell p v) := ⟨h.below.setCell hp v, by have := h.size; simp; omega⟩
theorem Fr.setAll {w w' : World} {k : Nat} (h : Fr w k w') (b : Nat) (hb : w.heap.size ≤ b) (vs : List Value) : Fr w k (w'.setCells b 0 vs) := ⟨below_setAll h.below b hb 0 vs, by rw [size_setAll]; exact h.size⟩
theorem Fr.call {w w' w'' : World} {k : Nat} (h : Fr w k w') (l : Below w'.heap.size w' w'') : Fr w k w'' :=
  ⟨h.below.trans (l.mono (by have := h.size; omega)), by have := h.size; have := l.size; omega⟩
theorem Has.call {w w' w'' : World} {k' : Nat} {b : Nat} {k : IntKind} {n : Nat} {f : Nat → Int} (h : Has w' b k n f) (g : Fr w k' w') (l : Below w'.heap.size w' w'') (hb : b < w.heap.size + k') : Has w'' b k n f :=
  h.below l (by have := g.size; omega)

/-- Each of the first n is from 0 to below M. -/
def In (M : Int) (n : Nat) (f : Nat → Int) : Prop := ∀ j, j < n → 0 ≤ f j ∧ f j < M

theorem In.upd {M : Int} {n : Nat} {f : Nat → Int} (h : In M n f) (i : Nat) (x : Int) (h0 : 0 ≤ x) (h1 : x < M) : In M n (upd f i x) := fun j hj => by
  by_cases e : j = i
  · subst e; rw [upd_same]; exact ⟨h0, h1⟩
  · rw [upd_other _ _ _ _ e]; exact h j hj

/-- The number of a row, its digits to the base M, the lowest first. -/
def val (M : Int) (f : Nat → Int) : Nat → Int
  | 0 => 0
  | n + 1 => val M f n + M ^ n * f n

theorem val_congr (M : Int) {f g : Nat → Int} : ∀ n, (∀ j, j < n → f j = g j) → val M f n = val M g n
  | 0, _ => rfl
  | n + 1, h => by
    simp only [val]
    rw [val_congr M n (fun j hj => h j (by omega)), h n (by omega)]

theorem pow_nonneg (M : Int) (h : 0 < M) : ∀ n : Nat, 0 < M ^ n
  | 0 => by simp
  | n + 1 => by rw [Int.pow_succ]; exact Int.mul_pos (pow_nonneg M h n) h

theorem val_in (M : Int) (hM : 0 < M) (f : Nat → Int) : ∀ n, In M n f → 0 ≤ val M f n ∧ val M f n < M ^ n
  | 0, _ => by simp [val]
  | n + 1, h => by
    have ih := val_in M hM f n (fun j hj => h j (by omega))
    have hn := h n (by omega)
    have hp := pow_nonneg M hM n
    simp only [val]
    rw [Int.pow_succ]
    have h1 : 0 ≤ M ^ n * f n := Int.mul_nonneg (by omega) hn.1
    have h2 : M ^ n * (f n + 1) ≤ M ^ n * M := Int.mul_le_mul_of_nonneg_left (by omega) (by omega)
    rw [Int.mul_add, Int.mul_one] at h2
    omega

/-- A number tells its digits. -/
theorem val_inj (M : Int) (hM : 0 < M) (f g : Nat → Int) : ∀ n, In M n f → In M n g → val M f n = val M g n → ∀ j, j < n → f j = g j
  | 0, _, _, _ => fun j hj => by omega
  | n + 1, hf, hg, h => by
    have bf := val_in M hM f n (fun j hj => hf j (by omega))
    have bg := val_in M hM g n (fun j hj => hg j (by omega))
    have hp := pow_nonneg M hM n
    simp only [val] at h
    have e : f n = g n := by
      by_cases hlt : f n < g n
      · have : M ^ n * (f n + 1) ≤ M ^ n * g n := Int.mul_le_mul_of_nonneg_left (by omega) (by omega)
        rw [Int.mul_add, Int.mul_one] at this; omega
      · by_cases hgt : g n < f n
        · have : M ^ n * (g n + 1) ≤ M ^ n * f n := Int.mul_le_mul_of_nonneg_left (by omega) (by omega)
          rw [Int.mul_add, Int.mul_one] at this; omega
        · omega
    have e2 : val M f n = val M g n := by rw [e] at h; omega
    intro j hj
    by_cases hjn : j = n
    · subst hjn; exact e
    · exact val_inj M hM f g n (fun j hj => hf j (by omega)) (fun j hj => hg j (by omega)) e2 j (by omega)

end Go.Proofs.Yteaamgjlkohfcaa

namespace Go.Proofs.Yteaamgjlkohfcaa
open Go.RowKit

section
variable {P : Program} {ops : Array Oper} {Q : Exit → Act → World → Prop} {md : Region.Mode} {S : World → Prop}

/-- The one operation that may come up changes the world. -/
theorem doesH {i : Nat} {oi : Oper} (dst : Option Tmp) (hdst : oi.dst = dst) {fuel : Nat} {listed : Array Bool} {a : Act} {w w' : World} (hr : Region.ready md ops listed = [i]) (hi : ops[i]? = some oi)
    (hw : Region.wanted oi (yielded ops a.tmps) = true) (he : (execOp a.eval oi).run P w = .ok .skip w') (hS : S w')
    (h : wpAnyH P md ops Q S fuel (listed.setIfInBounds i true) (a.put dst undef) w') : wpAnyH P md ops Q S (fuel + 1) listed a w :=
  ⟨fun h0 => (by rw [h0] at hr; cases hr), fun j hj => by
    rw [hr] at hj
    obtain rfl := List.mem_singleton.1 hj
    unfold wpOp
    simp only [hi, hw, if_true]
    refine .inl ?_
    unfold Oper.wp
    rw [he]
    subst hdst
    exact ⟨hS, h⟩⟩

/-! The same at a list of operations, whose order is the text's. -/
theorem pureL {o : Oper} {rest : List Oper} {a : Act} {w : World} (v : Value) (hw : Region.wanted o (yielded ops a.tmps) = true) (hv : ∀ w, (execOp a.eval o).run P w = .ok (.value v) w)
    (h : wpList P ops Q rest (a.put o.dst v) w) : wpList P ops Q (o :: rest) a w := by
  unfold wpList
  rw [if_pos hw]
  refine .inl ?_
  unfold Oper.wp
  rw [hv w]
  exact h
theorem callL {o : Oper} {f : FuncId} {args : Array Value} {R : Ending → World → Prop} {rest : List Oper} {a : Act} {w : World} (hw : Region.wanted o (yielded ops a.tmps) = true)
    (he : ∀ w, (execOp a.eval o).run P w = .ok (.enter f args) w) (hc : Calls P f args w R) (hK : ∀ e w', R e w' → ∃ v, e = .returned v ∧ wpList P ops Q rest (a.put o.dst v) w') : wpList P ops Q (o :: rest) a w := by
  unfold wpList
  rw [if_pos hw]
  refine .inl ?_
  unfold Oper.wp
  rw [he w]
  exact hc.mono fun e w' hR => by
    obtain ⟨v, rfl, h⟩ := hK e w' hR
    exact h

theorem allocL {o : Oper} {rest : List Oper} {a : Act} {w : World} (c : Array Value) (t : TypeId) (hw : Region.wanted o (yielded ops a.tmps) = true)
    (hv : ∀ w, (execOp a.eval o).run P w = .ok (.value (.pointer (some ⟨w.heap.size, 0, none⟩))) (w.alloc (.cells c t)))
    (h : wpList P ops Q rest (a.put o.dst (.pointer (some ⟨w.heap.size, 0, none⟩))) (w.alloc (.cells c t))) : wpList P ops Q (o :: rest) a w := by
  unfold wpList
  rw [if_pos hw]
  refine .inl ?_
  unfold Oper.wp
  rw [hv w]
  exact h
end

/-! What stands through calls: blocks with rows of 32 bytes in them. -/
/-- The world at hand holds these rows in these blocks; what stood in 'w' stands. -/
structure Kp (w : World) (l : List (Nat × (Nat → Int))) (w' : World) : Prop where
  rows : ∀ p ∈ l, Has w' p.1 .u8 32 p.2 ∧ p.1 < w'.heap.size
  below : Below w.heap.size w w'
theorem Kp.init (w : World) : Kp w [] w := ⟨fun _ h => (by cases h), Below.refl _ _⟩
theorem Kp.drew {w w' : World} {l : List (Nat × (Nat → Int))} (h : Kp w l w') : Kp w l w'.drew := ⟨fun p hp => ⟨(h.rows p hp).1.drew, (h.rows p hp).2⟩, h.below.drew⟩
theorem Kp.call {w w' w'' : World} {l : List (Nat × (Nat → Int))} (h : Kp w l w') (b : Below w'.heap.size w' w'') : Kp w l w'' :=
  ⟨fun p hp => ⟨(h.rows p hp).1.below b (h.rows p hp).2, by have := (h.rows p hp).2; have := b.size; omega⟩, h.below.trans (b.mono h.below.size)⟩
theorem Kp.box {w w' : World} {l : List (Nat × (Nat → Int))} (h : Kp w l w') (f : Nat → Int) (t : TypeId) (b : Nat) (hb : b = w'.heap.size) : Kp w ((b, f) :: l) (w'.alloc (.cells (row .u8 32 f).toArray t)) :=
  ⟨fun p hp => by
    rcases List.mem_cons.1 hp with rfl | hp
    · exact ⟨Has.new w' .u8 32 f t b hb, by simp; omega⟩
    · exact ⟨(h.rows p hp).1.alloc _ (h.rows p hp).2, by have := (h.rows p hp).2; simp; omega⟩, h.below.alloc h.below.size _⟩
theorem Kp.get {w w' : World} {l : List (Nat × (Nat → Int))} (h : Kp w l w') (b : Nat) (f : Nat → Int) (hp : (b, f) ∈ l) : Has w' b .u8 32 f := (h.rows _ hp).1

/-! Two rows of bytes, held against each other. -/
open Extern.Stop (cell)

def bytesOf (n : Nat) (f : Nat → Int) : List UInt8 := (List.range n).map fun j => UInt8.ofNat (f j).toNat
theorem row_bytes (n : Nat) (f : Nat → Int) (h : In 256 n f) : row .u8 n f = (bytesOf n f).map cell := by
  unfold row bytesOf
  rw [List.map_map]
  refine List.map_congr_left fun j hj => ?_
  have hj' := h j (List.mem_range.1 hj)
  simp only [Function.comp, cell]
  congr 1
  have : (f j).toNat < 256 := by omega
  simp [UInt8.toNat_ofNat', Nat.mod_eq_of_lt this]
  omega
theorem bytesOf_inj (n : Nat) (f g : Nat → Int) (hf : In 256 n f) (hg : In 256 n g) : (bytesOf n f == bytesOf n g) = decide (val 256 f n = val 256 g n) := by
  rw [Bool.eq_iff_iff]
  simp only [beq_iff_eq, decide_eq_true_eq]
  constructor
  · intro h
    refine val_congr 256 n fun j hj => ?_
    have e : (bytesOf n f)[j]? = (bytesOf n g)[j]? := by rw [h]
    simp only [bytesOf, List.getElem?_map, List.getElem?_range hj, Option.map_some, Option.some.injEq] at e
    have := congrArg UInt8.toNat e
    have h1 := hf j hj
    have h2 := hg j hj
    have e1 : (f j).toNat < 256 := by omega
    have e2 : (g j).toNat < 256 := by omega
    simp [UInt8.toNat_ofNat', Nat.mod_eq_of_lt e1, Nat.mod_eq_of_lt e2] at this
    omega
  · intro h
    have := val_inj 256 (by decide) f g n hf hg h
    unfold bytesOf
    refine List.map_congr_left fun j hj => ?_
    rw [this j (List.mem_range.1 hj)]
theorem eql_rows {P : Program} (w : World) (t e : TypeId) (n : Nat) (ht : P.underlying t = some (.array n e)) (he : P.underlying e = some (.int .u8)) (hsz : ∀ w, (sizeOf e).run P w = .ok 1 w) (f g : Nat → Int) (hf : In 256 n f) (hg : In 256 n g) :
    (binOp .eql t (.agg (row .u8 n f).toArray) (.agg (row .u8 n g).toArray)).run P w = .ok (.bool (decide (val 256 f n = val 256 g n))) w := by
  rw [row_bytes n f hf, row_bytes n g hg, run_eql_bytes w t e n ht he hsz _ _ (by simp [bytesOf]) (by simp [bytesOf]), bytesOf_inj n f g hf hg]

/-- The operation '==' on two such rows. -/
theorem eqlV {P : Program} {o : Oper} {a : Act} (n : Nat) (f g : Nat → Int) (t e t' : TypeId) (x y : Operand) (ho : o.op = .binOp .eql t x y t') (hx : a.eval x = .agg (row .u8 n f).toArray) (hy : a.eval y = .agg (row .u8 n g).toArray)
    (ht : P.underlying t = some (.array n e)) (he : P.underlying e = some (.int .u8)) (hsz : ∀ w, (sizeOf e).run P w = .ok 1 w) (hm : P.eqGuardType P.depth t = false) (hf : In 256 n f) (hg : In 256 n g) (r : Bool) (hr : decide (val 256 f n = val 256 g n) = r) (w : World) :
    (execOp a.eval o).run P w = .ok (.value (.bool r)) w := by
  unfold execOp
  simp only [ho, hx, hy, Sem.run_bind, run_eqGuard_agg w .eql t x y _ _ hm, Result.andThen_ok, eql_rows w t e n ht he hsz f g hf hg, Sem.run_pure, hr]

end Go.Proofs.Yteaamgjlkohfcaa

namespace Go.Proofs.Yteaamgjlkohfcaa
open Go.RowKit

theorem there_below {w w' : World} {b n : Nat} (h : w.there b 0 n) {B : Nat} (l : Below B w w') (hb : b < B) : w'.there b 0 n := fun j hj => by
  rw [l.cell (p := ⟨b, 0 + j, none⟩) hb, l.frozen (p := ⟨b, 0 + j, none⟩) hb]; exact h j hj
/-- The rows that the blocks of l hold, the rooms R, all below m; what stood in w stands. -/
structure Kr (w : World) (m : Nat) (l : List (Nat × IntKind × Nat × (Nat → Int))) (R : List (Nat × Nat)) (w' : World) : Prop where
  rows : ∀ p ∈ l, Has w' p.1 p.2.1 p.2.2.1 p.2.2.2 ∧ p.1 < m
  room : ∀ q ∈ R, w'.there q.1 0 q.2 ∧ q.1 < m ∧ w.heap.size ≤ q.1
  apart : ∀ p ∈ l, ∀ q ∈ R, p.1 ≠ q.1
  size : m ≤ w'.heap.size
  base : w.heap.size ≤ m
  below : Below w.heap.size w w'
section
variable {w w' w'' : World} {m : Nat} {l : List (Nat × IntKind × Nat × (Nat → Int))} {R : List (Nat × Nat)}
theorem Kr.init (w : World) : Kr w w.heap.size [] [] w := ⟨fun _ h => (by cases h), fun _ h => (by cases h), fun _ h => (by cases h), Nat.le_refl _, Nat.le_refl _, Below.refl _ _⟩
theorem Kr.drew (h : Kr w m l R w') : Kr w m l R w'.drew := ⟨fun p hp => ⟨(h.rows p hp).1.drew, (h.rows p hp).2⟩, h.room, h.apart, h.size, h.base, h.below.drew⟩
theorem Kr.call (h : Kr w m l R w') (b : Below w'.heap.size w' w'') : Kr w m l R w'' :=
  ⟨fun p hp => ⟨(h.rows p hp).1.below b (Nat.lt_of_lt_of_le (h.rows p hp).2 h.size), (h.rows p hp).2⟩,
   fun q hq => ⟨there_below (h.room q hq).1 b (Nat.lt_of_lt_of_le (h.room q hq).2.1 h.size), (h.room q hq).2⟩, h.apart, Nat.le_trans h.size b.size, h.base, h.below.trans (b.mono (Nat.le_trans h.base h.size))⟩
/-- A row in a new block. -/
theorem Kr.box (h : Kr w m l R w') (k : IntKind) (n : Nat) (f : Nat → Int) (t : TypeId) (b : Nat) (hb : b = w'.heap.size) : Kr w (b + 1) ((b, k, n, f) :: l) R (w'.alloc (.cells (row k n f).toArray t)) := by
  have hc := h.call ((Below.refl w'.heap.size w').alloc (Nat.le_refl _) (.cells (row k n f).toArray t))
  refine ⟨fun p hp => ?_, fun q hq => ⟨(hc.room q hq).1, by have := (hc.room q hq).2.1; have := h.size; omega, (hc.room q hq).2.2⟩, fun p hp q hq => ?_, by simp; omega, by have := h.base; have := h.size; omega, hc.below⟩
  · rcases List.mem_cons.1 hp with rfl | hp
    · exact ⟨Has.new w' k n f t b hb, by simp⟩
    · exact ⟨(hc.rows p hp).1, by have := (hc.rows p hp).2; have := h.size; omega⟩
  · rcases List.mem_cons.1 hp with rfl | hp
    · have := (h.room q hq).2.1; have := h.size; simp only; omega
    · exact h.apart p hp q hq
theorem Kr.fill (h : Kr w m l R w') (b n : Nat) (hb : (b, n) ∈ R) (vs : List Value) : Kr w m l R (w'.setCells b 0 vs) :=
  ⟨fun p hp => ⟨(h.rows p hp).1.setAll_other _ (fun e => h.apart p hp _ hb e.symm) 0 _, (h.rows p hp).2⟩, fun q hq => ⟨World.there_setCells (h.room q hq).1 _ _ _, (h.room q hq).2⟩, h.apart, by rw [size_setAll]; exact h.size, h.base,
   below_setAll h.below _ (h.room _ hb).2.2 0 _⟩
theorem Kr.get (h : Kr w m l R w') (b : Nat) (k : IntKind) (n : Nat) (f : Nat → Int) (hp : (b, k, n, f) ∈ l) : Has w' b k n f := (h.rows _ hp).1
theorem Kr.poke (h : Kr w m l R w') (b n : Nat) (hb : (b, n) ∈ R) (o : Nat) (vs : List Value) : Kr w m l R (w'.setCells b o vs) :=
  ⟨fun p hp => ⟨(h.rows p hp).1.setAll_other _ (fun e => h.apart p hp _ hb e.symm) o _, (h.rows p hp).2⟩, fun q hq => ⟨World.there_setCells (h.room q hq).1 _ _ _, (h.room q hq).2⟩, h.apart, by rw [size_setAll]; exact h.size, h.base,
   below_setAll h.below _ (h.room _ hb).2.2 o _⟩
/-- A row is given up: its block is room. -/
theorem Kr.loose (h : Kr w m l R w') (l' : List (Nat × IntKind × Nat × (Nat → Int))) (b : Nat) (k : IntKind) (n : Nat) (f : Nat → Int) (hp : (b, k, n, f) ∈ l) (hl : ∀ p ∈ l', p ∈ l) (hne : ∀ p ∈ l', p.1 ≠ b) (hlo : w.heap.size ≤ b) : Kr w m l' ((b, n) :: R) w' :=
  ⟨fun p hp => h.rows p (hl p hp), fun q hq => by
    rcases List.mem_cons.1 hq with rfl | hq
    · exact ⟨(h.get _ _ _ _ hp).there, (h.rows _ hp).2, hlo⟩
    · exact h.room q hq, fun p hp' q hq => by
    rcases List.mem_cons.1 hq with rfl | hq
    · exact hne p hp'
    · exact h.apart p (hl p hp') q hq, h.size, h.base, h.below⟩
/-- A room holds a row. -/
theorem Kr.settle (h : Kr w m l R w') (R' : List (Nat × Nat)) (b : Nat) (k : IntKind) (n : Nat) (f : Nat → Int) (hb : (b, n) ∈ R) (hR : ∀ q ∈ R', q ∈ R) (hne : ∀ q ∈ R', q.1 ≠ b) (hf : Has w' b k n f) : Kr w m ((b, k, n, f) :: l) R' w' :=
  ⟨fun p hp => by
    rcases List.mem_cons.1 hp with rfl | hp
    · exact ⟨hf, (h.room _ hb).2.1⟩
    · exact h.rows p hp, fun q hq => h.room q (hR q hq), fun p hp q hq => by
    rcases List.mem_cons.1 hp with rfl | hp
    · exact (hne q hq).symm
    · exact h.apart p hp q (hR q hq), h.size, h.base, h.below⟩
theorem Kr.sub (h : Kr w m l R w') (l' : List (Nat × IntKind × Nat × (Nat → Int))) (hl : ∀ p ∈ l', p ∈ l) : Kr w m l' R w' :=
  ⟨fun p hp => h.rows p (hl p hp), h.room, fun p hp q hq => h.apart p (hl p hp) q hq, h.size, h.base, h.below⟩
/-- A row is written anew. -/
theorem Kr.set (h : Kr w m l R w') (l' : List (Nat × IntKind × Nat × (Nat → Int))) (b : Nat) (k : IntKind) (n : Nat) (f g : Nat → Int) (hp : (b, k, n, f) ∈ l) (hl : ∀ p ∈ l', p ∈ l) (hne : ∀ p ∈ l', p.1 ≠ b) (hlo : w.heap.size ≤ b) : Kr w m ((b, k, n, g) :: l') R (w'.setCells b 0 (row k n g)) :=
  ((h.loose l' b k n f hp hl hne hlo).fill b n List.mem_cons_self _).settle R b k n g List.mem_cons_self (fun _ hq => List.mem_cons_of_mem _ hq) (fun q hq => (h.apart _ hp q hq).symm) (Has.all (h.get _ _ _ _ hp).there k g)
/-- What was made since is forgotten. -/
theorem Kr.back (h : Kr w m l R w') (l' : List (Nat × IntKind × Nat × (Nat → Int))) (m0 : Nat) (hl : ∀ p ∈ l', p ∈ l) (hm : ∀ p ∈ l', p.1 < m0) (hr : ∀ q ∈ R, q.1 < m0) (h0 : w.heap.size ≤ m0) (h1 : m0 ≤ m) : Kr w m0 l' R w' :=
  ⟨fun p hp => ⟨(h.rows p (hl p hp)).1, hm p hp⟩, fun q hq => ⟨(h.room q hq).1, hr q hq, (h.room q hq).2.2⟩, fun p hp q hq => h.apart p (hl p hp) q hq, Nat.le_trans h1 h.size, h0, h.below⟩
end

section
variable {P : Program} {ops : Array Oper} {Q : Exit → Act → World → Prop} {md : Region.Mode} {S : World → Prop}
end


section
variable {P : Program} {ops : Array Oper} {Q : Exit → Act → World → Prop} {md : Region.Mode} {S : World → Prop}
theorem run_loadVar_cell (w : World) (b o : Nat) (ty : TypeId) (k : IntKind) (v : Value) (hc : w.cell? ⟨b, o, none⟩ = some v) (hu : P.underlying ty = some (.int k)) : (loadVar ty ⟨b, o, none⟩).run P w = .ok v w := by
  have hagg : (isAgg ty).run P w = .ok false w := by
    unfold isAgg
    rw [Sem.run_bind, run_underlying hu w]
    rfl
  simp [loadVar, Sem.run_bind, hagg, hc]
theorem cellL {o' : Oper} {rest : List Oper} {a : Act} {w : World} (k : IntKind) (v : Value) (b o : Nat) (ty : TypeId) (x : Operand) (hw : Region.wanted o' (yielded ops a.tmps) = true)
    (ho : o'.op = .load ty x) (hx : a.eval x = .pointer (some ⟨b, o, none⟩)) (hu : P.underlying ty = some (.int k)) (hh : w.cell? ⟨b, o, none⟩ = some v)
    (h : wpList P ops Q rest (a.put o'.dst v) w) : wpList P ops Q (o' :: rest) a w := by
  unfold wpList
  rw [if_pos hw]
  refine .inl ?_
  unfold Oper.wp execOp
  simp only [ho, hx, Instr.loadAt, Instr.sureAddr, Sem.run_bind, Sem.run_pure, Result.andThen_ok, run_loadVar_cell w b o ty k v hh hu]
  exact h
end
end Go.Proofs.Yteaamgjlkohfcaa

namespace Go.Proofs.Yteaamgjlkohfcaa
open Go.RowKit

section
variable {P : Program} {ops : Array Oper} {Q : Exit → Act → World → Prop} {md : Region.Mode} {S : World → Prop} {c : Nat}

end

section
variable {P : Program} {ops : Array Oper} {Q : Exit → Act → World → Prop} {md : Region.Mode} {S S2 : World → Prop} {c : Nat}
/-- One cell is stored. -/
theorem run_storeAt_cell (w : World) (b o : Nat) (ty : TypeId) (k : IntKind) (n : Int) (hx : (w.cell? ⟨b, o, none⟩).isSome = true) (hf : w.frozen? ⟨b, o, none⟩ = false) (hi : (P.info? ty).map (·.size) = some 1) :
    (Instr.storeAt ty (.pointer (some ⟨b, o, none⟩)) (.int k n)).run P w = .ok () (w.setCell ⟨b, o, none⟩ (.int k n)) := by
  have h0 : ∀ j : Nat, j < [Value.int k n].length → j = 0 := fun j hj => by simpa using hj
  have := run_storeCells_cells (P := P) b o [.int k n] 0 w (fun j hj => by rw [h0 j hj]; simpa using hx) (fun j hj => by rw [h0 j hj]; simpa using hf) (fun v hv => by simp at hv; subst hv; rfl)
  cases hq : P.info? ty with
  | none => simp [hq] at hi
  | some i =>
    have hs : i.size = 1 := by simp [hq] at hi; omega
    simp only [Nat.add_zero] at this
    have e : (storeVar ty ⟨b, o, none⟩ (.int k n)).run P w = .ok () (w.setCell ⟨b, o, none⟩ (.int k n)) := by
      simp [storeVar, sizeOf, typeInfo, hq, Value.cells, hs, this, World.setCells]
    simp only [Instr.storeAt, Instr.sureAddr, Sem.run_bind, Sem.run_pure, Result.andThen_ok, e]
/-- A place within an array, and within a slice. -/
theorem idxArr {o : Oper} {a : Act} (t e : TypeId) (n : Nat) (k : IntKind) (b off i : Nat) (x y : Operand) (hu : P.underlying t = some (.array n e)) (hsz : ∀ w, (sizeOf e).run P w = .ok 1 w) (hi : i < n) (ho : o.op = .indexAddr t x y) (hx : a.eval x = .pointer (some ⟨b, off, none⟩)) (hy : a.eval y = .int k (i : Int)) (w : World) :
    (execOp a.eval o).run P w = .ok (.value (.pointer (some ⟨b, off + i, none⟩))) w := by
  have e1 : (Instr.indexAt t (.pointer (some ⟨b, off, none⟩)) (.int k (i : Int))).run P w = .ok (.pointer (some ⟨b, off + i, none⟩)) w := by
    simp [Instr.indexAt, run_underlying hu, Instr.sureAddr, asIntOf, hsz, Addr.add_mid]
    intro hf
    omega
  unfold execOp
  simp only [ho, hx, hy, Sem.run_bind, e1, Result.andThen_ok, Sem.run_pure]
theorem idxSl {o : Oper} {a : Act} (t e : TypeId) (len cap : Nat) (k : IntKind) (ad : Addr) (i : Nat) (x y : Operand) (hu : P.underlying t = some (.slice e)) (hsz : ∀ w, (sizeOf e).run P w = .ok 1 w) (hi : i < len) (ho : o.op = .indexAddr t x y) (hx : a.eval x = .slice (some ad) len cap) (hy : a.eval y = .int k (i : Int)) (w : World) :
    (execOp a.eval o).run P w = .ok (.value (.pointer (some (ad.add i)))) w := by
  have e1 : (Instr.indexAt t (.slice (some ad) len cap) (.int k (i : Int))).run P w = .ok (.pointer (some (ad.add i))) w := by
    simp [Instr.indexAt, run_underlying hu, asIntOf, hsz]
    intro hf
    omega
  unfold execOp
  simp only [ho, hx, hy, Sem.run_bind, e1, Result.andThen_ok, Sem.run_pure]
end
end Go.Proofs.Yteaamgjlkohfcaa

namespace Go.Proofs.Yteaamgjlkohfcaa
open Go.RowKit

/-- A block that was made on the way, of n cells. -/
structure Fb (n w0 B : Nat) (w : World) : Prop where
  lo : w0 ≤ B
  hi : B < w.heap.size
  th : w.there B 0 n
theorem Fb.call {n w0 B : Nat} {w w' : World} (h : Fb n w0 B w) (l : Below w.heap.size w w') : Fb n w0 B w' := ⟨h.lo, Nat.lt_of_lt_of_le h.hi l.size, there_below h.th l h.hi⟩
theorem Fb.alloc {n w0 B : Nat} {w : World} (h : Fb n w0 B w) (o : Obj) : Fb n w0 B (w.alloc o) := h.call ((Below.refl w.heap.size w).alloc (Nat.le_refl _) o)

section
variable {P : Program} {ops : Array Oper} {Q : Exit → Act → World → Prop} {md : Region.Mode} {S : World → Prop}

theorem callOp {i : Nat} {oi : Oper} {f : FuncId} {args : Array Value} {R : Ending → World → Prop} {K : Act → World → Prop} {a : Act} {w : World} (hi : ops[i]? = some oi) (hg : oi.guard = none) (he : (execOp a.eval oi).run P w = .ok (.enter f args) w)
    (hc : Calls P f args w R) (hK : ∀ e w', R e w' → ∃ v, e = .returned v ∧ K (a.put oi.dst v) w') : wpOp P ops Q i K a w := by
  have hw : Region.wanted oi (yielded ops a.tmps) = true := by unfold Region.wanted; rw [hg]
  unfold wpOp
  simp only [hi, hw, if_true]
  refine .inl ?_
  unfold Oper.wp
  rw [he]
  exact hc.mono fun e w' hR => by
    obtain ⟨v, rfl, h⟩ := hK e w' hR
    exact h
theorem wpAnyH_cast {fuel : Nat} {l l' : Array Bool} {a a' : Act} {w : World} (h : wpAnyH P md ops Q S fuel l a w) (el : l' = l) (ea : a' = a) : wpAnyH P md ops Q S fuel l' a' w := by subst el ea; exact h
theorem eval_one {a : Act} {o : Oper} (x : Tmp) (u : Value) (hs : ∀ cs b, o.op ≠ .select cs b) (h1 : x ∉ o.looksAt ops) : execOp (a.put (some x) u).eval o = execOp a.eval o :=
  execOp_put (ops := ops) o hs _ _ _ (fun d hd => by injection hd with hd; subst hd; exact h1)
theorem put_comm' (a : Act) {x y : Tmp} (v u : Value) (h : x ≠ y) : (a.put (some x) v).put (some y) u = (a.put (some y) u).put (some x) v :=
  Act.put_comm a v u (fun d hd e => by injection hd with hd; injection e with e; exact h (hd.trans e.symm))


theorem actL {o : Oper} {rest : List Oper} {a : Act} {w w' : World} (v : Value) (hw : Region.wanted o (yielded ops a.tmps) = true) (he : (execOp a.eval o).run P w = .ok (.value v) w')
    (h : wpList P ops Q rest (a.put o.dst v) w') : wpList P ops Q (o :: rest) a w := by
  unfold wpList
  rw [if_pos hw]
  refine .inl ?_
  unfold Oper.wp
  rw [he]
  exact h
end
end Go.Proofs.Yteaamgjlkohfcaa

namespace Go.Proofs.Yteaamgjlkohfcaa
open Go.RowKit

/-- A text's bytes. -/
def zs (s : ByteArray) : Nat → Int := fun j => ((s.data.toList.getD j 0).toNat : Int)
end Go.Proofs.Yteaamgjlkohfcaa

namespace Go.Proofs.Yteaamgjlkohfcaa
open Go.RowKit

/-- A slice's first bytes, wherever they lie. -/
def Src (w : World) (sp : Option Addr) (len : Nat) (z : Nat → Int) : Prop := ∀ j, j < len → ∃ ad, sp = some ad ∧ w.cell? (ad.add j) = some (.int .u8 (z j))
theorem Src.below {w w' : World} {sp : Option Addr} {len : Nat} {z : Nat → Int} (h : Src w sp len z) {B : Nat} (l : Below B w w') (hB : w.heap.size ≤ B) : Src w' sp len z := fun j hj => by
  obtain ⟨ad, he, hc⟩ := h j hj
  have hb := World.block_lt_of_cell? w _ hc
  exact ⟨ad, he, by rw [l.cell (p := ad.add j) (Nat.lt_of_lt_of_le hb hB)]; exact hc⟩


section
variable {P : Program}
theorem run_copy_src {o : Oper} {a : Act} {w : World} (d s : Operand) (dT sT elem : TypeId) (ho : o.op = .call { callee := .builtin .copy, args := #[d, s], argTypes := #[dT, sT] }) (hu : P.underlying dT = some (.slice elem)) (hsz : (P.info? elem).map (·.size) = some 1)
    (b dLen dCap len cap n : Nat) (sp : Option Addr) (z : Nat → Int) (hd : a.eval d = .slice (some ⟨b, 0, none⟩) dLen dCap) (hs : a.eval s = .slice sp len cap) (hl : len ≤ dLen) (hn : len ≤ n) (hb : w.there b 0 n) (hc : Src w sp len z) :
    (execOp a.eval o).run P w = .ok (.value (.int .i64 (len : Int))) (w.setCells b 0 (row .u8 len z)) := by
  by_cases h0 : len = 0
  · subst h0
    have hrun := run_copy_none (P := P) w dT sT o.type elem (some ⟨b, 0, none⟩) sp dLen dCap 0 cap hu hsz (Nat.zero_min _)
    simp [execOp, ho, resolve, invoke, builtin, hd, hs, hrun, Result.andThen, goInt, row, World.setCells]
  · obtain ⟨ad, rfl, _⟩ := hc 0 (by omega)
    have hrun := run_copy_cells (P := P) w dT sT o.type elem b 0 dLen dCap ad len cap (row .u8 len z) hu hsz (by rw [row_length]; exact (Nat.min_eq_left hl).symm) (fun j v hv => by
      obtain ⟨hj, rfl⟩ := row_get_some hv
      obtain ⟨ad', he, hc'⟩ := hc j hj
      injection he with he
      subst he
      exact hc') (fun j hj => by rw [row_length] at hj; exact (hb j (by omega)).1) (fun j hj => by rw [row_length] at hj; exact (hb j (by omega)).2) (row_one .u8 len z)
    rw [row_length] at hrun
    simp [execOp, ho, resolve, invoke, builtin, hd, hs, hrun, Result.andThen, goInt]
end
end Go.Proofs.Yteaamgjlkohfcaa

namespace Go.Proofs.Yteaamgjlkohfcaa
open Go.RowKit

/-- Part of a row, written anew. -/
def over (f : Nat → Int) (o m : Nat) (g : Nat → Int) : Nat → Int := fun j => if o ≤ j ∧ j < o + m then g (j - o) else f j
theorem Has.part {w : World} {b : Nat} {k : IntKind} {n : Nat} {f : Nat → Int} (h : Has w b k n f) (o m : Nat) (ho : o + m ≤ n) (g : Nat → Int) : Has (w.setCells b o (row k m g)) b k n (over f o m g) := by
  have ht : w.there b o m := fun j hj => by rw [h.cell (o + j) (by omega)]; exact ⟨rfl, h.free (o + j) (by omega)⟩
  refine ⟨fun j hj => ?_, fun j hj => by rw [World.frozen?_setCells]; exact h.free j hj⟩
  unfold over
  by_cases e : o ≤ j ∧ j < o + m
  · rw [if_pos e]
    have := World.rangeAt_setCells_same w b o (row k m g) (by rw [row_length]; exact ht) (j - o) _ (row_get k m g (j - o) (by omega))
    rw [show o + (j - o) = j by omega] at this
    exact this
  · rw [if_neg e]
    have hr : w.rangeAt b j [.int k (f j)] := fun i v hv => by
      rcases i with _ | i
      · obtain rfl : Value.int k (f j) = v := by simpa using hv
        exact h.cell j hj
      · simp at hv
    exact World.rangeAt_setCells_apart hr b o (row k m g) (Or.inr (by rw [row_length]; simp only [List.length_cons, List.length_nil]; omega)) 0 _ rfl
end Go.Proofs.Yteaamgjlkohfcaa

namespace Go.Proofs.Yteaamgjlkohfcaa
open Go.RowKit

/-- The first bytes from a list, noughts behind them. -/
def bl (l : List Int) : Nat → Int := fun j => l.getD j 0
theorem Kr.setCell {w w' : World} {m : Nat} {l : List (Nat × IntKind × Nat × (Nat → Int))} {R : List (Nat × Nat)} (h : Kr w m l R w') (l' : List (Nat × IntKind × Nat × (Nat → Int))) (b : Nat) (k : IntKind) (n : Nat) (f : Nat → Int) (i : Nat) (hi : i < n) (x : Int) (hp : (b, k, n, f) ∈ l) (hl : ∀ p ∈ l', p ∈ l) (hne : ∀ p ∈ l', p.1 ≠ b) (hlo : w.heap.size ≤ b) :
    Kr w m ((b, k, n, upd f i x) :: l') R (w'.setCell ⟨b, i, none⟩ (.int k x)) :=
  ((h.loose l' b k n f hp hl hne hlo).poke b n List.mem_cons_self i [.int k x]).settle R b k n (upd f i x) List.mem_cons_self (fun _ hq => List.mem_cons_of_mem _ hq) (fun q hq => (h.apart _ hp q hq).symm) ((h.get _ _ _ _ hp).set i hi x)

theorem conv_const {P : Program} {o : Oper} {a : Act} {w : World} (t e : TypeId) (C : Array Value) (n c : Nat) (x : Operand) (ho : o.op = .convert t t x) (hx : a.eval x = .slice (some ⟨w.heap.size, 0, none⟩) n c) (ht : P.underlying t = some (.slice e)) (he : P.underlying e = some (.int .u8)) :
    (execOp a.eval o).run P (w.alloc (.cells C e)) = .ok (.value (.slice (some ⟨w.heap.size, 0, none⟩) n c)) (w.alloc (.cells C e (C.size, C.size + 1))) := by
  unfold execOp
  simp only [ho, hx, Sem.run_bind, Lib.run_convert_bytes_const w t e C n c ht he, Result.andThen_ok, Sem.run_pure]
theorem eqlI {P : Program} {o : Oper} {a : Act} (k : IntKind) (n n' : Int) (t t' : TypeId) (x y : Operand) (ho : o.op = .binOp .eql t x y t') (hx : a.eval x = .int k n) (hy : a.eval y = .int k n') (r : Bool) (hr : (n == n') = r) (w : World) :
    (execOp a.eval o).run P w = .ok (.value (.bool r)) w := by
  unfold execOp
  simp only [ho, hx, hy, Sem.run_bind, eqGuard_at_int, binOp_eql, Sem.run_pure, Result.andThen_ok, hr]
theorem leqI {P : Program} {o : Oper} {a : Act} (k : IntKind) (n n' : Int) (t t' : TypeId) (x y : Operand) (ho : o.op = .binOp .leq t x y t') (hx : a.eval x = .int k n) (hy : a.eval y = .int k n') (r : Bool) (hr : decide (n ≤ n') = r) (w : World) :
    (execOp a.eval o).run P w = .ok (.value (.bool r)) w := by
  unfold execOp
  simp only [ho, hx, hy, Sem.run_bind, eqGuard_at_int, binOp_leq, Sem.run_pure, Result.andThen_ok, hr]
end Go.Proofs.Yteaamgjlkohfcaa

namespace Go.Proofs.Yteaamgjlkohfcaa
open Go.RowKit

section
variable {P : Program} {o : Oper} {a : Act}
theorem addI (k : IntKind) (n n' r : Int) (t t' : TypeId) (x y : Operand) (ho : o.op = .binOp .add t x y t') (hx : a.eval x = .int k n) (hy : a.eval y = .int k n') (hr : k.wrap (n + n') = r) (w : World) : (execOp a.eval o).run P w = .ok (.value (.int k r)) w := by
  unfold execOp
  simp only [ho, hx, hy, Sem.run_bind, eqGuard_at_int, binOp_add, Op.intArith, Sem.run_pure, Result.andThen_ok, hr]
theorem subI (k : IntKind) (n n' r : Int) (t t' : TypeId) (x y : Operand) (ho : o.op = .binOp .sub t x y t') (hx : a.eval x = .int k n) (hy : a.eval y = .int k n') (hr : k.wrap (n - n') = r) (w : World) : (execOp a.eval o).run P w = .ok (.value (.int k r)) w := by
  unfold execOp
  simp only [ho, hx, hy, Sem.run_bind, eqGuard_at_int, binOp_sub, Op.intArith, Sem.run_pure, Result.andThen_ok, hr]
theorem mulI (k : IntKind) (n n' r : Int) (t t' : TypeId) (x y : Operand) (ho : o.op = .binOp .mul t x y t') (hx : a.eval x = .int k n) (hy : a.eval y = .int k n') (hr : k.wrap (n * n') = r) (w : World) : (execOp a.eval o).run P w = .ok (.value (.int k r)) w := by
  unfold execOp
  simp only [ho, hx, hy, Sem.run_bind, eqGuard_at_int, binOp_mul, Op.intArith, Sem.run_pure, Result.andThen_ok, hr]
theorem remI (k : IntKind) (n n' r : Int) (t t' : TypeId) (x y : Operand) (ho : o.op = .binOp .rem t x y t') (hx : a.eval x = .int k n) (hy : a.eval y = .int k n') (h0 : n' ≠ 0) (hr : n.tmod n' = r) (w : World) : (execOp a.eval o).run P w = .ok (.value (.int k r)) w := by
  unfold execOp
  simp only [ho, hx, hy, Sem.run_bind, eqGuard_at_int, binOp_rem, Op.intDiv, if_neg h0, Sem.run_pure, Result.andThen_ok, hr]
theorem shrI (k yk : IntKind) (n y r : Int) (t t' : TypeId) (x x' : Operand) (ho : o.op = .binOp .shr t x x' t') (hx : a.eval x = .int k n) (hy : a.eval x' = .int yk y) (h0 : 0 ≤ y) (hr : n / 2 ^ min y.toNat k.bits = r) (w : World) : (execOp a.eval o).run P w = .ok (.value (.int k r)) w := by
  unfold execOp
  simp only [ho, hx, hy, Sem.run_bind, eqGuard_at_int, binOp_shr, shift_shr_any k yk n y h0, Sem.run_pure, Result.andThen_ok, hr]
theorem convI (k k' : IntKind) (n r : Int) (t t' : TypeId) (x : Operand) (ho : o.op = .convert t t' x) (ht : (P.underlying t).isSome = true) (ht' : P.underlying t' = some (.int k')) (hk : P.intKind t' = k') (hx : a.eval x = .int k n) (hr : k'.wrap n = r) (w : World) : (execOp a.eval o).run P w = .ok (.value (.int k' r)) w := by
  subst hk
  unfold execOp
  simp only [ho, hx, Sem.run_bind, run_convert_int w t t' k n ht ht', Sem.run_pure, Result.andThen_ok, hr]
theorem lssI (k : IntKind) (n n' : Int) (t t' : TypeId) (x y : Operand) (ho : o.op = .binOp .lss t x y t') (hx : a.eval x = .int k n) (hy : a.eval y = .int k n') (r : Bool) (hr : decide (n < n') = r) (w : World) : (execOp a.eval o).run P w = .ok (.value (.bool r)) w := by
  unfold execOp
  simp only [ho, hx, hy, Sem.run_bind, eqGuard_at_int, binOp_lss, Sem.run_pure, Result.andThen_ok, hr]
theorem neqI (k : IntKind) (n n' : Int) (t t' : TypeId) (x y : Operand) (ho : o.op = .binOp .neq t x y t') (hx : a.eval x = .int k n) (hy : a.eval y = .int k n') (r : Bool) (hr : (n != n') = r) (w : World) : (execOp a.eval o).run P w = .ok (.value (.bool r)) w := by
  unfold execOp
  simp only [ho, hx, hy, Sem.run_bind, eqGuard_at_int, binOp_neq, Sem.run_pure, Result.andThen_ok, hr]
theorem lenS (x : Operand) (t e : TypeId) (sp : Option Addr) (n c : Nat) (ho : o.op = .call { callee := .builtin .len, args := #[x], argTypes := #[t] }) (ht : P.underlying t = some (.slice e)) (hx : a.eval x = .slice sp n c) (w : World) : (execOp a.eval o).run P w = .ok (.value (.int .i64 (n : Int))) w := by
  simp [execOp, ho, resolve, invoke, builtin, hx, Builtin.len_, run_underlying ht, goInt]
/-- A slice of a slice. -/
theorem cutOp {w : World} (t : TypeId) (x y : Operand) (p q v : Value) (ho : o.op = .slice t x (some y) none none) (hx : a.eval x = p) (hy : a.eval y = q) (hr : (Instr.sliceAt t p (some q) none none).run P w = .ok v w) :
    (execOp a.eval o).run P w = .ok (.value v) w := by
  unfold execOp
  simp only [ho, hx, hy, Option.map_some, Option.map_none, Sem.run_bind, hr, Result.andThen_ok, Sem.run_pure]
theorem cutHi {w : World} (t : TypeId) (x y : Operand) (p q v : Value) (ho : o.op = .slice t x none (some y) none) (hx : a.eval x = p) (hy : a.eval y = q) (hr : (Instr.sliceAt t p none (some q) none).run P w = .ok v w) :
    (execOp a.eval o).run P w = .ok (.value v) w := by
  unfold execOp
  simp only [ho, hx, hy, Option.map_some, Option.map_none, Sem.run_bind, hr, Result.andThen_ok, Sem.run_pure]
theorem cutAll {w : World} (t : TypeId) (x : Operand) (p v : Value) (ho : o.op = .slice t x none none none) (hx : a.eval x = p) (hr : (Instr.sliceAt t p none none none).run P w = .ok v w) :
    (execOp a.eval o).run P w = .ok (.value v) w := by
  unfold execOp
  simp only [ho, hx, Option.map_none, Sem.run_bind, hr, Result.andThen_ok, Sem.run_pure]

/-- Bytes as a text. -/
def txt (n : Nat) (z : Nat → Int) : ByteArray := strOfNums ((List.range n).map z)
theorem conv_txt (t e dst : TypeId) (x : Operand) (ho : o.op = .convert t dst x) (ht : P.underlying t = some (.slice e)) (he : P.underlying e = some (.int .u8)) (hd : P.underlying dst = some .string) (sp : Option Addr) (len cap : Nat) (z : Nat → Int) (hx : a.eval x = .slice sp len cap) (w : World) (hs : Src w sp len z) (hn : sp = none → len = 0) :
    (execOp a.eval o).run P w = .ok (.value (.string (txt len z))) w := by
  have h : (convert t dst (.slice sp len cap)).run P w = .ok (.string (txt len z)) w := by
    cases sp with
    | none =>
      obtain rfl := hn rfl
      rw [run_convert_bytes_nil w t e ht he 0 cap dst hd]
      rfl
    | some ad =>
      have hl : (loadCells ad len).run P w = .ok (((List.range len).map z).map (Value.int .u8)).toArray w := by
        have := run_loadCells_list (P := P) w ad (((List.range len).map z).map (Value.int .u8)) (fun j v hj => by
          rw [List.map_map] at hj
          have hjl : j < len := by
            have := (List.getElem?_eq_some_iff.1 hj).1
            simpa using this
          obtain ⟨ad', he', hc⟩ := hs j hjl
          injection he' with he'
          subst he'
          rw [hc, ← hj]
          simp [hjl])
        simpa using this
      rw [run_convert_bytes_string w t dst e _ len cap ht he hd, run_bytesToString w ad len cap _ hl, foldl_push_bytes]
      simp [txt, strOfNums, ByteArray.empty, ByteArray.emptyWithCapacity]
      rfl
  unfold execOp
  simp only [ho, hx, Sem.run_bind, h, Result.andThen_ok, Sem.run_pure]
theorem eqlS (s s' : ByteArray) (t t' : TypeId) (x y : Operand) (ho : o.op = .binOp .eql t x y t') (hx : a.eval x = .string s) (hy : a.eval y = .string s') (h : s = s') (w : World) : (execOp a.eval o).run P w = .ok (.value (.bool true)) w := by
  subst h
  unfold execOp
  simp only [ho, hx, hy, Sem.run_bind, eqGuard_at_string, binOp_string_eql, Sem.run_pure, Result.andThen_ok, beq_self_eq_true]
end

section
variable {P : Program} {ops : Array Oper} {Q : Exit → Act → World → Prop} {md : Region.Mode} {S : World → Prop}
/-- What only looks at memory that S speaks of is taken first. -/
theorem readH {i : Nat} {oi : Oper} (dst : Option Tmp) (hdst : oi.dst = dst) {fuel : Nat} {listed : Array Bool} {a : Act} {w : World} (v : Value) (hi : ops[i]? = some oi) (hw : Region.wanted oi (yielded ops a.tmps) = true)
    (hv : ∀ w, S w → (execOp a.eval oi).run P w = .ok (.value v) w)
    (hs : Region.noSelect ops = true) (hf : Region.free md ops listed i = true) (hr : (Region.ready md ops listed).contains i = true)
    (hQ : ∀ c a w, Q (.panic c) (a.put dst v) w → Q (.panic c) a w) (hS : S w)
    (h : wpAnyH P md ops Q S fuel (listed.setIfInBounds i true) (a.put dst v) w) : wpAnyH P md ops Q S (fuel + 1) listed a w := by
  subst hdst
  exact wpAnyH_take hi hs hf hr hQ (Or.inl ⟨hw, hv⟩) hS h
theorem readL {o : Oper} {rest : List Oper} {a : Act} {w : World} (v : Value) (hw : Region.wanted o (yielded ops a.tmps) = true) (hv : (execOp a.eval o).run P w = .ok (.value v) w)
    (h : wpList P ops Q rest (a.put o.dst v) w) : wpList P ops Q (o :: rest) a w := by
  unfold wpList
  rw [if_pos hw]
  refine .inl ?_
  unfold Oper.wp
  rw [hv]
  exact h
theorem storeL {o' : Oper} {rest : List Oper} {a : Act} {w : World} (k : IntKind) (v : Int) (b o : Nat) (ty : TypeId) (x y : Operand) (hw : Region.wanted o' (yielded ops a.tmps) = true) (ho : o'.op = .store ty x y) (hx : a.eval x = .pointer (some ⟨b, o, none⟩)) (hy : a.eval y = .int k v)
    (hc : (w.cell? ⟨b, o, none⟩).isSome = true) (hf : w.frozen? ⟨b, o, none⟩ = false) (hz : (P.info? ty).map (·.size) = some 1)
    (h : wpList P ops Q rest (a.put o'.dst undef) (w.setCell ⟨b, o, none⟩ (.int k v))) : wpList P ops Q (o' :: rest) a w := by
  unfold wpList
  rw [if_pos hw]
  refine .inl ?_
  have he : (execOp a.eval o').run P w = .ok .skip (w.setCell ⟨b, o, none⟩ (.int k v)) := by
    unfold execOp
    simp only [ho, hx, hy]
    have e := run_storeAt_cell (P := P) w b o ty k v hc hf hz
    simp only [Sem.run_bind, e, Result.andThen_ok, Sem.run_pure]
  unfold Oper.wp
  rw [he]
  exact h
end
theorem Has.src {w : World} {b n : Nat} {f : Nat → Int} (h : Has w b .u8 n f) (o len : Nat) (ho : o + len ≤ n) : Src w (some ⟨b, o, none⟩) len (fun j => f (o + j)) := fun j hj => ⟨_, rfl, by rw [Addr.add_mid]; exact h.cell (o + j) (by omega)⟩
theorem Src.congr {w : World} {sp : Option Addr} {len : Nat} {z y : Nat → Int} (h : Src w sp len z) (e : ∀ j, j < len → z j = y j) : Src w sp len y := fun j hj => by
  obtain ⟨ad, h1, h2⟩ := h j hj
  exact ⟨ad, h1, by rw [← e j hj]; exact h2⟩
end Go.Proofs.Yteaamgjlkohfcaa

namespace Go.Proofs.Yteaamgjlkohfcaa
open Go.RowKit

/-- v is a slice of n numbers, made since block 'base'. -/
def Own (w : World) (base : Nat) (e : TypeId) (k : IntKind) (n : Nat) (f : Nat → Int) (v : Value) : Prop := w.ownsRow base e 1 v n (row k n f)

/-- One row behind another. -/
def app (f : Nat → Int) (n : Nat) (h : Nat → Int) : Nat → Int := fun j => if j < n then f j else h (j - n)
theorem row_app (k : IntKind) (n m : Nat) (f h : Nat → Int) : row k n f ++ row k m h = row k (n + m) (app f n h) := by
  unfold row
  rw [List.range_add, List.map_append, List.map_map]
  congr 1
  · refine List.map_congr_left fun j hj => ?_
    unfold app; rw [if_pos (List.mem_range.1 hj)]
  · refine List.map_congr_left fun j hj => ?_
    simp [app]
    omega
theorem Own.congr {w : World} {base : Nat} {e : TypeId} {k : IntKind} {n : Nat} {f g : Nat → Int} {v : Value} (h : Own w base e k n f v) (he : ∀ j, j < n → f j = g j) : Own w base e k n g v := by
  unfold Own at *
  rw [← row_congr k n he]; exact h
theorem grown_of_below {w w' : World} (l : Below w.heap.size w w') : w.grownBy w' none := ⟨l.os, l.tape, l.output, l.size, fun j hj _ => l.block j hj⟩
theorem Own.below {w w' : World} {base : Nat} {e : TypeId} {k : IntKind} {n : Nat} {f : Nat → Int} {v : Value} (h : Own w base e k n f v) (l : Below w.heap.size w w') : Own w' base e k n f v :=
  World.ownsRow.kept h (grown_of_below l) (by cases hv : v.ownBlock <;> simp)
theorem Own.grown {w w' : World} {base : Nat} {e : TypeId} {k : IntKind} {n : Nat} {f : Nat → Int} {v : Value} (h : Own w base e k n f v) {r : Option Nat} (l : w.grownBy w' r) (hr : ∀ g, r = some g → g < base) : Own w' base e k n f v := by
  refine World.ownsRow.kept h l ?_
  cases hv : v.ownBlock with
  | none => exact .inl rfl
  | some g =>
    refine .inr fun e => ?_
    have h1 := (World.ownsRow.lt h g hv).1
    have h2 := hr g e.symm
    omega
theorem Own.drew {w : World} {base : Nat} {e : TypeId} {k : IntKind} {n : Nat} {f : Nat → Int} {v : Value} (h : Own w base e k n f v) : Own w.drew base e k n f v := h.below (Below.refl _ _).drew
theorem Own.alloc {w : World} {base : Nat} {e : TypeId} {k : IntKind} {n : Nat} {f : Nat → Int} {v : Value} (h : Own w base e k n f v) (o : Obj) : Own (w.alloc o) base e k n f v := World.ownsRow.alloc h o
theorem Own.lit (w : World) (base : Nat) (e : TypeId) (k : IntKind) (n : Nat) (f : Nat → Int) (hb : base ≤ w.heap.size) (hn : n ≤ maxLen) : Own (w.alloc (.cells (row k n f).toArray e)) base e k n f (.slice (some ⟨w.heap.size, 0, none⟩) n n) :=
  ⟨by rw [row_length, Nat.mul_one], .inr ⟨w.heap.size, n, _, rfl, hb, heap_alloc_new w _, Nat.le_refl _, hn, by rw [List.size_toArray, row_length, Nat.mul_one], by rw [Nat.mul_one]; exact List.take_of_length_le (by rw [row_length]; exact Nat.le_refl _)⟩⟩
/-- What such a slice is. -/
theorem Own.has {w : World} {base : Nat} {e : TypeId} {k : IntKind} {n : Nat} {f : Nat → Int} {v : Value} (h : Own w base e k n f v) (hn : 0 < n) : ∃ g cap, v = .slice (some ⟨g, 0, none⟩) n cap ∧ base ≤ g ∧ g < w.heap.size ∧ Has w g k n f := by
  have hc := h
  rcases h.2 with ⟨rfl, h0⟩ | ⟨g, cap, cur, rfl, hb, hg, _⟩
  · omega
  · refine ⟨g, cap, rfl, hb, (Array.getElem?_eq_some_iff.1 hg).1, fun j hj => ?_, fun j _ => ?_⟩
    · have := World.ownsRow.cells hc (g := g) rfl j _ (row_get k n f j hj)
      rw [Addr.add_mid, Nat.zero_add] at this
      exact this
    · unfold World.frozen?
      rw [hg]
      simp
theorem Own.isSlice {w : World} {base : Nat} {e : TypeId} {k : IntKind} {n : Nat} {f : Nat → Int} {v : Value} (h : Own w base e k n f v) : ∃ sp cap, v = .slice sp n cap ∧ (sp = none → n = 0) ∧ ∀ j, j < n → ∃ ad, sp = some ad ∧ w.cell? (ad.add j) = some (.int k (f j)) := by
  rcases Nat.eq_zero_or_pos n with h0 | h0
  · subst h0
    rcases h.2 with ⟨rfl, _⟩ | ⟨g, cap, cur, rfl, _⟩
    · exact ⟨_, _, rfl, fun _ => rfl, fun j hj => by omega⟩
    · exact ⟨_, _, rfl, fun _ => rfl, fun j hj => by omega⟩
  · obtain ⟨g, cap, rfl, _, _, hh⟩ := h.has h0
    exact ⟨_, _, rfl, fun e => (by cases e), fun j hj => ⟨_, rfl, by rw [Addr.add_mid, Nat.zero_add]; exact hh.cell j hj⟩⟩
theorem Own.bytes {w : World} {base : Nat} {e : TypeId} {n : Nat} {f : Nat → Int} {v : Value} (h : Own w base e .u8 n f v) : ∃ sp cap, v = .slice sp n cap ∧ n ≤ cap ∧ Src w sp n f := by
  obtain ⟨sp, cap, rfl, _, hs⟩ := h.isSlice
  refine ⟨sp, cap, rfl, ?_, hs⟩
  rcases h.2 with ⟨hv, h0⟩ | ⟨g, cap', cur, hv, _, _, hnc, _⟩
  · omega
  · injection hv with _ _ hc
    omega
theorem Kr.grown {w w' w'' : World} {m : Nat} {l : List (Nat × IntKind × Nat × (Nat → Int))} {R : List (Nat × Nat)} (h : Kr w m l R w') {r : Option Nat} (g : w'.grownBy w'' r) (hr : ∀ b, r = some b → m ≤ b) : Kr w m l R w'' := by
  have hb : Below m w' w'' := ⟨g.os, g.tape, g.output, g.size, fun j hj => g.block j (Nat.lt_of_lt_of_le hj h.size) (fun e => by have := hr j e.symm; omega)⟩
  exact ⟨fun p hp => ⟨(h.rows p hp).1.below hb (h.rows p hp).2, (h.rows p hp).2⟩, fun q hq => ⟨there_below (h.room q hq).1 hb (h.room q hq).2.1, (h.room q hq).2⟩, h.apart, Nat.le_trans h.size g.size, h.base, h.below.trans (hb.mono h.base)⟩
/-- A slice of one's own, among the rows. -/
theorem Kr.own {w w' : World} {m : Nat} {l : List (Nat × IntKind × Nat × (Nat → Int))} {R : List (Nat × Nat)} (h : Kr w m l R w') {g : Nat} {k : IntKind} {n : Nat} {f : Nat → Int} (hg : m ≤ g) (hl : g < w'.heap.size) (hf : Has w' g k n f) : Kr w w'.heap.size ((g, k, n, f) :: l) R w' :=
  ⟨fun p hp => by
    rcases List.mem_cons.1 hp with rfl | hp
    · exact ⟨hf, hl⟩
    · exact ⟨(h.rows p hp).1, Nat.lt_of_lt_of_le (h.rows p hp).2 h.size⟩, fun q hq => ⟨(h.room q hq).1, Nat.lt_of_lt_of_le (h.room q hq).2.1 h.size, (h.room q hq).2.2⟩, fun p hp q hq => by
    rcases List.mem_cons.1 hp with rfl | hp
    · have := (h.room q hq).2.1; simp only; omega
    · exact h.apart p hp q hq, Nat.le_refl _, Nat.le_trans h.base h.size, h.below⟩

section
variable {P : Program}
/-- A type whose values are single numbers. -/
structure One (P : Program) (e : TypeId) (k : IntKind) (bytes : Nat) : Prop where
  info : (P.info? e).map (fun i => (i.zero, i.bytes, i.size)) = some (some (.int k 0), bytes, 1)
theorem run_append_Own {w : World} {base : Nat} {t ty e : TypeId} {k : IntKind} {bytes n : Nat} {f : Nat → Int} {v : Value} (ht : P.underlying t = some (.slice e)) (he : One P e k bytes) (h : Own w base e k n f v)
    (sp : Option Addr) (m c : Nat) (hv : Nat → Int) (hs : ∀ j, j < m → ∃ ad, sp = some ad ∧ w.cell? (ad.add j) = some (.int k (hv j))) (hz : sp = none → c = 0) (h63 : n + m ≤ maxLen) (hb : (n + m) * bytes ≤ 140737488355328) (hbase : base ≤ w.heap.size) :
    ∃ v' w', (Builtin.append_ #[t, t] ty #[v, .slice sp m c]).run P w = .ok v' w' ∧ Own w' base e k (n + m) (app f n hv) v' ∧ w.grownBy w' v.ownBlock ∧ (∀ g, v'.ownBlock = some g → v.ownBlock = some g ∨ g = w.heap.size) := by
  obtain ⟨i, hi, hq⟩ := Option.map_eq_some_iff.1 he.info
  simp only [Prod.mk.injEq] at hq
  obtain ⟨h1, h2, h3⟩ := hq
  cases sp with
  | none =>
    have hm : m = 0 := by
      rcases Nat.eq_zero_or_pos m with h0 | h0
      · exact h0
      · obtain ⟨ad, e, _⟩ := hs 0 h0; cases e
    subst hm
    obtain rfl := hz rfl
    refine ⟨v, w, run_append_owned_none (P := P) (w := w) base t ty e i 1 ht hi v n _ h, h.congr fun j hj => by unfold app; rw [if_pos hj], ⟨rfl, rfl, rfl, Nat.le_refl _, fun _ _ _ => rfl⟩, fun g hg => .inl hg⟩
  | some ad =>
    obtain ⟨v', w', hr, ho, hg, _⟩ := run_append_own (P := P) w base t ty e i (.int k 0) 1 bytes ht hi h1 h3 h2 rfl (by decide) v n _ h ad m c (row k m hv) (by rw [row_length, Nat.mul_one]) (fun j u hu => by
      obtain ⟨hj, rfl⟩ := row_get_some hu
      obtain ⟨ad', e', hc⟩ := hs j hj
      injection e' with e'
      subst e'
      exact hc) (row_one k m hv) h63 hb hbase
    rw [row_app] at ho
    refine ⟨v', w', hr, ho, hg, ?_⟩
    have hnews : ∀ j u, (row k m hv)[j]? = some u → w.cell? (ad.add j) = some u := fun j u hu => by
      obtain ⟨hj, rfl⟩ := row_get_some hu
      obtain ⟨ad', e', hc⟩ := hs j hj
      injection e' with e'
      subst e'
      exact hc
    have hml : (row k m hv).length = m * i.size := by rw [row_length, h3, Nat.mul_one]
    rcases h.2 with ⟨rfl, rfl⟩ | ⟨g, cap, cur, rfl, hbg, hgg, hnc, hcm, hcs, htake⟩
    · by_cases hm : m = 0
      · subst hm
        have hr2 : (Builtin.append_ #[t, t] ty #[.slice none 0 0, .slice (some ad) 0 c]).run P w = .ok (.slice none 0 0) w := by
          simp [Builtin.append_, run_underlying ht, sizeOf, typeInfo, hi, Builtin.lenOf, Builtin.firstCells, loadCells, loadCellsFrom]
        rw [hr] at hr2
        injection hr2 with hv' _
        rw [hv']
        intro g hg'
        cases hg'
      · have hr2 := run_append_nil (P := P) w t ty e i (.int k 0) ht hi h1 ad m c (row k m hv) hml hnews (by omega) (by unfold maxLen at h63; omega) (by rw [h2]; have := hb; simp only [Nat.zero_add] at this; omega)
        rw [hr] at hr2
        injection hr2 with hv' _
        rw [hv']
        intro g hg'
        injection hg' with hg'
        exact .inr hg'.symm
    · by_cases hroom : n + m ≤ cap
      · have hr2 := run_append_room (P := P) w t ty e i ht hi g n cap cur hgg ad m c (row k m hv) hml hnews (row_one k m hv) hroom (by rw [hml, hcs, h3]; omega)
        rw [hr] at hr2
        injection hr2 with hv' _
        rw [hv']
        intro g' hg'
        exact .inl hg'
      · have hr2 := run_append_grow (P := P) w t ty e i (.int k 0) ht hi h1 ⟨g, 0, none⟩ n cap (row k n f) (by rw [row_length, h3, Nat.mul_one]) (World.ownsRow.cells h (g := g) rfl) ad m c (row k m hv) hml hnews (by omega) (by unfold maxLen at h63; omega) (by rw [h2]; exact growslice_fits (by omega) hb)
        rw [hr] at hr2
        injection hr2 with hv' _
        rw [hv']
        intro g' hg'
        injection hg' with hg'
        exact .inr hg'.symm
theorem appendOp {o : Oper} {a : Act} {w w' : World} (s x : Operand) (t : TypeId) (v u r : Value) (ho : o.op = .call { callee := .builtin .append, args := #[s, x], argTypes := #[t, t] }) (hs : a.eval s = v) (hx : a.eval x = u) (hr : (Builtin.append_ #[t, t] o.type #[v, u]).run P w = .ok r w') :
    (execOp a.eval o).run P w = .ok (.value r) w' := by
  unfold execOp
  simp only [ho, resolve, invoke, builtin, Sem.run_bind, Sem.run_pure, Result.andThen_ok, List.map_toArray, List.map_cons, List.map_nil, hs, hx, hr]
end
end Go.Proofs.Yteaamgjlkohfcaa

namespace Go.Proofs.Yteaamgjlkohfcaa
open Go.RowKit

theorem one8 : One Try.prog 5 .u8 1 := ⟨by kernel_rfl⟩
end Go.Proofs.Yteaamgjlkohfcaa

namespace Go.Proofs.Yteaamgjlkohfcaa
open Go.RowKit

theorem Below.grown {B : Nat} {w w1 w2 : World} (l : Below B w w1) {r : Option Nat} (g : w1.grownBy w2 r) (hB : B ≤ w1.heap.size) (hr : ∀ b, r = some b → B ≤ b) : Below B w w2 :=
  ⟨g.os.trans l.os, g.tape.trans l.tape, g.output.trans l.output, Nat.le_trans l.size g.size, fun j hj => (g.block j (Nat.lt_of_lt_of_le hj hB) (fun e => by have := hr j e.symm; omega)).trans (l.block j hj)⟩
theorem Has.grown {w w' : World} {b : Nat} {k : IntKind} {n : Nat} {f : Nat → Int} (h : Has w b k n f) {r : Option Nat} (g : w.grownBy w' r) (hb : b < w.heap.size) (hne : some b ≠ r) : Has w' b k n f :=
  ⟨fun j hj => by rw [World.cell?_of_block (a := ⟨b, j, none⟩) (g.block b hb hne)]; exact h.cell j hj, fun j hj => by rw [World.frozen?_of_block (a := ⟨b, j, none⟩) (g.block b hb hne)]; exact h.free j hj⟩
def slen : Value → Nat
  | .slice _ n _ => n
  | _ => 0
theorem Own.nilCap {w : World} {base : Nat} {e : TypeId} {k : IntKind} {n : Nat} {f : Nat → Int} {sp : Option Addr} {c : Nat} (h : Own w base e k n f (.slice sp n c)) : sp = none → c = 0 := fun e => by
  rcases h.2 with ⟨hv, _⟩ | ⟨g, cap, cur, hv, _⟩
  · injection hv
  · injection hv with hv _ _
    rw [e] at hv
    cases hv
theorem Own.lower {w : World} {base base' : Nat} {e : TypeId} {k : IntKind} {n : Nat} {f : Nat → Int} {v : Value} (h : Own w base e k n f v) (hb : base' ≤ base) : Own w base' e k n f v := by
  refine ⟨h.1, ?_⟩
  rcases h.2 with h2 | ⟨g, cap, cur, h1, h2, h3⟩
  · exact .inl h2
  · exact .inr ⟨g, cap, cur, h1, Nat.le_trans hb h2, h3⟩
theorem Own.le {w : World} {base : Nat} {e : TypeId} {k : IntKind} {n : Nat} {f : Nat → Int} {sp : Option Addr} {c : Nat} (h : Own w base e k n f (.slice sp n c)) : n ≤ c := by
  rcases h.2 with ⟨hv, h0⟩ | ⟨g, cap, cur, hv, _, _, hc, _⟩
  · omega
  · injection hv with _ _ hc2
    omega
end Go.Proofs.Yteaamgjlkohfcaa

namespace Go.Proofs.Yteaamgjlkohfcaa
open Go.RowKit

theorem there_grown {w w' : World} {B n : Nat} {r : Option Nat} (h : w.there B 0 n) (g : w.grownBy w' r) (hb : B < w.heap.size) (hne : r ≠ some B) : w'.there B 0 n := fun j hj => by
  have e := g.block B hb (fun e => hne e.symm)
  have := h j hj
  rw [World.cell?_of_block (a := ⟨B, 0 + j, none⟩) e, World.frozen?_of_block (a := ⟨B, 0 + j, none⟩) e]
  exact this
theorem Fb.grown {n w0 B : Nat} {w w' : World} {r : Option Nat} (h : Fb n w0 B w) (g : w.grownBy w' r) (hne : r ≠ some B) : Fb n w0 B w' := ⟨h.lo, Nat.lt_of_lt_of_le h.hi g.size, there_grown h.th g h.hi hne⟩
theorem Src.grown {w w' : World} {p n : Nat} {f : Nat → Int} {r : Option Nat} (h : Src w (some ⟨p, 0, Option.none⟩) n f) (g : w.grownBy w' r) (hp : p < w.heap.size) (hne : r ≠ some p) : Src w' (some ⟨p, 0, Option.none⟩) n f := fun j hj => by
  obtain ⟨ad, e, hc⟩ := h j hj
  injection e with e
  subst e
  refine ⟨_, rfl, ?_⟩
  rw [Addr.add_mid] at hc ⊢
  rw [World.cell?_of_block (a := ⟨p, 0 + j, Option.none⟩) (g.block p hp (fun e => hne e.symm))]
  exact hc
section
variable {P : Program} {ops : Array Oper} {Q : Exit → Act → World → Prop} {md : Region.Mode} {S : World → Prop}
theorem skipL {o : Oper} {rest : List Oper} {a : Act} {w : World} (hw : Region.wanted o (yielded ops a.tmps) = false) (h : wpList P ops Q rest (a.put o.dst undef) w) : wpList P ops Q (o :: rest) a w := by
  unfold wpList
  rw [if_neg (by rw [hw]; decide)]
  exact h
/-- Two operations, either of which may come first. -/
theorem twoH (i j : Nat) {fuel : Nat} {listed : Array Bool} {a : Act} {w : World} (hr : Region.ready md ops listed = [i, j])
    (hi : wpOp P ops Q i (fun a' w' => S w' ∧ wpAnyH P md ops Q S fuel (listed.setIfInBounds i true) a' w') a w) (hj : wpOp P ops Q j (fun a' w' => S w' ∧ wpAnyH P md ops Q S fuel (listed.setIfInBounds j true) a' w') a w) : wpAnyH P md ops Q S (fuel + 1) listed a w :=
  ⟨fun h0 => (by rw [h0] at hr; cases hr), fun q hq => by
    rw [hr] at hq
    rcases List.mem_cons.1 hq with rfl | hq
    · exact hi
    · obtain rfl := List.mem_singleton.1 hq
      exact hj⟩
end
end Go.Proofs.Yteaamgjlkohfcaa

namespace Go.Proofs.Yteaamgjlkohfcaa
open Go.RowKit

theorem Src.none {w : World} {sp : Option Addr} {len : Nat} {z : Nat → Int} (h : Src w sp len z) : sp = none → len = 0 := fun e => by
  rcases Nat.eq_zero_or_pos len with h0 | h0
  · exact h0
  · obtain ⟨ad, he, _⟩ := h 0 h0
    rw [e] at he
    cases he

section
variable {P : Program} {o : Oper} {a : Act}
theorem negI (k : IntKind) (n r : Int) (t : TypeId) (x : Operand) (ho : o.op = .unOp .neg t x) (hx : a.eval x = .int k n) (hr : k.wrap (0 - n) = r) (w : World) : (execOp a.eval o).run P w = .ok (.value (.int k r)) w := by
  unfold execOp
  simp only [ho, hx, Op.unary, Op.intArith, Sem.run_bind, Sem.run_pure, Result.andThen_ok, hr]
end
end Go.Proofs.Yteaamgjlkohfcaa

namespace Go.Proofs.Yteaamgjlkohfcaa
open Go.RowKit

section
variable {P : Program} {o : Oper} {a : Act}
theorem shlI (k yk : IntKind) (n y r : Int) (t t' : TypeId) (x x' : Operand) (ho : o.op = .binOp .shl t x x' t') (hx : a.eval x = .int k n) (hy : a.eval x' = .int yk y) (h0 : 0 ≤ y) (hr : k.wrap (n * 2 ^ min y.toNat k.bits) = r) (w : World) : (execOp a.eval o).run P w = .ok (.value (.int k r)) w := by
  unfold execOp
  simp only [ho, hx, hy, Sem.run_bind, eqGuard_at_int, binOp_shl, shift_shl_any k yk n y h0, Sem.run_pure, Result.andThen_ok, hr]
theorem vandI (k : IntKind) (n n' r : Int) (t t' : TypeId) (x y : Operand) (ho : o.op = .binOp .and t x y t') (hx : a.eval x = .int k n) (hy : a.eval y = .int k n') (hr : bits .and k n n' = r) (w : World) : (execOp a.eval o).run P w = .ok (.value (.int k r)) w := by
  unfold execOp
  simp only [ho, hx, hy, Sem.run_bind, eqGuard_at_int, binOp_and, intBits_and, Sem.run_pure, Result.andThen_ok, hr]
theorem vorI (k : IntKind) (n n' r : Int) (t t' : TypeId) (x y : Operand) (ho : o.op = .binOp .or t x y t') (hx : a.eval x = .int k n) (hy : a.eval y = .int k n') (hr : bits .or k n n' = r) (w : World) : (execOp a.eval o).run P w = .ok (.value (.int k r)) w := by
  unfold execOp
  simp only [ho, hx, hy, Sem.run_bind, eqGuard_at_int, binOp_or, intBits_or, Sem.run_pure, Result.andThen_ok, hr]
theorem gtrI (k : IntKind) (n n' : Int) (t t' : TypeId) (x y : Operand) (ho : o.op = .binOp .gtr t x y t') (hx : a.eval x = .int k n) (hy : a.eval y = .int k n') (r : Bool) (hr : decide (n > n') = r) (w : World) : (execOp a.eval o).run P w = .ok (.value (.bool r)) w := by
  unfold execOp
  simp only [ho, hx, hy, Sem.run_bind, eqGuard_at_int, binOp_gtr, Sem.run_pure, Result.andThen_ok, hr]
theorem geqI (k : IntKind) (n n' : Int) (t t' : TypeId) (x y : Operand) (ho : o.op = .binOp .geq t x y t') (hx : a.eval x = .int k n) (hy : a.eval y = .int k n') (r : Bool) (hr : decide (n ≥ n') = r) (w : World) : (execOp a.eval o).run P w = .ok (.value (.bool r)) w := by
  unfold execOp
  simp only [ho, hx, hy, Sem.run_bind, eqGuard_at_int, binOp_geq, Sem.run_pure, Result.andThen_ok, hr]
end
theorem loadAny {P : Program} {o : Oper} {a : Act} {w : World} (ty : TypeId) (k : IntKind) (x : Operand) (p : Addr) (v : Value) (ho : o.op = .load ty x) (hx : a.eval x = .pointer (some p)) (hu : P.underlying ty = some (.int k)) (hc : w.cell? p = some v) : (execOp a.eval o).run P w = .ok (.value v) w := by
  have hagg : (isAgg ty).run P w = .ok false w := by
    unfold isAgg
    rw [Sem.run_bind, run_underlying hu w]
    rfl
  have e : (loadVar ty p).run P w = .ok v w := by simp [loadVar, Sem.run_bind, hagg, hc]
  unfold execOp
  simp only [ho, hx, Instr.loadAt, Instr.sureAddr, Sem.run_bind, Sem.run_pure, Result.andThen_ok, e]
theorem cut_loN {P : Program} {t : TypeId} (ht : P.underlying t = some (.slice (P.elem t))) (hsz : ∀ w, (sizeOf (P.elem t)).run P w = .ok 1 w) (sp : Option Addr) (len cap m : Nat) (hm : m ≤ len) (hc : len ≤ cap) (hn : sp = none → cap = 0) :
    ∃ sp', (∀ w, (Instr.sliceAt t (.slice sp len cap) (some (.int .i64 (m : Int))) none none).run P w = .ok (.slice sp' (len - m) (cap - m)) w) ∧ (∀ w z, Src w sp len z → Src w sp' (len - m) (fun j => z (m + j))) ∧ (sp' = none → cap - m = 0) := by
  refine ⟨if cap = m then sp else sp.map (·.add (m * 1)), fun w => ?_, fun w z h j hj => ?_, fun e => ?_⟩
  · rw [run_sliceAt_slice w t _ _ _ _ ht, run_slice_l w t sp len cap ht .i64 (m : Int) (by omega) (by omega), hsz]
    simp only [Result.andThen, sliced, Int.toNat_natCast]
  · obtain ⟨ad, rfl, hc'⟩ := h (m + j) (by omega)
    rw [if_neg (by omega)]
    exact ⟨ad.add (m * 1), rfl, by rw [Nat.mul_one, Addr.add_add]; exact hc'⟩
  · by_cases hm : cap = m
    · omega
    · rw [if_neg hm] at e
      cases sp with
      | none => have := hn rfl; omega
      | some ad => cases e
theorem cut_hiN {P : Program} {t : TypeId} (ht : P.underlying t = some (.slice (P.elem t))) (hsz : ∀ w, (sizeOf (P.elem t)).run P w = .ok 1 w) (sp : Option Addr) (len cap m : Nat) (hm : m ≤ len) (hc : len ≤ cap) (hn : sp = none → cap = 0) :
    ∃ sp', (∀ w, (Instr.sliceAt t (.slice sp len cap) none (some (.int .i64 (m : Int))) none).run P w = .ok (.slice sp' m cap) w) ∧ (∀ w z, Src w sp len z → Src w sp' m z) ∧ (sp' = none → cap = 0) := by
  refine ⟨if cap = 0 then sp else sp.map (·.add (0 * 1)), fun w => ?_, fun w z h j hj => ?_, fun e => ?_⟩
  · rw [run_sliceAt_slice w t _ _ _ _ ht, run_slice_h w t sp len cap ht .i64 (m : Int) (by omega) (by omega), hsz]
    simp only [Result.andThen, sliced, Int.toNat_natCast, Nat.sub_zero]
  · obtain ⟨ad, rfl, hc'⟩ := h j (by omega)
    rw [if_neg (by omega)]
    exact ⟨ad.add (0 * 1), rfl, by rw [Nat.zero_mul, Addr.add_add, Nat.zero_add]; exact hc'⟩
  · by_cases hm : cap = 0
    · exact hm
    · rw [if_neg hm] at e
      cases sp with
      | none => exact hn rfl
      | some ad => cases e
theorem shl_one (m : Nat) (h : m ≤ 3) : IntKind.i64.wrap (1 * 2 ^ min ((m : Nat) : Int).toNat IntKind.i64.bits) = ((2 ^ m : Nat) : Int) := by
  have : m = 0 ∨ m = 1 ∨ m = 2 ∨ m = 3 := by omega
  rcases this with rfl | rfl | rfl | rfl <;> decide
theorem shr_byte (n e : Nat) (he : e ≤ 7) : (n : Int) / 2 ^ min ((8 * e : Nat) : Int).toNat IntKind.i64.bits = ((n / 256 ^ e : Nat) : Int) := by
  have h1 : min ((8 * e : Nat) : Int).toNat IntKind.i64.bits = 8 * e := by
    show min ((8 * e : Nat) : Int).toNat 64 = 8 * e
    omega
  rw [h1, show (2 : Int) ^ (8 * e) = ((256 ^ e : Nat) : Int) by rw [show (256 : Nat) = 2 ^ 8 from rfl, ← Nat.pow_mul]; norm_cast]
  norm_cast
end Go.Proofs.Yteaamgjlkohfcaa

namespace Go.Proofs.Yteaamgjlkohfcaa
open Go.RowKit

section
variable {P : Program} {ops : Array Oper} {Q : Exit → Act → World → Prop} {md : Region.Mode} {S : World → Prop}
/-- An operation that is done if c. -/
theorem mayL {o : Oper} {rest : List Oper} {a : Act} {w : World} (c : Bool) (v x : Value) (hc : Region.wanted o (yielded ops a.tmps) = c) (hx : x = (bif c then v else undef)) (hv : c = true → (execOp a.eval o).run P w = .ok (.value v) w)
    (h : wpList P ops Q rest (a.put o.dst x) w) : wpList P ops Q (o :: rest) a w := by
  subst hx
  unfold wpList
  rw [hc]
  cases c with
  | true =>
    rw [if_pos rfl]
    refine .inl ?_
    unfold Oper.wp
    rw [hv rfl]
    exact h
  | false =>
    rw [if_neg (by decide)]
    exact h
/-- A call that is done if c. -/
theorem mayCallL {o : Oper} {rest : List Oper} {a : Act} {w : World} (c : Bool) (v x : Value) (f : FuncId) (args : Array Value) (hc : Region.wanted o (yielded ops a.tmps) = c) (hx : x = (bif c then v else undef))
    (he : c = true → ∀ w, (execOp a.eval o).run P w = .ok (.enter f args) w) (hC : c = true → Calls P f args w fun e w' => e = .returned v ∧ Below w.heap.size w w')
    (h : ∀ w', Below w.heap.size w w' → wpList P ops Q rest (a.put o.dst x) w') : wpList P ops Q (o :: rest) a w := by
  subst hx
  unfold wpList
  rw [hc]
  cases c with
  | true =>
    rw [if_pos rfl]
    refine .inl ?_
    unfold Oper.wp
    rw [he rfl w]
    refine (hC rfl).mono fun e w' hR => ?_
    obtain ⟨rfl, l⟩ := hR
    exact h w' l
  | false =>
    rw [if_neg (by decide)]
    exact h w (Below.refl _ _)
/-- What only one operation may do, a skip. -/
theorem storeAny {o : Oper} {a : Act} {w : World} (v : Value) (b j : Nat) (ty : TypeId) (x y : Operand) (ho : o.op = .store ty x y) (hx : a.eval x = .pointer (some ⟨b, j, none⟩)) (hy : a.eval y = v) (hv : v.cells = #[v]) (h1 : v.oneCell' = true)
    (hc : (w.cell? ⟨b, j, none⟩).isSome = true) (hf : w.frozen? ⟨b, j, none⟩ = false) (hz : (P.info? ty).map (·.size) = some 1) : (execOp a.eval o).run P w = .ok .skip (w.setCell ⟨b, j, none⟩ v) := by
  have h0 : ∀ k : Nat, k < [v].length → k = 0 := fun k hk => by simpa using hk
  have hst := run_storeCells_cells (P := P) b j [v] 0 w (fun k hk => by rw [h0 k hk]; simpa using hc) (fun k hk => by rw [h0 k hk]; simpa using hf) (fun u hu => by simp at hu; subst hu; exact h1)
  cases hq : P.info? ty with
  | none => simp [hq] at hz
  | some i =>
    have hs : i.size = 1 := by simp [hq] at hz; omega
    simp only [Nat.add_zero] at hst
    have e : (storeVar ty ⟨b, j, none⟩ v).run P w = .ok () (w.setCell ⟨b, j, none⟩ v) := by
      simp [storeVar, sizeOf, typeInfo, hq, hv, hs, hst, World.setCells]
    unfold execOp
    simp only [ho, hx, hy, Instr.storeAt, Instr.sureAddr, Sem.run_bind, Sem.run_pure, Result.andThen_ok, e]
theorem skipOpL {o : Oper} {rest : List Oper} {a : Act} {w w' : World} (hw : Region.wanted o (yielded ops a.tmps) = true) (he : (execOp a.eval o).run P w = .ok .skip w') (h : wpList P ops Q rest (a.put o.dst undef) w') : wpList P ops Q (o :: rest) a w := by
  unfold wpList
  rw [if_pos hw]
  refine .inl ?_
  unfold Oper.wp
  rw [he]
  exact h
/-- One cell is loaded, wherever it lies, whatever is in it; several. -/
theorem load1 {o : Oper} {a : Act} {w : World} (ty : TypeId) (x : Operand) (p : Addr) (v : Value) (ho : o.op = .load ty x) (hx : a.eval x = .pointer (some p)) (hagg : ∀ w, (isAgg ty).run P w = .ok false w) (hc : w.cell? p = some v) : (execOp a.eval o).run P w = .ok (.value v) w := by
  have e : (loadVar ty p).run P w = .ok v w := by simp [loadVar, Sem.run_bind, hagg, hc]
  unfold execOp
  simp only [ho, hx, Instr.loadAt, Instr.sureAddr, Sem.run_bind, Sem.run_pure, Result.andThen_ok, e]
theorem loadN {o : Oper} {a : Act} {w : World} (ty : TypeId) (x : Operand) (p : Addr) (cs : List Value) (ho : o.op = .load ty x) (hx : a.eval x = .pointer (some p)) (hagg : ∀ w, (isAgg ty).run P w = .ok true w) (hz : ∀ w, (sizeOf ty).run P w = .ok cs.length w)
    (hc : ∀ j v, cs[j]? = some v → w.cell? (p.add j) = some v) : (execOp a.eval o).run P w = .ok (.value (.agg cs.toArray)) w := by
  have e : (loadVar ty p).run P w = .ok (.agg cs.toArray) w := by simp [loadVar, Sem.run_bind, hagg, hz, run_loadCells_list w p cs hc]
  unfold execOp
  simp only [ho, hx, Instr.loadAt, Instr.sureAddr, Sem.run_bind, Sem.run_pure, Result.andThen_ok, e]
end

theorem Own.src {w : World} {base : Nat} {e : TypeId} {n : Nat} {f : Nat → Int} {sp : Option Addr} {c : Nat} (h : Own w base e .u8 n f (.slice sp n c)) : Src w sp n f := by
  obtain ⟨sp', c', e, _, hs⟩ := h.bytes
  injection e with e1 _ _
  subst e1
  exact hs
/-- Blocks of one's own, with what is in them; what stood in w0 stands. -/
structure Mm (w0 : World) (l : List (Nat × List Value)) (w : World) : Prop where
  rows : ∀ p ∈ l, (∀ j, j < p.2.length → w.cell? ⟨p.1, j, none⟩ = p.2[j]? ∧ w.frozen? ⟨p.1, j, none⟩ = false) ∧ w0.heap.size ≤ p.1 ∧ p.1 < w.heap.size
  apart : l.Pairwise fun p q => p.1 ≠ q.1
  below : Below w0.heap.size w0 w
section
variable {w0 w w' : World} {l : List (Nat × List Value)}
theorem Mm.init (w : World) : Mm w [] w := ⟨fun _ h => (by cases h), List.Pairwise.nil, Below.refl _ _⟩
theorem Mm.of (b : Below w0.heap.size w0 w) : Mm w0 [] w := ⟨fun _ h => (by cases h), List.Pairwise.nil, b⟩
theorem Mm.call (h : Mm w0 l w) (b : Below w.heap.size w w') : Mm w0 l w' :=
  ⟨fun p hp => ⟨fun j hj => by
    have hlt := (h.rows p hp).2.2
    rw [b.cell (p := ⟨p.1, j, none⟩) hlt, b.frozen (p := ⟨p.1, j, none⟩) hlt]
    exact (h.rows p hp).1 j hj, (h.rows p hp).2.1, Nat.lt_of_lt_of_le (h.rows p hp).2.2 b.size⟩, h.apart, h.below.trans (b.mono h.below.size)⟩
theorem Mm.drew (h : Mm w0 l w) : Mm w0 l w.drew := h.call (Below.refl _ _).drew
theorem Mm.sub (h : Mm w0 l w) (l' : List (Nat × List Value)) (hl : l'.Sublist l) : Mm w0 l' w := ⟨fun p hp => h.rows p (hl.subset hp), h.apart.sublist hl, h.below⟩
theorem Mm.tail {p : Nat × List Value} (h : Mm w0 (p :: l) w) : Mm w0 l w := h.sub l (List.sublist_cons_self p l)
theorem Mm.box (h : Mm w0 l w) (c : Array Value) (t : TypeId) (b : Nat) (hb : b = w.heap.size) : Mm w0 ((b, c.toList) :: l) (w.alloc (.cells c t)) := by
  subst hb
  have hc := h.call ((Below.refl w.heap.size w).alloc (Nat.le_refl _) (.cells c t))
  refine ⟨fun p hp => ?_, List.pairwise_cons.2 ⟨fun q hq e => ?_, h.apart⟩, hc.below⟩
  · rcases List.mem_cons.1 hp with rfl | hp
    · refine ⟨fun j hj => ⟨?_, World.frozen?_alloc_at _ _ _ _ rfl⟩, h.below.size, by simp⟩
      rw [World.cell?_alloc_at _ _ _ _ rfl]
      simp
    · exact hc.rows p hp
  · have := (h.rows q hq).2.2
    simp only at e
    omega
theorem Mm.get (h : Mm w0 l w) {b : Nat} {cs : List Value} (hp : (b, cs) ∈ l) (j : Nat) (v : Value) (hv : cs[j]? = some v) : w.cell? ⟨b, j, none⟩ = some v := by
  have hj : j < cs.length := by
    rcases Nat.lt_or_ge j cs.length with h' | h'
    · exact h'
    · rw [List.getElem?_eq_none h'] at hv; cases hv
  rw [((h.rows _ hp).1 j hj).1, hv]
theorem Mm.isSome (h : Mm w0 l w) {b : Nat} {cs : List Value} (hp : (b, cs) ∈ l) (j : Nat) (hj : j < cs.length) : (w.cell? ⟨b, j, none⟩).isSome = true := by
  rw [((h.rows _ hp).1 j hj).1, List.getElem?_eq_getElem hj]
  rfl
theorem Mm.free (h : Mm w0 l w) {b : Nat} {cs : List Value} (hp : (b, cs) ∈ l) (j : Nat) (hj : j < cs.length) : w.frozen? ⟨b, j, none⟩ = false := ((h.rows _ hp).1 j hj).2
theorem Mm.rangeAt (h : Mm w0 l w) {b : Nat} {cs : List Value} (hp : (b, cs) ∈ l) : ∀ j v, cs[j]? = some v → w.cell? ((⟨b, 0, none⟩ : Addr).add j) = some v := fun j v hv => by
  rw [Addr.add_mid, Nat.zero_add]
  exact h.get hp j v hv
theorem Mm.part (h : Mm w0 l w) {b : Nat} {cs : List Value} (hp : (b, cs) ∈ l) (o : Nat) (ds : List Value) (hd : (cs.drop o).take ds.length = ds) : ∀ j v, ds[j]? = some v → w.cell? ((⟨b, o, none⟩ : Addr).add j) = some v := fun j v hv => by
  rw [Addr.add_mid]
  refine h.get hp (o + j) v ?_
  have hj : j < ds.length := by
    rcases Nat.lt_or_ge j ds.length with h' | h'
    · exact h'
    · rw [List.getElem?_eq_none h'] at hv; cases hv
  rw [← hd, List.getElem?_take, if_pos hj, List.getElem?_drop] at hv
  exact hv
theorem size_setCell (w : World) (p : Addr) (v : Value) : (w.setCell p v).heap.size = w.heap.size := by simp
/-- One cell of the first block is stored. -/
theorem Mm.set {b : Nat} {cs : List Value} (h : Mm w0 ((b, cs) :: l) w) (j : Nat) (hj : j < cs.length) (v : Value) : Mm w0 ((b, cs.set j v) :: l) (w.setCell ⟨b, j, none⟩ v) := by
  have hb := h.rows _ List.mem_cons_self
  have hne := (List.pairwise_cons.1 h.apart).1
  refine ⟨fun p hp => ?_, List.pairwise_cons.2 ⟨hne, (List.pairwise_cons.1 h.apart).2⟩, below_setAll h.below b hb.2.1 j [v]⟩
  rcases List.mem_cons.1 hp with rfl | hp
  · refine ⟨fun i hi => ⟨?_, by rw [World.frozen?_setCell]; exact (hb.1 i (by simpa using hi)).2⟩, hb.2.1, by rw [size_setCell]; exact hb.2.2⟩
    simp only [List.length_set] at hi
    by_cases e : i = j
    · subst e
      rw [World.cell?_setCell_same' _ _ _ (h.isSome List.mem_cons_self i hj), List.getElem?_set_self hj]
    · have e2 := World.cell?_setCell_other (w := w) (v := v) (a := ⟨b, j, none⟩) (b := ⟨b, i, none⟩) (by intro e'; injection e' with _ e'; exact e e'.symm)
      simp only
      rw [e2, List.getElem?_set_ne (Ne.symm e)]
      exact (hb.1 i hi).1
  · have h2 := h.rows p (List.mem_cons_of_mem _ hp)
    refine ⟨fun i hi => ⟨?_, by rw [World.frozen?_setCell]; exact (h2.1 i hi).2⟩, h2.2.1, by rw [size_setCell]; exact h2.2.2⟩
    rw [World.cell?_setCell_far _ _ _ _ (hne p hp)]
    exact (h2.1 i hi).1
/-- The blocks in another order. -/
theorem Mm.swap {p q : Nat × List Value} (h : Mm w0 (p :: q :: l) w) : Mm w0 (q :: p :: l) w := by
  obtain ⟨h1, h2⟩ := List.pairwise_cons.1 h.apart
  obtain ⟨h3, h4⟩ := List.pairwise_cons.1 h2
  refine ⟨fun x hx => h.rows x ?_, List.pairwise_cons.2 ⟨fun x hx => ?_, List.pairwise_cons.2 ⟨fun x hx => h1 x (List.mem_cons_of_mem _ hx), h4⟩⟩, h.below⟩
  · rcases List.mem_cons.1 hx with rfl | hx
    · exact List.mem_cons_of_mem _ List.mem_cons_self
    · rcases List.mem_cons.1 hx with rfl | hx
      · exact List.mem_cons_self
      · exact List.mem_cons_of_mem _ (List.mem_cons_of_mem _ hx)
  · rcases List.mem_cons.1 hx with rfl | hx
    · exact (h1 q List.mem_cons_self).symm
    · exact h3 x hx
theorem Mm.grown (h : Mm w0 l w) {r : Option Nat} (g : w.grownBy w' r) (m : Nat) (hm : ∀ p ∈ l, p.1 < m) (h0 : w0.heap.size ≤ m) (hz : m ≤ w.heap.size) (hr : ∀ b, r = some b → m ≤ b) : Mm w0 l w' := by
  have hb : Below m w w' := ⟨g.os, g.tape, g.output, g.size, fun j hj => g.block j (Nat.lt_of_lt_of_le hj hz) (fun e => by have := hr j e.symm; omega)⟩
  exact ⟨fun p hp => ⟨fun j hj => by
    rw [hb.cell (p := ⟨p.1, j, none⟩) (hm p hp), hb.frozen (p := ⟨p.1, j, none⟩) (hm p hp)]
    exact (h.rows p hp).1 j hj, (h.rows p hp).2.1, Nat.lt_of_lt_of_le (h.rows p hp).2.2 g.size⟩, h.apart, h.below.trans (hb.mono h0)⟩
theorem Mm.lt (h : Mm w0 l w) {b : Nat} {cs : List Value} (hp : (b, cs) ∈ l) : b < w.heap.size := (h.rows _ hp).2.2
theorem Mm.lo (h : Mm w0 l w) {b : Nat} {cs : List Value} (hp : (b, cs) ∈ l) : w0.heap.size ≤ b := (h.rows _ hp).2.1
end
end Go.Proofs.Yteaamgjlkohfcaa

namespace Go.Proofs.Yteaamgjlkohfcaa
open Go.RowKit

/-- How many bytes a number has at least; what the two highest bits tell; its bytes. -/
def vsz (n : Nat) : Nat := if n < 64 then 1 else if n < 16384 then 2 else if n < 1073741824 then 4 else 8
def vkd (k : Nat) : Nat := if k = 1 then 0 else if k = 2 then 1 else if k = 4 then 2 else 3
def fby (n s j : Nat) : Int := ((n / 256 ^ (s - 1 - j) % 256 : Nat) : Int)
def vby (n j : Nat) : Int := fby n (vsz n) j + (if j = 0 then ((64 * vkd (vsz n) : Nat) : Int) else 0)
abbrev vbad (n : Int) : Prop := n < 0 ∨ 4611686018427387903 < n
def vL (len : Nat) (n : Int) : Nat := if vbad n then 0 else len + vsz n.toNat
def vE (n : Int) : Int := if vbad n then 1 else 0
def vput (len : Nat) (z : Nat → Int) (n : Int) : Nat → Int := app z len (vby n.toNat)
theorem vsz_cases (n : Nat) : (vsz n = 1 ∧ n < 64) ∨ (vsz n = 2 ∧ 64 ≤ n ∧ n < 16384) ∨ (vsz n = 4 ∧ 16384 ≤ n ∧ n < 1073741824) ∨ (vsz n = 8 ∧ 1073741824 ≤ n) := by
  unfold vsz
  by_cases h1 : n < 64
  · rw [if_pos h1]; exact .inl ⟨rfl, h1⟩
  · rw [if_neg h1]
    by_cases h2 : n < 16384
    · rw [if_pos h2]; exact .inr (.inl ⟨rfl, by omega, h2⟩)
    · rw [if_neg h2]
      by_cases h3 : n < 1073741824
      · rw [if_pos h3]; exact .inr (.inr (.inl ⟨rfl, by omega, h3⟩))
      · rw [if_neg h3]; exact .inr (.inr (.inr ⟨rfl, by omega⟩))
theorem vsz_le (n : Nat) : 1 ≤ vsz n ∧ vsz n ≤ 8 := by rcases vsz_cases n with h | h | h | h <;> omega
theorem vkd_pow (k : Nat) (h : k = 1 ∨ k = 2 ∨ k = 4 ∨ k = 8) : 2 ^ vkd k = k ∧ vkd k ≤ 3 := by rcases h with rfl | rfl | rfl | rfl <;> decide
theorem vsz_four (n : Nat) : vsz n = 1 ∨ vsz n = 2 ∨ vsz n = 4 ∨ vsz n = 8 := by rcases vsz_cases n with h | h | h | h <;> omega
/-- The highest byte has its two highest bits free. -/
theorem vtop (n : Nat) (h : n < 4611686018427387904) : n / 256 ^ (vsz n - 1) < 64 := by
  rcases vsz_cases n with ⟨e, h1⟩ | ⟨e, h1, h2⟩ | ⟨e, h1, h2⟩ | ⟨e, h1⟩ <;> rw [e]
  · show n / 1 < 64; omega
  · show n / 256 < 64; omega
  · show n / 16777216 < 64; omega
  · show n / 72057594037927936 < 64; omega
theorem fby_in (n s j : Nat) : 0 ≤ fby n s j ∧ fby n s j < 256 := by
  unfold fby
  have := Nat.mod_lt (n / 256 ^ (s - 1 - j)) (show 0 < 256 by decide)
  omega
theorem vby_in (n : Nat) (h : n < 4611686018427387904) (m : Nat) : In 256 m (vby n) := fun j _ => by
  have h1 := fby_in n (vsz n) j
  have hk := (vkd_pow _ (vsz_four n)).2
  unfold vby
  by_cases e : j = 0
  · subst e
    have ht := vtop n h
    have e1 : fby n (vsz n) 0 = ((n / 256 ^ (vsz n - 1) : Nat) : Int) := by
      unfold fby
      rw [Nat.sub_zero, Nat.mod_eq_of_lt (by omega)]
    rw [if_pos rfl, e1]
    omega
  · rw [if_neg e]
    omega
def tV (z : Nat → Int) : Nat → Int
  | 0 => z 0 % 64
  | i + 1 => tV z i * 256 + z (i + 1)
def tK (b : Int) : Nat := 2 ^ (b / 64).toNat
theorem tK_four (b : Int) (h : 0 ≤ b ∧ b < 256) : (tK b = 1 ∧ b / 64 = 0) ∨ (tK b = 2 ∧ b / 64 = 1) ∨ (tK b = 4 ∧ b / 64 = 2) ∨ (tK b = 8 ∧ b / 64 = 3) := by
  unfold tK
  have : b / 64 = 0 ∨ b / 64 = 1 ∨ b / 64 = 2 ∨ b / 64 = 3 := by omega
  rcases this with e | e | e | e <;> rw [e] <;> simp
theorem div_step (n e : Nat) : n / 256 ^ (e + 1) * 256 + n / 256 ^ e % 256 = n / 256 ^ e := by
  rw [Nat.pow_succ, ← Nat.div_div_eq_div_mul]
  omega
theorem vby_first (n : Nat) (h : n < 4611686018427387904) : vby n 0 = ((n / 256 ^ (vsz n - 1) + 64 * vkd (vsz n) : Nat) : Int) := by
  have ht := vtop n h
  unfold vby fby
  rw [if_pos rfl, Nat.sub_zero, Nat.mod_eq_of_lt (by omega)]
  omega
theorem tK_vby (n : Nat) (h : n < 4611686018427387904) : tK (vby n 0) = vsz n := by
  have ht := vtop n h
  have e : vby n 0 / 64 = ((vkd (vsz n) : Nat) : Int) := by
    rw [vby_first n h]
    generalize n / 256 ^ (vsz n - 1) = q at ht
    omega
  unfold tK
  rw [e, Int.toNat_natCast]
  exact (vkd_pow _ (vsz_four n)).1
theorem tV_vby (n : Nat) (h : n < 4611686018427387904) : ∀ i, i < vsz n → tV (vby n) i = ((n / 256 ^ (vsz n - 1 - i) : Nat) : Int)
  | 0, _ => by
    have ht := vtop n h
    show vby n 0 % 64 = _
    rw [vby_first n h, Nat.sub_zero]
    generalize n / 256 ^ (vsz n - 1) = q at ht
    omega
  | i + 1, hi => by
    show tV (vby n) i * 256 + vby n (i + 1) = _
    rw [tV_vby n h i (by omega)]
    unfold vby fby
    rw [if_neg (by omega)]
    have e1 : vsz n - 1 - i = (vsz n - 1 - (i + 1)) + 1 := by omega
    have := div_step n (vsz n - 1 - (i + 1))
    rw [e1]
    omega
theorem tV_back (n : Nat) (h : n < 4611686018427387904) : tV (vby n) (vsz n - 1) = (n : Int) := by
  have := (vsz_le n).1
  rw [tV_vby n h _ (by omega), Nat.sub_self, Nat.pow_zero, Nat.div_one]
theorem tV_nonneg (z : Nat → Int) (m : Nat) (hz : In 256 m z) : ∀ i, i < m → 0 ≤ tV z i ∧ tV z i < 64 * 256 ^ i
  | 0, _ => by
    show 0 ≤ z 0 % 64 ∧ z 0 % 64 < 64 * 1
    omega
  | i + 1, hi => by
    have h1 := tV_nonneg z m hz i (by omega)
    have h2 := hz (i + 1) hi
    show 0 ≤ tV z i * 256 + z (i + 1) ∧ tV z i * 256 + z (i + 1) < 64 * 256 ^ (i + 1)
    rw [Int.pow_succ]
    omega
/-- What was read, cut behind any byte. -/
theorem tV_cut (z : Nat → Int) (m : Nat) (hz : In 256 m z) (i : Nat) : ∀ d, i + d < m → (tV z (i + d)).toNat / 256 ^ d = (tV z i).toNat
  | 0, _ => by rw [Nat.pow_zero, Nat.div_one, Nat.add_zero]
  | d + 1, h => by
    have ih := tV_cut z m hz i d (by omega)
    have h1 := tV_nonneg z m hz (i + d) (by omega)
    have h2 := hz (i + d + 1) (by omega)
    rw [Nat.pow_succ, Nat.mul_comm, ← Nat.div_div_eq_div_mul, ← ih]
    congr 1
    show (tV z (i + d) * 256 + z (i + d + 1)).toNat / 256 = _
    omega
theorem vby_back (z : Nat → Int) (k : Nat) (hk : tK (z 0) = k) (hz : In 256 k z) (hv : vsz (tV z (k - 1)).toNat = k) : ∀ j, j < k → vby (tV z (k - 1)).toNat j = z j := fun j hj => by
  have h0 := hz 0 (by omega)
  have hc := tV_cut z k hz j (k - 1 - j) (by omega)
  rw [show j + (k - 1 - j) = k - 1 by omega] at hc
  unfold vby fby
  rw [hv, hc]
  by_cases e : j = 0
  · subst e
    rw [if_pos rfl]
    show (((z 0 % 64).toNat % 256 : Nat) : Int) + ((64 * vkd k : Nat) : Int) = z 0
    rcases tK_four (z 0) h0 with ⟨e1, e2⟩ | ⟨e1, e2⟩ | ⟨e1, e2⟩ | ⟨e1, e2⟩ <;> rw [← hk, e1]
    · show _ + ((64 * 0 : Nat) : Int) = z 0; omega
    · show _ + ((64 * 1 : Nat) : Int) = z 0; omega
    · show _ + ((64 * 2 : Nat) : Int) = z 0; omega
    · show _ + ((64 * 3 : Nat) : Int) = z 0; omega
  · obtain ⟨i, rfl⟩ : ∃ i, j = i + 1 := ⟨j - 1, by omega⟩
    have h1 := tV_nonneg z k hz i (by omega)
    have h2 := hz (i + 1) hj
    rw [if_neg e]
    show (((tV z i * 256 + z (i + 1)).toNat % 256 : Nat) : Int) + 0 = z (i + 1)
    omega
/-- What is taken: the error, the number, how many bytes are behind. -/
def tE (len : Nat) (z : Nat → Int) : Int := if len = 0 then 3 else if len < tK (z 0) then 3 else if vsz (tV z (tK (z 0) - 1)).toNat ≠ tK (z 0) then 90 else 0
def tN (len : Nat) (z : Nat → Int) : Int := if tE len z = 0 then tV z (tK (z 0) - 1) else 0
def tL (len : Nat) (z : Nat → Int) : Nat := if tE len z = 0 then len - tK (z 0) else 0
def tR (z : Nat → Int) : Nat → Int := fun j => z (tK (z 0) + j)
theorem tE_ok {len : Nat} {z : Nat → Int} (h : tE len z = 0) : 0 < len ∧ tK (z 0) ≤ len ∧ vsz (tV z (tK (z 0) - 1)).toNat = tK (z 0) := by
  unfold tE at h
  split at h
  · cases h
  · split at h
    · cases h
    · split at h
      · cases h
      · rename_i h1 h2 h3
        exact ⟨by omega, by omega, Classical.byContradiction h3⟩
/-- Texts. -/
def xE (len : Nat) (z : Nat → Int) (most : Int) : Int := if tE len z ≠ 0 then tE len z else if most < tN len z then 2 else if ((tL len z : Nat) : Int) < tN len z then 3 else 0
def xL (len : Nat) (z : Nat → Int) (most : Int) : Nat := if xE len z most = 0 then (tN len z).toNat else 0
def yL (len : Nat) (z : Nat → Int) (most : Int) : Nat := if xE len z most = 0 then tL len z - (tN len z).toNat else 0
def yR (len : Nat) (z : Nat → Int) : Nat → Int := fun j => tR z ((tN len z).toNat + j)
end Go.Proofs.Yteaamgjlkohfcaa

namespace Go.Proofs.Yteaamgjlkohfcaa
open Go.RowKit

theorem tV_congr {z y : Nat → Int} : ∀ i, (∀ j, j ≤ i → z j = y j) → tV z i = tV y i
  | 0, h => by
    show z 0 % 64 = y 0 % 64
    rw [h 0 (Nat.le_refl _)]
  | i + 1, h => by
    show tV z i * 256 + z (i + 1) = tV y i * 256 + y (i + 1)
    rw [tV_congr i fun j hj => h j (by omega), h (i + 1) (Nat.le_refl _)]
/-- A number that is put is taken, whatever stands behind. -/
theorem take_put (n : Nat) (h : n < 4611686018427387904) (len : Nat) (Z : Nat → Int) (hZ : ∀ j, j < vsz n → Z j = vby n j) : tK (Z 0) = vsz n ∧ tE (vsz n + len) Z = 0 ∧ tN (vsz n + len) Z = (n : Int) ∧ tL (vsz n + len) Z = len := by
  have h1 := vsz_le n
  have hk : tK (Z 0) = vsz n := by rw [hZ 0 (by omega)]; exact tK_vby n h
  have hv : tV Z (vsz n - 1) = (n : Int) := by
    rw [tV_congr (vsz n - 1) (fun j hj => hZ j (by omega))]
    exact tV_back n h
  have hE : tE (vsz n + len) Z = 0 := by
    unfold tE
    rw [if_neg (by omega), hk, if_neg (by omega), hv, Int.toNat_natCast, if_neg (fun h => h rfl)]
  refine ⟨hk, hE, ?_, ?_⟩
  · unfold tN
    rw [if_pos hE, hk, hv]
  · unfold tL
    rw [if_pos hE, hk]
    omega
/-- What is taken, and put, is the bytes that were taken. -/
theorem put_take (len : Nat) (z : Nat → Int) (hz : In 256 len z) (h : tE len z = 0) : 0 ≤ tN len z ∧ tN len z < 4611686018427387904 ∧ vsz (tN len z).toNat = tK (z 0) ∧ tL len z = len - tK (z 0) ∧ tK (z 0) ≤ len ∧ ∀ j, j < tK (z 0) → vby (tN len z).toNat j = z j := by
  obtain ⟨q1, q2, q3⟩ := tE_ok h
  have hk := tK_four (z 0) (hz 0 q1)
  have hN : tN len z = tV z (tK (z 0) - 1) := by unfold tN; rw [if_pos h]
  have hL : tL len z = len - tK (z 0) := by unfold tL; rw [if_pos h]
  have hb := tV_nonneg z len hz (tK (z 0) - 1) (by omega)
  have h7 : (256 : Nat) ^ (tK (z 0) - 1) ≤ 256 ^ 7 := Nat.pow_le_pow_right (by decide) (by omega)
  have e7 : (256 : Nat) ^ 7 = 72057594037927936 := by decide
  have e8 : ((256 ^ (tK (z 0) - 1) : Nat) : Int) = (256 : Int) ^ (tK (z 0) - 1) := Int.natCast_pow 256 _
  refine ⟨by rw [hN]; exact hb.1, by rw [hN]; omega, by rw [hN]; exact q3, hL, q2, fun j hj => ?_⟩
  rw [hN]
  exact vby_back z (tK (z 0)) rfl (fun i hi => hz i (by omega)) q3 j hj
end Go.Proofs.Yteaamgjlkohfcaa

namespace Go.Proofs.Yteaamgjlkohfcaa
open Go.RowKit

/-- The least bytes of a number, as a list. -/
def vlst (n : Nat) : List Int := (List.range (vsz n)).map (vby n)
theorem vlst_length (n : Nat) : (vlst n).length = vsz n := by unfold vlst; rw [List.length_map, List.length_range]
theorem bl_app (a b : List Int) (j : Nat) : bl (a ++ b) j = if j < a.length then bl a j else bl b (j - a.length) := by
  unfold bl
  simp only [List.getD_eq_getElem?_getD, List.getElem?_append]
  split <;> rfl
theorem bl_vlst (n j : Nat) (h : j < vsz n) : bl (vlst n) j = vby n j := by
  unfold bl vlst
  simp [List.getD_eq_getElem?_getD, h]
theorem bl_vlst_app (n : Nat) (b : List Int) (j : Nat) (h : j < vsz n) : bl (vlst n ++ b) j = vby n j := by
  rw [bl_app, if_pos (by rw [vlst_length]; exact h), bl_vlst n j h]
def Byts (b : List Int) : Prop := ∀ x ∈ b, 0 ≤ x ∧ x < 256
theorem Byts.bl {b : List Int} (h : Byts b) : In 256 b.length (bl b) := fun j hj => by
  unfold Go.Proofs.Yteaamgjlkohfcaa.bl
  rw [List.getD_eq_getElem?_getD, List.getElem?_eq_getElem hj]
  exact h _ (List.getElem_mem hj)
theorem Byts.drop {b : List Int} (h : Byts b) (n : Nat) : Byts (b.drop n) := fun x hx => h x (List.mem_of_mem_drop hx)
theorem Byts.take {b : List Int} (h : Byts b) (n : Nat) : Byts (b.take n) := fun x hx => h x (List.mem_of_mem_take hx)
theorem Byts.app {a b : List Int} (ha : Byts a) (hb : Byts b) : Byts (a ++ b) := fun x hx => by
  rcases List.mem_append.1 hx with h | h
  · exact ha x h
  · exact hb x h
theorem Byts.tail {x : Int} {b : List Int} (h : Byts (x :: b)) : Byts b := fun y hy => h y (List.mem_cons_of_mem _ hy)
theorem vlst_byts (n : Nat) (h : n < 4611686018427387904) : Byts (vlst n) := fun x hx => by
  unfold vlst at hx
  obtain ⟨j, hj, rfl⟩ := List.mem_map.1 hx
  exact vby_in n h _ j (List.mem_range.1 hj)
theorem bl_ext {a b : List Int} (hl : a.length = b.length) (h : ∀ j, j < a.length → bl a j = bl b j) : a = b := by
  apply List.ext_getElem hl
  intro j h1 h2
  have := h j h1
  unfold bl at this
  rw [List.getD_eq_getElem?_getD, List.getD_eq_getElem?_getD, List.getElem?_eq_getElem h1, List.getElem?_eq_getElem h2] at this
  exact this
theorem bl_drop (b : List Int) (n j : Nat) : bl (b.drop n) j = bl b (n + j) := by
  unfold bl
  simp [List.getD_eq_getElem?_getD, List.getElem?_drop]
theorem bl_take (b : List Int) (n j : Nat) (h : j < n) : bl (b.take n) j = bl b j := by
  unfold bl
  simp [h]

/-- A number is read. -/
def nm (b : List Int) : Except Int (Int × List Int) := if tE b.length (bl b) = 0 then .ok (tN b.length (bl b), b.drop (tK (bl b 0))) else .error (tE b.length (bl b))
theorem nm_put (n : Nat) (h : n < 4611686018427387904) (r : List Int) : nm (vlst n ++ r) = .ok ((n : Int), r) := by
  obtain ⟨h1, h2, h3, _⟩ := take_put n h r.length (bl (vlst n ++ r)) (fun j hj => bl_vlst_app n r j hj)
  unfold nm
  rw [List.length_append, vlst_length, h2, if_pos rfl, h3, h1, List.drop_append_of_le_length (by rw [vlst_length]; exact Nat.le_refl _), ← vlst_length n, List.drop_length, List.nil_append]
theorem nm_back {b r : List Int} {n : Int} (hb : Byts b) (h : nm b = .ok (n, r)) : 0 ≤ n ∧ n < 4611686018427387904 ∧ b = vlst n.toNat ++ r := by
  unfold nm at h
  split at h
  · rename_i hE
    injection h with h
    injection h with h1 h2
    obtain ⟨q1, q2, q3, q4, q5, q6⟩ := put_take b.length (bl b) hb.bl hE
    rw [h1] at q1 q2 q3 q6
    refine ⟨q1, q2, ?_⟩
    rw [← h2]
    refine bl_ext ?_ fun j hj => ?_
    · rw [List.length_append, vlst_length, List.length_drop, q3]; omega
    · rw [bl_app, vlst_length, q3]
      split
      · rename_i hj'
        rw [bl_vlst _ _ (by rw [q3]; exact hj'), q6 j hj']
      · rw [bl_drop]
        congr 1
        omega
  · cases h
theorem nm_cut (n : Nat) (h : n < 4611686018427387904) (r : List Int) (k : Nat) : nm ((vlst n ++ r).take k) = if k < vsz n then .error 3 else .ok ((n : Int), r.take (k - vsz n)) := by
  split
  · rename_i hk
    have hv := vsz_le n
    have hl : ((vlst n ++ r).take k).length = k := by rw [List.length_take, List.length_append, vlst_length]; omega
    have hE : tE k (bl ((vlst n ++ r).take k)) = 3 := by
      unfold tE
      by_cases h0 : k = 0
      · rw [if_pos h0]
      · rw [if_neg h0, bl_take _ _ _ (by omega), bl_vlst_app n r 0 (by omega), tK_vby n h, if_pos hk]
    unfold nm
    rw [hl, hE, if_neg (by decide)]
  · rename_i hk
    rw [List.take_append, vlst_length, List.take_of_length_le (by rw [vlst_length]; omega), nm_put n h]

/-- Ranges, texts. -/
def MX : Int := 4611686018427387903
def rd : Nat → Int → List Int → Except Int (List (Int × Int) × List Int)
  | 0, _, b => .ok ([], b)
  | n + 1, last, b => match nm b with
    | .error e => .error e
    | .ok (g, b1) => match nm b1 with
      | .error e => .error e
      | .ok (l, b2) => if MX - last < g ∨ MX - last - g < l then .error 100 else match rd n (last + g + l) b2 with
        | .error e => .error e
        | .ok (rs, b3) => .ok ((last + g, last + g + l) :: rs, b3)
def tx (b : List Int) : Except Int (List Int × List Int) := match nm b with
  | .error e => .error e
  | .ok (n, r) => if 128 < n then .error 2 else if (r.length : Int) < n then .error 3 else .ok (r.take n.toNat, r.drop n.toNat)
def ren : List (Int × Int) → Int → List Int
  | [], _ => []
  | p :: l, last => vlst (p.1 - last).toNat ++ (vlst (p.2 - p.1).toNat ++ ren l p.2)
def rok : List (Int × Int) → Int → Bool → Int → Bool
  | [], _, _, _ => true
  | p :: l, fr, ab, upb => !(decide (p.1 < fr) || (ab && p.1 == fr) || decide (p.2 ≤ p.1) || decide (upb < p.2)) && rok l p.2 true upb
theorem rok_cons {p : Int × Int} {l : List (Int × Int)} {fr upb : Int} {ab : Bool} (h : rok (p :: l) fr ab upb = true) : fr ≤ p.1 ∧ p.1 < p.2 ∧ p.2 ≤ upb ∧ rok l p.2 true upb = true := by
  simp only [rok, Bool.and_eq_true, Bool.not_eq_true', Bool.or_eq_false_iff, decide_eq_false_iff_not] at h
  obtain ⟨⟨⟨⟨h1, _⟩, h2⟩, h3⟩, h4⟩ := h
  exact ⟨by omega, by omega, by omega, h4⟩
theorem rd_cut : ∀ (l : List (Int × Int)) (last : Int) (ab : Bool) (upb : Int) (k : Nat), 0 ≤ last → upb ≤ MX → rok l last ab upb = true → k < (ren l last).length → rd l.length last ((ren l last).take k) = .error 3
  | [], _, _, _, k, _, _, _, hk => by exact absurd hk (Nat.not_lt_zero _)
  | p :: l, last, ab, upb, k, h0, ht, h, hk => by
    obtain ⟨h1, h2, h3, h4⟩ := rok_cons h
    unfold MX at ht
    have e1 : (((p.1 - last).toNat : Nat) : Int) = p.1 - last := by omega
    have e2 : (((p.2 - p.1).toNat : Nat) : Int) = p.2 - p.1 := by omega
    unfold ren at hk
    rw [List.length_append, List.length_append, vlst_length, vlst_length] at hk
    show rd (l.length + 1) last ((vlst (p.1 - last).toNat ++ (vlst (p.2 - p.1).toNat ++ ren l p.2)).take k) = _
    unfold rd
    rw [nm_cut _ (by omega)]
    by_cases c1 : k < vsz (p.1 - last).toNat
    · rw [if_pos c1]
    · rw [if_neg c1]
      simp only
      rw [nm_cut _ (by omega)]
      by_cases c2 : k - vsz (p.1 - last).toNat < vsz (p.2 - p.1).toNat
      · rw [if_pos c2]
      · rw [if_neg c2]
        simp only [e1, e2]
        rw [if_neg (by unfold MX; omega), show last + (p.1 - last) + (p.2 - p.1) = p.2 by omega, rd_cut l p.2 true upb _ (by omega) ht h4 (by omega)]
theorem tx_cut (t : List Int) (h1 : t.length ≤ 128) (k : Nat) (hk : k < vsz t.length + t.length) : tx ((vlst t.length ++ t).take k) = .error 3 := by
  unfold tx
  rw [nm_cut _ (by omega)]
  by_cases c1 : k < vsz t.length
  · rw [if_pos c1]
  · rw [if_neg c1]
    simp only
    rw [if_neg (by omega), if_pos (by rw [List.length_take]; omega)]

/-- A frame. -/
structure Frm where
  kind : Int
  pos : Int
  lim : Int
  rg : List (Int × Int)
  byt : List Int
  tok : List Int
def z8 : List Int := [0, 0, 0, 0, 0, 0, 0, 0]
def nmb (n : Int) : Bool := decide (0 ≤ n) && decide (n ≤ MX)
def rise (l : List (Int × Int)) (fr : Int) (ab : Bool) (upb : Int) : Bool := rok l fr ab upb && decide (l.length ≤ 8)
def fkd (f : Frm) : Bool :=
  if f.kind = 1 then decide (1 ≤ f.byt.length) && decide (f.byt.length ≤ 128)
  else if f.kind = 2 then nmb f.pos && nmb f.lim && rise f.rg f.pos true MX
  else if f.kind = 3 ∨ f.kind = 4 then f.pos == 0
  else if f.kind = 5 then decide (f.pos ≤ 65535)
  else if f.kind = 6 then true
  else if f.kind = 7 then nmb f.pos && decide (0 ≤ f.lim) && decide (f.lim ≤ 65535) && rise f.rg 0 false f.pos
  else false
def foth (f : Frm) : Bool :=
  (decide (f.kind ≠ 1) && decide (0 < f.byt.length)) || (decide (f.kind ≠ 2 ∧ f.kind ≠ 7) && decide (f.lim ≠ 0)) || (decide (f.kind ≠ 2 ∧ f.kind ≠ 7) && decide (0 < f.rg.length)) || (decide (f.kind ≠ 3 ∧ f.kind ≠ 4) && decide (f.tok ≠ z8))
def fok (f : Frm) : Bool := fkd f && !foth f && nmb f.pos
structure FrW (f : Frm) : Prop where
  byt : Byts f.byt
  tok : Byts f.tok
  eight : f.tok.length = 8
theorem nmb_iff {n : Int} : nmb n = true ↔ 0 ≤ n ∧ n < 4611686018427387904 := by
  unfold nmb MX
  simp
  omega
/-- What a frame that may be is, kind by kind. -/
def Ok (f : Frm) : Prop :=
  (∃ (a : Int) (t : List Int), f = ⟨1, a, 0, [], t, z8⟩ ∧ (0 ≤ a ∧ a < 4611686018427387904) ∧ 1 ≤ t.length ∧ t.length ≤ 128)
  ∨ (∃ (a l : Int) (rs : List (Int × Int)), f = ⟨2, a, l, rs, [], z8⟩ ∧ (0 ≤ a ∧ a < 4611686018427387904) ∧ (0 ≤ l ∧ l < 4611686018427387904) ∧ rok rs a true MX = true ∧ rs.length ≤ 8)
  ∨ (∃ (k : Int) (t : List Int), f = ⟨k, 0, 0, [], [], t⟩ ∧ (k = 3 ∨ k = 4))
  ∨ (∃ a : Int, f = ⟨5, a, 0, [], [], z8⟩ ∧ 0 ≤ a ∧ a ≤ 65535)
  ∨ (∃ a : Int, f = ⟨6, a, 0, [], [], z8⟩ ∧ 0 ≤ a ∧ a < 4611686018427387904)
  ∨ (∃ (a l : Int) (rs : List (Int × Int)), f = ⟨7, a, l, rs, [], z8⟩ ∧ (0 ≤ a ∧ a < 4611686018427387904) ∧ (0 ≤ l ∧ l ≤ 65535) ∧ rok rs 0 false a = true ∧ rs.length ≤ 8)
theorem Ok.data (a : Int) (t : List Int) (h : 0 ≤ a ∧ a < 4611686018427387904) (h1 : 1 ≤ t.length) (h2 : t.length ≤ 128) : Ok ⟨1, a, 0, [], t, z8⟩ := .inl ⟨a, t, rfl, h, h1, h2⟩
theorem Ok.ack (a l : Int) (rs : List (Int × Int)) (h : 0 ≤ a ∧ a < 4611686018427387904) (hl : 0 ≤ l ∧ l < 4611686018427387904) (hr : rok rs a true MX = true) (h8 : rs.length ≤ 8) : Ok ⟨2, a, l, rs, [], z8⟩ := .inr (.inl ⟨a, l, rs, rfl, h, hl, hr, h8⟩)
theorem Ok.tok (k : Int) (t : List Int) (hk : k = 3 ∨ k = 4) : Ok ⟨k, 0, 0, [], [], t⟩ := .inr (.inr (.inl ⟨k, t, rfl, hk⟩))
theorem Ok.upd (a : Int) (h : 0 ≤ a ∧ a ≤ 65535) : Ok ⟨5, a, 0, [], [], z8⟩ := .inr (.inr (.inr (.inl ⟨a, rfl, h⟩)))
theorem Ok.close (a : Int) (h : 0 ≤ a ∧ a < 4611686018427387904) : Ok ⟨6, a, 0, [], [], z8⟩ := .inr (.inr (.inr (.inr (.inl ⟨a, rfl, h⟩))))
theorem Ok.got (a l : Int) (rs : List (Int × Int)) (h : 0 ≤ a ∧ a < 4611686018427387904) (hl : 0 ≤ l ∧ l ≤ 65535) (hr : rok rs 0 false a = true) (h8 : rs.length ≤ 8) : Ok ⟨7, a, l, rs, [], z8⟩ := .inr (.inr (.inr (.inr (.inr ⟨a, l, rs, rfl, h, hl, hr, h8⟩))))
theorem Ok.elim {motive : (f : Frm) → Ok f → Prop} (data : ∀ (a : Int) (t : List Int) (h : 0 ≤ a ∧ a < 4611686018427387904) (h1 : 1 ≤ t.length) (h2 : t.length ≤ 128), motive ⟨1, a, 0, [], t, z8⟩ (Ok.data a t h h1 h2))
    (ack : ∀ (a l : Int) (rs : List (Int × Int)) (h : 0 ≤ a ∧ a < 4611686018427387904) (hl : 0 ≤ l ∧ l < 4611686018427387904) (hr : rok rs a true MX = true) (h8 : rs.length ≤ 8), motive ⟨2, a, l, rs, [], z8⟩ (Ok.ack a l rs h hl hr h8))
    (tok : ∀ (k : Int) (t : List Int) (hk : k = 3 ∨ k = 4), motive ⟨k, 0, 0, [], [], t⟩ (Ok.tok k t hk)) (upd : ∀ (a : Int) (h : 0 ≤ a ∧ a ≤ 65535), motive ⟨5, a, 0, [], [], z8⟩ (Ok.upd a h)) (close : ∀ (a : Int) (h : 0 ≤ a ∧ a < 4611686018427387904), motive ⟨6, a, 0, [], [], z8⟩ (Ok.close a h))
    (got : ∀ (a l : Int) (rs : List (Int × Int)) (h : 0 ≤ a ∧ a < 4611686018427387904) (hl : 0 ≤ l ∧ l ≤ 65535) (hr : rok rs 0 false a = true) (h8 : rs.length ≤ 8), motive ⟨7, a, l, rs, [], z8⟩ (Ok.got a l rs h hl hr h8)) {f : Frm} (h : Ok f) : motive f h := by
  rcases id h with ⟨a, t, rfl, h0, h1, h2⟩ | ⟨a, l, rs, rfl, h0, hl, hr, h8⟩ | ⟨k, t, rfl, hk⟩ | ⟨a, rfl, h0⟩ | ⟨a, rfl, h0⟩ | ⟨a, l, rs, rfl, h0, hl, hr, h8⟩
  · exact data a t h0 h1 h2
  · exact ack a l rs h0 hl hr h8
  · exact tok k t hk
  · exact upd a h0
  · exact close a h0
  · exact got a l rs h0 hl hr h8
theorem len_zero {α : Type} {l : List α} (h : ¬ 0 < l.length) : l = [] := List.eq_nil_of_length_eq_zero (by omega)
theorem not_two {k a b : Int} (h : ¬ k = a → k = b) : k = a ∨ k = b := by
  by_cases e : k = a
  · exact .inl e
  · exact .inr (h e)
theorem fok_iff (f : Frm) : fok f = true ↔ Ok f := by
  constructor
  · intro h
    obtain ⟨k, a, l, rs, t, tk⟩ := f
    unfold fok at h
    rw [Bool.and_eq_true, Bool.and_eq_true, nmb_iff] at h
    obtain ⟨⟨h1, h2⟩, h3⟩ := h
    unfold fkd at h1
    unfold foth at h2
    simp only [Bool.not_eq_true', Bool.or_eq_false_iff, Bool.and_eq_false_iff, decide_eq_false_iff_not, ne_eq, not_and, Decidable.not_not] at h1 h2 h3
    obtain ⟨⟨⟨o1, o2⟩, o3⟩, o4⟩ := h2
    by_cases k1 : k = 1
    · subst k1
      simp only [if_true, Bool.and_eq_true, decide_eq_true_eq] at h1
      obtain rfl : l = 0 := o2.resolve_left (fun o => by have := not_two o; omega)
      obtain rfl : rs = [] := len_zero (o3.resolve_left (fun o => by have := not_two o; omega))
      obtain rfl : tk = z8 := o4.resolve_left (fun o => by have := not_two o; omega)
      exact .data a t h3 h1.1 h1.2
    · rw [if_neg k1] at h1
      obtain rfl : t = [] := len_zero (o1.resolve_left k1)
      by_cases k2 : k = 2
      · subst k2
        simp only [if_true, Bool.and_eq_true, nmb_iff, rise, decide_eq_true_eq] at h1
        obtain rfl : tk = z8 := o4.resolve_left (fun o => by have := not_two o; omega)
        exact .ack a l rs h3 h1.1.2 h1.2.1 h1.2.2
      · rw [if_neg k2] at h1
        by_cases k3 : k = 3 ∨ k = 4
        · rw [if_pos k3] at h1
          obtain rfl : a = 0 := by simpa using h1
          obtain rfl : l = 0 := o2.resolve_left (fun o => by have := not_two o; omega)
          obtain rfl : rs = [] := len_zero (o3.resolve_left (fun o => by have := not_two o; omega))
          exact .tok k tk k3
        · rw [if_neg k3] at h1
          obtain rfl : tk = z8 := o4.resolve_left (fun o => by have := not_two o; omega)
          by_cases k7 : k = 7
          · subst k7
            simp only [show ¬ ((7 : Int) = 5) by decide, show ¬ ((7 : Int) = 6) by decide, if_false, if_true, Bool.and_eq_true, nmb_iff, rise, decide_eq_true_eq] at h1
            exact .got a l rs h3 ⟨h1.1.1.2, h1.1.2⟩ h1.2.1 h1.2.2
          · obtain rfl : l = 0 := o2.resolve_left (fun o => by have := not_two o; omega)
            obtain rfl : rs = [] := len_zero (o3.resolve_left (fun o => by have := not_two o; omega))
            by_cases k5 : k = 5
            · subst k5
              simp only [if_true, decide_eq_true_eq] at h1
              exact .upd a ⟨h3.1, h1⟩
            · rw [if_neg k5] at h1
              by_cases k6 : k = 6
              · subst k6
                exact .close a h3
              · rw [if_neg k6, if_neg k7] at h1
                cases h1
  · intro h
    cases h using Ok.elim with
    | data a t h h1 h2 => simp [fok, fkd, foth, nmb_iff, h, h1, h2]
    | ack a l rs h hl hr h8 => simp [fok, fkd, foth, nmb_iff, h, hl, hr, h8, rise]
    | tok k t hk => rcases hk with rfl | rfl <;> simp [fok, fkd, foth, nmb_iff]
    | upd a h => simp [fok, fkd, foth, nmb_iff, h]; omega
    | close a h => simp [fok, fkd, foth, nmb_iff, h]
    | got a l rs h hl hr h8 => simp [fok, fkd, foth, nmb_iff, h, hl, hr, h8, rise]

/-- Its bytes, behind the kind's one. -/
def fbo (f : Frm) : List Int :=
  if f.kind = 3 ∨ f.kind = 4 then f.tok
  else vlst f.pos.toNat ++ (if f.kind = 1 then vlst f.byt.length ++ f.byt else if f.kind = 2 ∨ f.kind = 7 then vlst f.lim.toNat ++ (vlst f.rg.length ++ ren f.rg (if f.kind = 2 then f.pos else 0)) else [])
def fen (f : Frm) : List Int := f.kind :: fbo f
/-- How a frame is read. -/
def fp (k : Int) (b : List Int) : Except Int (Frm × List Int) :=
  if k = 3 ∨ k = 4 then (if b.length < 8 then .error 3 else .ok (⟨k, 0, 0, [], [], b.take 8⟩, b.drop 8))
  else match nm b with
    | .error e => .error e
    | .ok (a, b1) =>
      if k = 1 then (match tx b1 with
        | .error e => .error e
        | .ok (t, b2) => .ok (⟨k, a, 0, [], t, z8⟩, b2))
      else if k = 2 ∨ k = 7 then (match nm b1 with
        | .error e => .error e
        | .ok (l, b2) => match nm b2 with
          | .error e => .error e
          | .ok (n, b3) => if 8 < n then .error 100 else match rd n.toNat (if k = 2 then a else 0) b3 with
            | .error e => .error e
            | .ok (rs, b4) => .ok (⟨k, a, l, rs, [], z8⟩, b4))
      else .ok (⟨k, a, 0, [], [], z8⟩, b1)
theorem fp_cut (f : Frm) (h : Ok f) (hw : f.tok.length = 8) (j : Nat) (hj : j < (fbo f).length) : fp f.kind ((fbo f).take j) = .error 3 := by
  cases h using Ok.elim with
  | data a t h h1 h2 =>
    obtain ⟨n, rfl⟩ := Int.eq_ofNat_of_zero_le h.1
    have e : fbo ⟨1, (n : Int), 0, [], t, z8⟩ = vlst n ++ (vlst t.length ++ t) := rfl
    rw [e] at hj ⊢
    rw [List.length_append, List.length_append, vlst_length, vlst_length] at hj
    show (match nm ((vlst n ++ (vlst t.length ++ t)).take j) with | .error e => _ | .ok (a, b1) => _) = _
    rw [nm_cut n (by omega)]
    by_cases c1 : j < vsz n
    · rw [if_pos c1]
    · rw [if_neg c1]
      simp only [if_true]
      rw [tx_cut t h2 _ (by omega)]
  | ack a l rs h hl hr h8 =>
    obtain ⟨n, rfl⟩ := Int.eq_ofNat_of_zero_le h.1
    obtain ⟨m, rfl⟩ := Int.eq_ofNat_of_zero_le hl.1
    have e : fbo ⟨2, (n : Int), (m : Int), rs, [], z8⟩ = vlst n ++ (vlst m ++ (vlst rs.length ++ ren rs (n : Int))) := rfl
    rw [e] at hj ⊢
    rw [List.length_append, List.length_append, List.length_append, vlst_length, vlst_length, vlst_length] at hj
    show (match nm ((vlst n ++ (vlst m ++ (vlst rs.length ++ ren rs (n : Int)))).take j) with | .error e => _ | .ok (a, b1) => _) = _
    rw [nm_cut n (by omega)]
    by_cases c1 : j < vsz n
    · rw [if_pos c1]
    · rw [if_neg c1]
      simp only [show ¬ ((2 : Int) = 1) by decide, if_false, true_or, if_true]
      rw [nm_cut m (by omega)]
      by_cases c2 : j - vsz n < vsz m
      · rw [if_pos c2]
      · rw [if_neg c2]
        simp only
        rw [nm_cut rs.length (by omega)]
        by_cases c3 : j - vsz n - vsz m < vsz rs.length
        · rw [if_pos c3]
        · rw [if_neg c3]
          simp only
          rw [if_neg (by omega), Int.toNat_natCast, rd_cut rs (n : Int) true MX _ (by omega) (Int.le_refl _) hr (by omega)]
  | tok k t hk =>
    unfold fp
    have e : fbo ⟨k, 0, 0, [], [], t⟩ = t := by unfold fbo; rw [if_pos hk]
    rw [e] at hj ⊢
    simp only at hw ⊢
    rw [if_pos hk, if_pos (by rw [List.length_take]; omega)]
  | upd a h =>
    obtain ⟨n, rfl⟩ := Int.eq_ofNat_of_zero_le h.1
    have e : fbo ⟨5, (n : Int), 0, [], [], z8⟩ = vlst n ++ [] := rfl
    rw [e] at hj ⊢
    rw [List.append_nil, vlst_length] at hj
    show (match nm ((vlst n ++ []).take j) with | .error e => _ | .ok (a, b1) => _) = _
    rw [nm_cut n (by omega), if_pos hj]
  | close a h =>
    obtain ⟨n, rfl⟩ := Int.eq_ofNat_of_zero_le h.1
    have e : fbo ⟨6, (n : Int), 0, [], [], z8⟩ = vlst n ++ [] := rfl
    rw [e] at hj ⊢
    rw [List.append_nil, vlst_length] at hj
    show (match nm ((vlst n ++ []).take j) with | .error e => _ | .ok (a, b1) => _) = _
    rw [nm_cut n (by omega), if_pos hj]
  | got a l rs h hl hr h8 =>
    obtain ⟨n, rfl⟩ := Int.eq_ofNat_of_zero_le h.1
    obtain ⟨m, rfl⟩ := Int.eq_ofNat_of_zero_le hl.1
    have e : fbo ⟨7, (n : Int), (m : Int), rs, [], z8⟩ = vlst n ++ (vlst m ++ (vlst rs.length ++ ren rs 0)) := rfl
    rw [e] at hj ⊢
    rw [List.length_append, List.length_append, List.length_append, vlst_length, vlst_length, vlst_length] at hj
    show (match nm ((vlst n ++ (vlst m ++ (vlst rs.length ++ ren rs 0))).take j) with | .error e => _ | .ok (a, b1) => _) = _
    rw [nm_cut n (by omega)]
    by_cases c1 : j < vsz n
    · rw [if_pos c1]
    · rw [if_neg c1]
      simp only [show ¬ ((7 : Int) = 1) by decide, show ¬ ((7 : Int) = 2) by decide, if_false, or_true, if_true]
      rw [nm_cut m (by omega)]
      by_cases c2 : j - vsz n < vsz m
      · rw [if_pos c2]
      · rw [if_neg c2]
        simp only
        rw [nm_cut rs.length (by omega)]
        by_cases c3 : j - vsz n - vsz m < vsz rs.length
        · rw [if_pos c3]
        · rw [if_neg c3]
          simp only
          rw [if_neg (by omega), Int.toNat_natCast, rd_cut rs 0 false (n : Int) _ (by omega) (by unfold MX; omega) hr (by omega)]
theorem Ok.kind {f : Frm} (h : Ok f) : 1 ≤ f.kind ∧ f.kind ≤ 7 := by
  cases h using Ok.elim with
  | tok k t hk => simp only; omega
  | _ => simp only; omega
theorem fbo_pos (f : Frm) (_h : Ok f) (hw : f.tok.length = 8) : 1 ≤ (fbo f).length := by
  by_cases hk : f.kind = 3 ∨ f.kind = 4
  · unfold fbo; rw [if_pos hk]; omega
  · unfold fbo; rw [if_neg hk, List.length_append, vlst_length]; have := vsz_le f.pos.toNat; omega

/-- Many frames. -/
def enb : List Frm → List Int
  | [] => []
  | f :: l => fen f ++ enb l
def en (l : List Frm) : Except Int (List Int) := if 16 < l.length then .error 2 else if l.all fok = false then .error 100 else if 256 < (enb l).length then .error 2 else .ok (enb l)
def dc : Nat → List Int → Except Int (List Frm)
  | _, [] => .ok []
  | 0, _ :: _ => .error 2
  | n + 1, k :: b => if k < 1 ∨ 7 < k then .error 100 else match fp k b with
    | .error e => .error e
    | .ok (f, r) => if fok f = false then .error 100 else match dc n r with
      | .error e => .error e
      | .ok fs => .ok (f :: fs)
def de (b : List Int) : Except Int (List Frm) := if 256 < b.length then .error 2 else dc 16 b
theorem enb_app (l m : List Frm) : enb (l ++ m) = enb l ++ enb m := by
  induction l with
  | nil => rfl
  | cons f l ih =>
    show fen f ++ enb (l ++ m) = fen f ++ enb l ++ enb m
    rw [ih, List.append_assoc]
theorem de_cut (f : Frm) (hw : FrW f) (b : List Int) (h : en [f] = .ok b) (k : Nat) (h1 : 1 ≤ k) (h2 : k < b.length) : de (b.take k) = .error 3 := by
  unfold en at h
  split at h
  · cases h
  · split at h
    · cases h
    · split at h
      · cases h
      · rename_i c1 c2 c3
        injection h with h
        have hb : b = f.kind :: fbo f := by rw [← h]; show fen f ++ [] = _; rw [List.append_nil]; rfl
        subst hb
        have hf : fok f = true := by simpa using c2
        have ho := (fok_iff f).1 hf
        have hk := ho.kind
        obtain ⟨j, rfl⟩ : ∃ j, k = j + 1 := ⟨k - 1, by omega⟩
        rw [h] at c3
        unfold de
        rw [if_neg (by rw [List.length_take]; omega), List.take_succ_cons]
        unfold dc
        rw [if_neg (by omega), fp_cut f ho hw.eight j (by simpa using h2)]
end Go.Proofs.Yteaamgjlkohfcaa

namespace Go.Proofs.Yteaamgjlkohfcaa
open Go.RowKit

theorem idxN {P : Program} {o : Oper} {a : Act} (t e : TypeId) (n len cap : Nat) (ad : Addr) (i : Nat) (x y : Operand) (hu : P.underlying t = some (.slice e)) (hsz : ∀ w, (sizeOf e).run P w = .ok n w) (hi : i < len) (ho : o.op = .indexAddr t x y) (hx : a.eval x = .slice (some ad) len cap) (hy : a.eval y = .int .i64 (i : Int)) (w : World) :
    (execOp a.eval o).run P w = .ok (.value (.pointer (some (ad.add (i * n))))) w := by
  have e1 : (Instr.indexAt t (.slice (some ad) len cap) (.int .i64 (i : Int))).run P w = .ok (.pointer (some (ad.add (i * n)))) w := by
    simp [Instr.indexAt, run_underlying hu, asIntOf, hsz]
    intro hf
    omega
  unfold execOp
  simp only [ho, hx, hy, Sem.run_bind, e1, Result.andThen_ok, Sem.run_pure]
/-- Ranges in memory. -/
def rgz (l : List (Int × Int)) (j : Nat) : Int × Int := l.getD j (0, 0)
def Rg (w : World) (sp : Option Addr) (l : List (Int × Int)) : Prop := ∀ j, j < l.length → ∃ ad, sp = some ad ∧ w.cell? (ad.add (j * 2)) = some (.int .i64 (rgz l j).1) ∧ w.cell? ((ad.add (j * 2)).add 1) = some (.int .i64 (rgz l j).2)
theorem Rg.below {w w' : World} {sp : Option Addr} {l : List (Int × Int)} (h : Rg w sp l) {B : Nat} (b : Below B w w') (hB : w.heap.size ≤ B) : Rg w' sp l := fun j hj => by
  obtain ⟨ad, rfl, h1, h2⟩ := h j hj
  refine ⟨ad, rfl, ?_, ?_⟩
  · rw [b.cell (Nat.lt_of_lt_of_le (World.block_lt_of_cell? w _ h1) hB)]; exact h1
  · rw [b.cell (Nat.lt_of_lt_of_le (World.block_lt_of_cell? w _ h2) hB)]; exact h2
theorem Rg.at {w : World} {ad : Addr} {l : List (Int × Int)} (h : Rg w (some ad) l) (j : Nat) (hj : j < l.length) : w.cell? (ad.add (j * 2)) = some (.int .i64 (rgz l j).1) ∧ w.cell? ((ad.add (j * 2)).add 1) = some (.int .i64 (rgz l j).2) := by
  obtain ⟨ad', e, h1⟩ := h j hj
  injection e with e
  subst e
  exact h1
theorem drop_rgz (l : List (Int × Int)) (j : Nat) (hj : j < l.length) : l.drop j = rgz l j :: l.drop (j + 1) := by
  rw [List.drop_eq_getElem_cons hj]
  unfold rgz
  rw [List.getD_eq_getElem?_getD, List.getElem?_eq_getElem hj]
  rfl

def fr_ (l : List (Int × Int)) (fr : Int) (j : Nat) : Int := if j = 0 then fr else (rgz l (j - 1)).2
end Go.Proofs.Yteaamgjlkohfcaa

namespace Go.Proofs.Yteaamgjlkohfcaa
open Go.RowKit

def fcs (f : Frm) (rp : Option Addr) (rc : Nat) (bp : Option Addr) (bc : Nat) : List Value := [.int .i64 f.kind, .int .i64 f.pos, .int .i64 f.lim, .slice rp f.rg.length rc, .slice bp f.byt.length bc, .int .u8 (bl f.tok 0), .int .u8 (bl f.tok 1), .int .u8 (bl f.tok 2), .int .u8 (bl f.tok 3), .int .u8 (bl f.tok 4), .int .u8 (bl f.tok 5), .int .u8 (bl f.tok 6), .int .u8 (bl f.tok 7)]
def fchk (f : Frm) : Int := if fok f = true then 0 else 100
def i64 (n : Int) : Prop := -9223372036854775808 ≤ n ∧ n < 9223372036854775808
/-- What a frame's cells speak of. -/
structure FV (w : World) (f : Frm) (rp : Option Addr) (rc : Nat) (bp : Option Addr) (bc : Nat) : Prop where
  rg : Rg w rp f.rg
  rle : f.rg.length ≤ rc
  rnil : rp = none → rc = 0
  rmax : f.rg.length ≤ 140737488351232
  src : Src w bp f.byt.length (bl f.byt)
  ble : f.byt.length ≤ bc
  bnil : bp = none → bc = 0
  bmax : f.byt.length ≤ 140737488351232
  wf : FrW f
  kind : i64 f.kind
  pos : i64 f.pos
  lim : i64 f.lim
theorem FV.below {w w' : World} {f : Frm} {rp bp : Option Addr} {rc bc : Nat} (h : FV w f rp rc bp bc) {B : Nat} (b : Below B w w') (hB : w.heap.size ≤ B) : FV w' f rp rc bp bc :=
  ⟨h.rg.below b hB, h.rle, h.rnil, h.rmax, h.src.below b hB, h.ble, h.bnil, h.bmax, h.wf, h.kind, h.pos, h.lim⟩
theorem tok_val (t : List Int) (h : t.length = 8) (hb : Byts t) : (!decide (val 256 (bl t) 8 = val 256 (fun _ => 0) 8)) = decide (t ≠ z8) := by
  have hi : In 256 8 (bl t) := by have := hb.bl; rw [h] at this; exact this
  have hz : In 256 8 (fun _ => (0 : Int)) := fun _ _ => ⟨Int.le_refl _, show (0 : Int) < 256 by decide⟩
  have key : val 256 (bl t) 8 = val 256 (fun _ => 0) 8 ↔ t = z8 := by
    constructor
    · intro e
      refine bl_ext (by rw [h]; rfl) fun j hj => ?_
      rw [val_inj 256 (by decide) _ _ 8 hi hz e j (by omega)]
      have : j = 0 ∨ j = 1 ∨ j = 2 ∨ j = 3 ∨ j = 4 ∨ j = 5 ∨ j = 6 ∨ j = 7 := by omega
      rcases this with rfl | rfl | rfl | rfl | rfl | rfl | rfl | rfl <;> rfl
    · rintro rfl
      rfl
  by_cases e : t = z8
  · rw [decide_eq_true (key.2 e), decide_eq_false (fun h => h e)]; rfl
  · rw [decide_eq_false (fun h => e (key.1 h)), decide_eq_true e]; rfl

end Go.Proofs.Yteaamgjlkohfcaa

namespace Go.Proofs.Yteaamgjlkohfcaa
open Go.RowKit

def PutV (len : Nat) (z : Nat → Int) (n : Int) (B : Nat) (e : Ending) (w' : World) : Prop := ∃ v, e = .returned (.tuple #[v, .int .i64 (vE n)]) ∧ Own w' B 5 .u8 (vL len n) (vput len z n) v
def PutB (len : Nat) (z : Nat → Int) (tl : Nat) (x : Nat → Int) (B : Nat) (e : Ending) (w' : World) : Prop := ∃ v, e = .returned (.tuple #[v, .int .i64 0]) ∧ Own w' B 5 .u8 (len + vsz tl + tl) (app (app z len (vby tl)) (len + vsz tl) x) v
def PutVarOK : Prop := ∀ (sp : Option Addr) (len cap : Nat), len ≤ 140737488351232 → len ≤ cap → (sp = none → cap = 0) → ∀ z : Nat → Int, In 256 len z → ∀ n : Int, (-9223372036854775808 ≤ n ∧ n < 9223372036854775808) → ∀ w : World, Src w sp len z → Calls Try.prog 39 #[.slice sp len cap, .int .i64 n] w fun e w' => PutV len z n w.heap.size e w' ∧ Below w.heap.size w w'
def PutBytesOK : Prop := ∀ (sp : Option Addr) (len cap : Nat), len ≤ 140737488351232 → len ≤ cap → (sp = none → cap = 0) → ∀ z : Nat → Int, In 256 len z → ∀ (tp : Option Addr) (tl tc : Nat), tl ≤ 140737488351232 → tl ≤ tc → (tp = none → tc = 0) → ∀ x : Nat → Int, In 256 tl x → len + tl ≤ 140737488351232 → ∀ w : World, Src w sp len z → Src w tp tl x → Calls Try.prog 31 #[.slice sp len cap, .slice tp tl tc] w fun e w' => PutB len z tl x w.heap.size e w' ∧ Below w.heap.size w w'
end Go.Proofs.Yteaamgjlkohfcaa

namespace Go.Proofs.Yteaamgjlkohfcaa
open Go.RowKit

abbrev OwnL (w : World) (base : Nat) (l : List Int) (v : Value) : Prop := Own w base 5 .u8 l.length (bl l) v
theorem bl_app' (a b : List Int) (j : Nat) : app (bl a) a.length (bl b) j = bl (a ++ b) j := by
  rw [bl_app]
  rfl
theorem OwnL.app {w : World} {base : Nat} {a b : List Int} {v : Value} (h : Own w base 5 .u8 (a.length + b.length) (app (bl a) a.length (bl b)) v) : OwnL w base (a ++ b) v := by
  unfold OwnL
  rw [List.length_append]
  exact h.congr fun j _ => bl_app' a b j
theorem OwnL.put {w : World} {base : Nat} {l : List Int} {n : Nat} {v : Value} (h : Own w base 5 .u8 (l.length + vsz n) (Go.Proofs.Yteaamgjlkohfcaa.app (bl l) l.length (vby n)) v) : OwnL w base (l ++ vlst n) v := by
  refine OwnL.app ?_
  rw [vlst_length]
  refine h.congr fun j hj => ?_
  unfold Go.Proofs.Yteaamgjlkohfcaa.app
  split
  · rfl
  · exact (bl_vlst n (j - l.length) (by omega)).symm
end Go.Proofs.Yteaamgjlkohfcaa

namespace Go.Proofs.Yteaamgjlkohfcaa
open Go.RowKit

theorem fr_succ (l : List (Int × Int)) (fr : Int) (j : Nat) : fr_ l fr (j + 1) = (rgz l j).2 := by unfold fr_; rw [if_neg (by omega), Nat.add_sub_cancel]
theorem rok_drop (l : List (Int × Int)) (fr : Int) (ab : Bool) (up : Int) (h : rok l fr ab up = true) : ∀ j, j ≤ l.length → ∃ b, rok (l.drop j) (fr_ l fr j) b up = true
  | 0, _ => ⟨ab, h⟩
  | j + 1, hj => by
    obtain ⟨b, hb⟩ := rok_drop l fr ab up h j (by omega)
    rw [drop_rgz l j (by omega)] at hb
    rw [fr_succ]
    exact ⟨true, (rok_cons hb).2.2.2⟩
theorem rok_at {l : List (Int × Int)} {fr : Int} {ab : Bool} {up : Int} (h : rok l fr ab up = true) (h0 : 0 ≤ fr) : ∀ j, j < l.length → 0 ≤ fr_ l fr j ∧ fr_ l fr j ≤ (rgz l j).1 ∧ (rgz l j).1 < (rgz l j).2 ∧ (rgz l j).2 ≤ up
  | 0, hj => by
    obtain ⟨b, hb⟩ := rok_drop l fr ab up h 0 (by omega)
    rw [drop_rgz l 0 hj] at hb
    obtain ⟨q1, q2, q3, _⟩ := rok_cons hb
    exact ⟨h0, q1, q2, q3⟩
  | j + 1, hj => by
    obtain ⟨p1, p2, p3, p4⟩ := rok_at h h0 j (by omega)
    obtain ⟨b, hb⟩ := rok_drop l fr ab up h (j + 1) (by omega)
    rw [drop_rgz l (j + 1) hj] at hb
    obtain ⟨q1, q2, q3, _⟩ := rok_cons hb
    rw [fr_succ] at q1 ⊢
    exact ⟨by omega, q1, q2, q3⟩
theorem take_rgz (l : List (Int × Int)) (j : Nat) (hj : j < l.length) : l.take (j + 1) = l.take j ++ [rgz l j] := by
  rw [List.take_succ_eq_append_getElem hj]
  unfold rgz
  rw [List.getD_eq_getElem?_getD, List.getElem?_eq_getElem hj]
  rfl
theorem fr_take (l : List (Int × Int)) (fr : Int) (j : Nat) (hj : j ≤ l.length) : fr_ (l.take j) fr (l.take j).length = fr_ l fr j := by
  rw [List.length_take, Nat.min_eq_left hj]
  unfold fr_
  split
  · rfl
  · unfold rgz
    rw [List.getD_eq_getElem?_getD, List.getD_eq_getElem?_getD, List.getElem?_take, if_pos (by omega)]
end Go.Proofs.Yteaamgjlkohfcaa

namespace Go.Proofs.Yteaamgjlkohfcaa
open Go.RowKit

/-- Frames, one behind the other. -/
def Frs (w : World) (sp : Option Addr) (fs : List Frm) : Prop := ∀ j f, fs[j]? = some f → ∃ ad rp rc bp bc, sp = some ad ∧ (∀ k v, (fcs f rp rc bp bc)[k]? = some v → w.cell? ((ad.add (j * 13)).add k) = some v) ∧ FV w f rp rc bp bc
theorem Frs.below {w w' : World} {sp : Option Addr} {fs : List Frm} (h : Frs w sp fs) {B : Nat} (b : Below B w w') (hB : w.heap.size ≤ B) : Frs w' sp fs := fun j f hj => by
  obtain ⟨ad, rp, rc, bp, bc, rfl, h1, h2⟩ := h j f hj
  exact ⟨ad, rp, rc, bp, bc, rfl, fun k v hv => by rw [b.cell (Nat.lt_of_lt_of_le (World.block_lt_of_cell? w _ (h1 k v hv)) hB)]; exact h1 k v hv, h2.below b hB⟩
theorem Frs.wf {w : World} {sp : Option Addr} {fs : List Frm} (h : Frs w sp fs) : ∀ f ∈ fs, FrW f := fun f hf => by
  obtain ⟨j, hj⟩ := List.getElem?_of_mem hf
  obtain ⟨_, _, _, _, _, _, _, h2⟩ := h j f hj
  exact h2.wf
theorem Frs.nil (w : World) (sp : Option Addr) : Frs w sp [] := fun j f hj => by simp at hj
def exE {α : Type} : Except Int α → Int
  | .ok _ => 0
  | .error e => e
def exL {α : Type} : Except Int (List α) → List α
  | .ok l => l
  | .error _ => []
def EncR (fs : List Frm) (B : Nat) (e : Ending) (w' : World) : Prop := ∃ v, e = .returned (.tuple #[v, .int .i64 (exE (en fs))]) ∧ OwnL w' B (exL (en fs)) v
def DecR (b : List Int) (e : Ending) (w' : World) : Prop := ∃ sp cap, e = .returned (.tuple #[.slice sp (exL (de b)).length cap, .int .i64 (exE (de b))]) ∧ (exL (de b)).length ≤ cap ∧ (sp = none → cap = 0) ∧ Frs w' sp (exL (de b))
def fsz (f : Frm) : Int := if fok f = true then ((fen f).length : Int) else 0
def CheckOK : Prop := ∀ f rp rc bp bc (w : World), FV w f rp rc bp bc → Calls Try.prog 10 #[.agg (fcs f rp rc bp bc).toArray] w fun e w' => e = .returned (.int .i64 (fchk f)) ∧ Below w.heap.size w w'
def SizeOK : Prop := ∀ f rp rc bp bc (w : World), FV w f rp rc bp bc → Calls Try.prog 12 #[.agg (fcs f rp rc bp bc).toArray] w fun e w' => e = .returned (.int .i64 (fsz f)) ∧ Below w.heap.size w w'
def EncodeOK : Prop := ∀ (sp : Option Addr) (cap : Nat) (fs : List Frm) (w : World), fs.length ≤ 140737488351232 → fs.length ≤ cap → (sp = none → cap = 0) → Frs w sp fs → Calls Try.prog 14 #[.slice sp fs.length cap] w fun e w' => EncR fs w.heap.size e w' ∧ Below w.heap.size w w'
def DecodeOK : Prop := ∀ (sp : Option Addr) (cap : Nat) (b : List Int) (w : World), b.length ≤ 140737488351232 → b.length ≤ cap → (sp = none → cap = 0) → Byts b → Src w sp b.length (bl b) → Calls Try.prog 16 #[.slice sp b.length cap] w fun e w' => DecR b e w' ∧ Below w.heap.size w w'
theorem ren_len : ∀ (l : List (Int × Int)) (fr : Int), (ren l fr).length ≤ 16 * l.length
  | [], _ => Nat.le_refl _
  | p :: l, fr => by
    have := ren_len l p.2
    have := vsz_le (p.1 - fr).toNat
    have := vsz_le (p.2 - p.1).toNat
    show (vlst (p.1 - fr).toNat ++ (vlst (p.2 - p.1).toNat ++ ren l p.2)).length ≤ 16 * (l.length + 1)
    rw [List.length_append, List.length_append, vlst_length, vlst_length]
    omega
theorem fen_len (f : Frm) (h : Ok f) (h8 : f.tok.length = 8) : (fen f).length ≤ 160 := by
  unfold fen
  rw [List.length_cons]
  cases h using Ok.elim with
  | tok k t hk =>
    have e : fbo ⟨k, 0, 0, [], [], t⟩ = t := by unfold fbo; rw [if_pos hk]
    rw [e]
    simp only at h8
    omega
  | data a t h h1 h2 =>
    show (vlst a.toNat ++ (vlst t.length ++ t)).length + 1 ≤ 160
    have := vsz_le a.toNat
    have := vsz_le t.length
    rw [List.length_append, List.length_append, vlst_length, vlst_length]
    omega
  | upd a h =>
    show (vlst a.toNat ++ []).length + 1 ≤ 160
    have := vsz_le a.toNat
    rw [List.append_nil, vlst_length]
    omega
  | close a h =>
    show (vlst a.toNat ++ []).length + 1 ≤ 160
    have := vsz_le a.toNat
    rw [List.append_nil, vlst_length]
    omega
  | ack a l rs h hl hr h8 =>
    show (vlst a.toNat ++ (vlst l.toNat ++ (vlst rs.length ++ ren rs a))).length + 1 ≤ 160
    have := vsz_le a.toNat
    have := vsz_le l.toNat
    have := vsz_le rs.length
    have := ren_len rs a
    simp only [List.length_append, vlst_length]
    omega
  | got a l rs h hl hr h8 =>
    show (vlst a.toNat ++ (vlst l.toNat ++ (vlst rs.length ++ ren rs 0))).length + 1 ≤ 160
    have := vsz_le a.toNat
    have := vsz_le l.toNat
    have := vsz_le rs.length
    have := ren_len rs 0
    simp only [List.length_append, vlst_length]
    omega
theorem enb_take (fs : List Frm) (j : Nat) (f : Frm) (hf : fs[j]? = some f) : enb (fs.take (j + 1)) = enb (fs.take j) ++ fen f := by
  have hj : j < fs.length := by
    rcases Nat.lt_or_ge j fs.length with h | h
    · exact h
    · rw [List.getElem?_eq_none h] at hf; cases hf
  rw [List.take_add_one, hf, enb_app]
  show _ ++ (fen f ++ []) = _
  rw [List.append_nil]
theorem fchk_ok {f : Frm} (h : fok f = true) : fchk f = 0 := by unfold fchk; rw [if_pos h]
theorem fchk_bad {f : Frm} (h : fok f = false) : fchk f = 100 := by unfold fchk; rw [h]; rfl

end Go.Proofs.Yteaamgjlkohfcaa

namespace Go.Proofs.Yteaamgjlkohfcaa
open Go.RowKit

theorem rg2 {w : World} {p : Addr} {x y : Int} (h : w.cell? p = some (.int .i64 x) ∧ w.cell? (p.add 1) = some (.int .i64 y)) : ∀ k v, ([.int .i64 x, .int .i64 y] : List Value)[k]? = some v → w.cell? (p.add k) = some v
  | 0, v, hv => by injection hv with hv; subst hv; exact h.1
  | 1, v, hv => by injection hv with hv; subst hv; exact h.2
  | k + 2, v, hv => by simp at hv
end Go.Proofs.Yteaamgjlkohfcaa

namespace Go.Proofs.Yteaamgjlkohfcaa
open Go.RowKit

/-- Nothing that stood is changed but in the blocks X. -/
structure Off (X : List Nat) (w w' : World) : Prop where
  size : w.heap.size ≤ w'.heap.size
  blk : ∀ b, b < w.heap.size → b ∉ X → w'.heap[b]? = w.heap[b]?
section
variable {X Y : List Nat} {w w1 w2 : World}
theorem Off.refl (X : List Nat) (w : World) : Off X w w := ⟨Nat.le_refl _, fun _ _ _ => rfl⟩
theorem Off.trans (h : Off X w w1) (g : Off X w1 w2) : Off X w w2 := ⟨Nat.le_trans h.size g.size, fun b hb hX => (g.blk b (Nat.lt_of_lt_of_le hb h.size) hX).trans (h.blk b hb hX)⟩
theorem Off.mono (h : Off X w w1) (hX : ∀ b ∈ X, b ∈ Y) : Off Y w w1 := ⟨h.size, fun b hb hY => h.blk b hb fun e => hY (hX b e)⟩
theorem Off.of_below (l : Below w.heap.size w w1) : Off X w w1 := ⟨l.size, fun b hb _ => l.block b hb⟩
theorem Off.below (h : Off X w w1) (l : Below w1.heap.size w1 w2) : Off X w w2 := h.trans (.of_below l)
theorem Off.set (h : Off X w w1) {b : Nat} (hb : b ∈ X) (j : Nat) (v : Value) : Off X w (w1.setCell ⟨b, j, none⟩ v) :=
  h.trans ⟨by simp, fun c _ hX => by
    have : c ≠ b := fun e => hX (e ▸ hb)
    simp [World.setCell, Array.getElem?_modify, Ne.symm this]⟩
theorem Off.grown (h : Off X w w1) {r : Option Nat} (g : w1.grownBy w2 r) (hr : ∀ b, r = some b → b ∈ X ∨ w.heap.size ≤ b) : Off X w w2 :=
  ⟨Nat.le_trans h.size g.size, fun b hb hX => by
    rw [g.block b (Nat.lt_of_lt_of_le hb h.size) (fun e => by
      rcases hr b e.symm with h' | h'
      · exact hX h'
      · omega)]
    exact h.blk b hb hX⟩
theorem Off.cell (h : Off X w w1) {p : Addr} {v : Value} (hc : w.cell? p = some v) (hX : p.block ∉ X) : w1.cell? p = some v := by
  rw [World.cell?_of_block (h.blk p.block (World.block_lt_of_cell? w p hc) hX)]
  exact hc
end
/-- Bytes that lie in none of the blocks X. -/
def SrcA (X : List Nat) (w : World) (sp : Option Addr) (n : Nat) (z : Nat → Int) : Prop := Src w sp n z ∧ ∀ ad, sp = some ad → 0 < n → ad.block ∉ X
theorem add_block (p : Addr) (j : Nat) : (p.add j).block = p.block := by unfold Addr.add; split <;> rfl
theorem SrcA.off {X : List Nat} {w w' : World} {sp : Option Addr} {n : Nat} {z : Nat → Int} (h : SrcA X w sp n z) (o : Off X w w') : SrcA X w' sp n z :=
  ⟨fun j hj => by
    obtain ⟨ad, rfl, hc⟩ := h.1 j hj
    exact ⟨ad, rfl, o.cell hc (by rw [add_block]; exact h.2 ad rfl (by omega))⟩, h.2⟩
theorem SrcA.more {X : List Nat} {w : World} {sp : Option Addr} {n : Nat} {z : Nat → Int} (h : SrcA X w sp n z) (b : Nat) (hb : w.heap.size ≤ b) : SrcA (b :: X) w sp n z :=
  ⟨h.1, fun ad e hn hm => by
    obtain ⟨ad', e', hc⟩ := h.1 0 hn
    rw [e] at e'
    injection e' with e'
    subst e'
    have := World.block_lt_of_cell? w _ hc
    rw [add_block] at this
    rcases List.mem_cons.1 hm with rfl | hm
    · omega
    · exact h.2 ad e hn hm⟩
theorem SrcA.less {X Y : List Nat} {w : World} {sp : Option Addr} {n : Nat} {z : Nat → Int} (h : SrcA X w sp n z) (hY : ∀ b ∈ Y, b ∈ X) : SrcA Y w sp n z := ⟨h.1, fun ad e hn hm => h.2 ad e hn (hY _ hm)⟩
theorem SrcA.of_old {X : List Nat} {w : World} {sp : Option Addr} {n : Nat} {z : Nat → Int} (h : Src w sp n z) (hX : ∀ b ∈ X, w.heap.size ≤ b) : SrcA X w sp n z :=
  ⟨h, fun ad e hn hm => by
    obtain ⟨ad', e', hc⟩ := h 0 hn
    rw [e] at e'
    injection e' with e'
    subst e'
    have := World.block_lt_of_cell? w _ hc
    rw [add_block] at this
    have := hX _ hm
    omega⟩
theorem SrcA.of_own {X : List Nat} {w : World} {base : Nat} {e : TypeId} {n : Nat} {z : Nat → Int} {sp : Option Addr} {c : Nat} (h : Own w base e .u8 n z (.slice sp n c)) (hX : ∀ b ∈ X, b < base) : SrcA X w sp n z :=
  ⟨h.src, fun ad e' _ hm => by
    subst e'
    have h1 := (World.ownsRow.lt h ad.block rfl).1
    have h2 := hX ad.block hm
    omega⟩
theorem ownsRow_off {X : List Nat} {w w' : World} {base size n : Nat} {e : TypeId} {v : Value} {xs : List Value} (h : w.ownsRow base e size v n xs) (o : Off X w w') (hX : ∀ b ∈ X, v.ownBlock ≠ some b) : w'.ownsRow base e size v n xs := by
  refine ⟨h.1, ?_⟩
  rcases h.2 with h0 | ⟨g, cap, cur, hv, hb, hg, h5, h6, h7, h8⟩
  · exact .inl h0
  · refine .inr ⟨g, cap, cur, hv, hb, ?_, h5, h6, h7, h8⟩
    have hlt : g < w.heap.size := by
      rcases Nat.lt_or_ge g w.heap.size with h' | h'
      · exact h'
      · rw [Array.getElem?_eq_none h'] at hg; cases hg
    rw [o.blk g hlt (fun hm => hX g hm (by rw [hv]; rfl))]
    exact hg

theorem ownsRow_low {X : List Nat} {w w' : World} {base size n : Nat} {e : TypeId} {v : Value} {xs : List Value} (h : w.ownsRow base e size v n xs) (o : Off X w w') (hX : ∀ b ∈ X, b < base) : w'.ownsRow base e size v n xs :=
  ownsRow_off h o fun b hb e => by
    have h1 := (World.ownsRow.lt h b e).1
    have h2 := hX b hb
    omega
section
variable {P : Program}
/-- A type whose values have several cells. -/
structure Many (P : Program) (e : TypeId) (z : Value) (bytes size : Nat) : Prop where
  info : (P.info? e).map (fun i => (i.zero, i.bytes, i.size)) = some (some z, bytes, size)
theorem run_append_OwnV {w : World} {base : Nat} {t ty e : TypeId} {z : Value} {bytes size n : Nat} {xs : List Value} {v : Value} (ht : P.underlying t = some (.slice e)) (he : Many P e z bytes size) (hzs : z.cells.size = size) (hs0 : 0 < size) (h : w.ownsRow base e size v n xs)
    (ad : Addr) (m c : Nat) (news : List Value) (hl : news.length = m * size) (hnews : ∀ j u, news[j]? = some u → w.cell? (ad.add j) = some u) (h1c : ∀ u ∈ news, u.oneCell' = true) (h63 : n + m ≤ maxLen) (hb : (n + m) * bytes ≤ 140737488355328) (hbase : base ≤ w.heap.size) :
    ∃ v' w', (Builtin.append_ #[t, t] ty #[v, .slice (some ad) m c]).run P w = .ok v' w' ∧ w'.ownsRow base e size v' (n + m) (xs ++ news) ∧ w.grownBy w' v.ownBlock ∧ (∀ g, v'.ownBlock = some g → v.ownBlock = some g ∨ g = w.heap.size) := by
  obtain ⟨i, hi, hq⟩ := Option.map_eq_some_iff.1 he.info
  simp only [Prod.mk.injEq] at hq
  obtain ⟨h1, h2, h3⟩ := hq
  obtain ⟨v', w', hr, ho, hg, _⟩ := run_append_own (P := P) w base t ty e i z size bytes ht hi h1 h3 h2 hzs hs0 v n _ h ad m c news hl hnews h1c h63 hb hbase
  refine ⟨v', w', hr, ho, hg, ?_⟩
  have hml : news.length = m * i.size := by rw [h3]; exact hl
  rcases h.2 with ⟨rfl, rfl⟩ | ⟨g, cap, cur, rfl, hbg, hgg, hnc, hcm, hcs, htake⟩
  · by_cases hm : m = 0
    · subst hm
      have hr2 : (Builtin.append_ #[t, t] ty #[.slice none 0 0, .slice (some ad) 0 c]).run P w = .ok (.slice none 0 0) w := by
        simp [Builtin.append_, run_underlying ht, sizeOf, typeInfo, hi, Builtin.lenOf, Builtin.firstCells, loadCells, loadCellsFrom]
      rw [hr] at hr2
      injection hr2 with hv' _
      rw [hv']
      intro g hg'
      cases hg'
    · have hr2 := run_append_nil (P := P) w t ty e i z ht hi h1 ad m c news hml hnews (by omega) (by unfold maxLen at h63; omega) (by rw [h2]; have := hb; simp only [Nat.zero_add] at this; omega)
      rw [hr] at hr2
      injection hr2 with hv' _
      rw [hv']
      intro g hg'
      injection hg' with hg'
      exact .inr hg'.symm
  · by_cases hroom : n + m ≤ cap
    · have hr2 := run_append_room (P := P) w t ty e i ht hi g n cap cur hgg ad m c news hml hnews h1c hroom (by rw [hml, hcs, h3]; exact (by rw [← Nat.add_mul]; exact Nat.mul_le_mul_right size hroom))
      rw [hr] at hr2
      injection hr2 with hv' _
      rw [hv']
      intro g' hg'
      exact .inl hg'
    · have hr2 := run_append_grow (P := P) w t ty e i z ht hi h1 ⟨g, 0, none⟩ n cap xs (by rw [h.1, h3]) (World.ownsRow.cells h (g := g) rfl) ad m c news hml hnews (by omega) (by unfold maxLen at h63; omega) (by rw [h2]; exact growslice_fits (by omega) hb)
      rw [hr] at hr2
      injection hr2 with hv' _
      rw [hv']
      intro g' hg'
      injection hg' with hg'
      exact .inr hg'.symm
end
theorem Mm.off {w0 w w' : World} {l : List (Nat × List Value)} (h : Mm w0 l w) {X : List Nat} (o : Off X w w') (hX : ∀ b ∈ X, w0.heap.size ≤ b) (hl : ∀ p ∈ l, p.1 ∉ X) (hos : w'.os = w.os ∧ w'.tape = w.tape ∧ w'.output = w.output) : Mm w0 l w' :=
  ⟨fun p hp => ⟨fun j hj => by
    have e := o.blk p.1 (h.rows p hp).2.2 (hl p hp)
    rw [World.cell?_of_block (a := ⟨p.1, j, none⟩) e, World.frozen?_of_block (a := ⟨p.1, j, none⟩) e]
    exact (h.rows p hp).1 j hj, (h.rows p hp).2.1, Nat.lt_of_lt_of_le (h.rows p hp).2.2 o.size⟩, h.apart,
   ⟨hos.1.trans h.below.os, hos.2.1.trans h.below.tape, hos.2.2.trans h.below.output, Nat.le_trans h.below.size o.size, fun b hb => (o.blk b (Nat.lt_of_lt_of_le hb h.below.size) (fun hm => by have := hX b hm; omega)).trans (h.below.block b hb)⟩⟩
end Go.Proofs.Yteaamgjlkohfcaa

namespace Go.Proofs.Yteaamgjlkohfcaa
open Go.RowKit

def vcap : Value → Nat
  | .slice _ _ c => c
  | _ => 0

section
variable {P : Program}
theorem run_append_Room {w : World} {base : Nat} {t ty e : TypeId} {k : IntKind} {bytes n : Nat} {f : Nat → Int} {v : Value} (ht : P.underlying t = some (.slice e)) (he : One P e k bytes) (h : Own w base e k n f v)
    (sp : Option Addr) (m c : Nat) (hv : Nat → Int) (hs : ∀ j, j < m → ∃ ad, sp = some ad ∧ w.cell? (ad.add j) = some (.int k (hv j))) (hz : sp = none → c = 0) (hroom : n + m ≤ vcap v) :
    ∃ v' w', (Builtin.append_ #[t, t] ty #[v, .slice sp m c]).run P w = .ok v' w' ∧ Own w' base e k (n + m) (app f n hv) v' ∧ w.grownBy w' v.ownBlock ∧ vcap v' = vcap v ∧ v'.ownBlock = v.ownBlock := by
  obtain ⟨i, hi, hq⟩ := Option.map_eq_some_iff.1 he.info
  simp only [Prod.mk.injEq] at hq
  obtain ⟨_, _, h3⟩ := hq
  cases sp with
  | none =>
    have hm : m = 0 := by
      rcases Nat.eq_zero_or_pos m with h0 | h0
      · exact h0
      · obtain ⟨ad, e, _⟩ := hs 0 h0; cases e
    subst hm
    obtain rfl := hz rfl
    exact ⟨v, w, run_append_owned_none (P := P) (w := w) base t ty e i 1 ht hi v n _ h, h.congr fun j hj => by unfold app; rw [if_pos hj], ⟨rfl, rfl, rfl, Nat.le_refl _, fun _ _ _ => rfl⟩, rfl, rfl⟩
  | some ad =>
    have hnews : ∀ j u, (row k m hv)[j]? = some u → w.cell? (ad.add j) = some u := fun j u hu => by
      obtain ⟨hj, rfl⟩ := row_get_some hu
      obtain ⟨ad', e', hc⟩ := hs j hj
      injection e' with e'
      subst e'
      exact hc
    have hml : (row k m hv).length = m * i.size := by rw [row_length, h3, Nat.mul_one]
    have hlen : (row k n f ++ row k m hv).length = (n + m) * 1 := by rw [List.length_append, row_length, row_length, Nat.mul_one]
    rcases h.2 with ⟨rfl, rfl⟩ | ⟨g, cap, cur, rfl, hbg, hgg, hnc, hcm, hcs, htake⟩
    · have hm : m = 0 := by simp only [vcap] at hroom; omega
      subst hm
      refine ⟨.slice none 0 0, w, ?_, h.congr fun j hj => absurd hj (Nat.not_lt_zero j), ⟨rfl, rfl, rfl, Nat.le_refl _, fun _ _ _ => rfl⟩, rfl, rfl⟩
      simp [Builtin.append_, run_underlying ht, sizeOf, typeInfo, hi, Builtin.lenOf, Builtin.firstCells, loadCells, loadCellsFrom]
    · have hroom' : n + m ≤ cap := hroom
      have hr2 := run_append_room (P := P) w t ty e i ht hi g n cap cur hgg ad m c (row k m hv) hml hnews (row_one k m hv) hroom' (by rw [hml, hcs, h3]; omega)
      refine ⟨_, _, hr2, ?_, ⟨rfl, rfl, rfl, by simp, fun q _ hq => setRow_other w g q _ (fun e => hq (by simp [Value.ownBlock, e]))⟩, rfl, rfl⟩
      unfold Own
      rw [← row_app]
      rw [Nat.mul_one] at htake hcs
      refine ⟨hlen, .inr ⟨g, cap, _, rfl, hbg, setRow_heap w g cur _ e _ hgg, hroom', hcm, ?_, ?_⟩⟩
      · simp only [List.size_toArray, List.length_append, List.length_take, List.length_drop, Array.length_toList, row_length, h3, Nat.mul_one]
        omega
      · simp only [h3, Nat.mul_one, htake]
        have e2 : n + m = (row k n f ++ row k m hv).length := by rw [hlen, Nat.mul_one]
        rw [e2]
        exact List.take_left
end
section
variable {P : Program} {o : Oper} {a : Act}
theorem appendNOp {w w' : World} (s x : Operand) (t u : TypeId) (v n r : Value) (ho : o.op = .call { callee := .builtin .append, args := #[s, x], argTypes := #[t, u] }) (hs : a.eval s = v) (hx : a.eval x = n) (hr : (Builtin.append_ #[t, u] o.type #[v, n]).run P w = .ok r w') :
    (execOp a.eval o).run P w = .ok (.value r) w' := by
  unfold execOp
  simp only [ho, resolve, invoke, builtin, Sem.run_bind, Sem.run_pure, Result.andThen_ok, List.map_toArray, List.map_cons, List.map_nil, hs, hx, hr]
end
end Go.Proofs.Yteaamgjlkohfcaa

namespace Go.Proofs.Yteaamgjlkohfcaa
open Go.RowKit

/-- How many bytes the first slices have together, and which. -/
def tot (ln : Nat → Nat) : Nat → Nat
  | 0 => 0
  | j + 1 => tot ln j + ln j
def catz (ln : Nat → Nat) (zz : Nat → Nat → Int) : Nat → Nat → Int
  | 0 => fun _ => 0
  | j + 1 => app (catz ln zz j) (tot ln j) (zz j)
theorem tot_mono (ln : Nat → Nat) {i : Nat} : ∀ {j : Nat}, i ≤ j → tot ln i ≤ tot ln j
  | 0, h => by obtain rfl : i = 0 := by omega
               exact Nat.le_refl _
  | j + 1, h => by
    rcases Nat.lt_or_ge j i with h' | h'
    · obtain rfl : i = j + 1 := by omega
      exact Nat.le_refl _
    · have := tot_mono ln h'
      show _ ≤ tot ln j + ln j
      omega
theorem loadSl {P : Program} {o : Oper} {a : Act} {w : World} (ty e : TypeId) (x : Operand) (p : Addr) (v : Value) (ho : o.op = .load ty x) (hx : a.eval x = .pointer (some p)) (hu : P.underlying ty = some (.slice e)) (hc : w.cell? p = some v) : (execOp a.eval o).run P w = .ok (.value v) w := by
  have hagg : (isAgg ty).run P w = .ok false w := by
    unfold isAgg
    rw [Sem.run_bind, run_underlying hu w]
    rfl
  have e : (loadVar ty p).run P w = .ok v w := by simp [loadVar, Sem.run_bind, hagg, hc]
  unfold execOp
  simp only [ho, hx, Instr.loadAt, Instr.sureAddr, Sem.run_bind, Sem.run_pure, Result.andThen_ok, e]
theorem cut_none (g n cap : Nat) (w : World) : (Instr.sliceAt 23 (.slice (some ⟨g, 0, none⟩) n cap) none (some (.int .i64 0)) none).run Try.prog w = .ok (.slice (some ⟨g, 0, none⟩) 0 cap) w := by
  rw [run_sliceAt_slice w 23 _ _ _ _ (by kernel_rfl), run_slice_h w 23 _ n cap (by kernel_rfl) .i64 0 (by omega) (by omega), show (sizeOf (Try.prog.elem 23)).run Try.prog w = .ok 1 w by kernel_rfl]
  simp [Result.andThen, sliced, Addr.add_mid]

set_option maxRecDepth 10000 in
set_option maxHeartbeats 4000000 in
theorem grow_any (n : Nat) (hn : n ≤ 281474976710656) (w : World) :
    Calls Try.prog 50 #[.slice none 0 0, .int .i64 (n : Int)] w fun e w' => ∃ v, e = .returned v ∧ Own w' w.heap.size 5 .u8 0 (fun _ => 0) v ∧ n ≤ vcap v ∧ Below w.heap.size w w' := by
  have h0 : ¬ (n : Int) < 0 := by omega
  go_enter Try.func50, Try.ntmps50
  go_upto_region 3 with fail
  clear h0
  refine wp_region_list ?_
  refine pureL (.int .i64 (n : Int)) rfl (fun _ => by kernel_rfl) ?_
  simp only [aP, lI, l0, lS]
  refine pureL (.slice none 0 0) rfl (fun _ => by kernel_rfl) ?_
  simp only [aP, lI, l0, lS]
  refine pureL (.int .i64 0) rfl (fun _ => by kernel_rfl) ?_
  simp only [aP, lI, l0, lS]
  refine pureL (.slice none 0 0) rfl (fun _ => by kernel_rfl) ?_
  simp only [aP, lI, l0, lS]
  refine pureL (.int .i64 0) rfl (fun _ => by kernel_rfl) ?_
  simp only [aP, lI, l0, lS]
  refine pureL (.int .i64 0) rfl (fun _ => by kernel_rfl) ?_
  simp only [aP, lI, l0, lS]
  refine pureL (.int .i64 (n : Int)) rfl (fun w => subI .i64 _ _ _ _ _ _ _ rfl rfl rfl (by rw [IntKind.wrap_i64]; omega) w) ?_
  simp only [aP, lI, l0, lS]
  refine pureL (.int .i64 (n : Int)) rfl (fun _ => by kernel_rfl) ?_
  simp only [aP, lI, l0, lS]
  show Exit.then _ _ _ _ _
  rcases Nat.eq_zero_or_pos n with hz | hz
  · subst hz
    go_wp2
    go_ret
    exact ⟨.slice none 0 0, rfl, World.ownsRow_nil w _ _ 1, Nat.le_refl _, Below.refl _ _⟩
  · have g1 : (0 : Int) < (n : Int) := by omega
    go_upto_region 5 with fail
    refine wp_region_list ?_
    refine pureL (.slice none 0 0) rfl (fun _ => by kernel_rfl) ?_
    simp only [aP, lI, l0, lS]
    refine pureL (.slice none 0 0) rfl (fun _ => by kernel_rfl) ?_
    simp only [aP, lI, l0, lS]
    refine pureL (.int .i64 0) rfl (fun _ => by kernel_rfl) ?_
    simp only [aP, lI, l0, lS]
    refine pureL (.slice none 0 0) rfl (fun _ => by kernel_rfl) ?_
    simp only [aP, lI, l0, lS]
    refine pureL (.int .i64 (n : Int)) rfl (fun _ => by kernel_rfl) ?_
    simp only [aP, lI, l0, lS]
    have h1 : (Try.prog.info? 5).map (fun i => (i.zero, i.bytes, i.size)) = some (some (.int .u8 0), 1, 1) := by kernel_rfl
    obtain ⟨i, hi, he⟩ := Option.map_eq_some_iff.1 h1
    simp only [Prod.mk.injEq] at he
    obtain ⟨e1, e2, e3⟩ := he
    have hr : ∀ ty, _ := fun ty => Lib.run_append_nil_zeros (P := Try.prog) w 23 3 ty 5 i (.int .u8 0) .i64 .i64 Try.underlying23 Try.underlying3 hi e1 n (by omega) (by rw [e3]; decide) (by omega) (by rw [e2]; omega)
    refine actL _ rfl (appendNOp _ _ 23 3 _ _ _ rfl rfl rfl (hr _)) ?_
    clear hr
    have hge := grownCap_ge w n 0 5
    have hle := grownCap_le_maxLen w n 0 5 (by unfold maxLen; omega)
    have hz1 : (Value.int .u8 0).cells.size = 1 := rfl
    have hsz : (Builtin.zeroCells (Value.int .u8 0).cells n ++ Builtin.zeroCells (Value.int .u8 0).cells (grownCap w n 0 5 - n)).size = grownCap w n 0 5 * 1 := by
      rw [Array.size_append, size_zeroCells, size_zeroCells, hz1]
      omega
    have O : Own (w.drew.alloc (.cells (Builtin.zeroCells (Value.int .u8 0).cells n ++ Builtin.zeroCells (Value.int .u8 0).cells (grownCap w n 0 5 - n)) 5)) w.heap.size 5 .u8 0 (fun _ => 0) (.slice (some ⟨w.heap.size, 0, none⟩) 0 (grownCap w n 0 5)) :=
      ⟨rfl, .inr ⟨w.heap.size, _, _, rfl, Nat.le_refl _, heap_alloc_new w.drew _, Nat.zero_le _, hle, hsz, by rw [Nat.zero_mul, List.take_zero]; rfl⟩⟩
    have hB : Below w.heap.size w (w.drew.alloc (.cells (Builtin.zeroCells (Value.int .u8 0).cells n ++ Builtin.zeroCells (Value.int .u8 0).cells (grownCap w n 0 5 - n)) 5)) := (Below.refl _ _).drew.alloc (Nat.le_refl _) _
    generalize (w.drew.alloc (.cells (Builtin.zeroCells (Value.int .u8 0).cells n ++ Builtin.zeroCells (Value.int .u8 0).cells (grownCap w n 0 5 - n)) 5)) = w1 at O hB ⊢
    clear hle hsz hz1 h1 hi e1 e2 e3
    generalize grownCap w n 0 5 = cp at O hge ⊢
    generalize hg : w.heap.size = g at O hB ⊢
    simp only [aP, lI, l0, lS]
    refine pureL (.slice none 0 0) rfl (fun _ => by kernel_rfl) ?_
    simp only [aP, lI, l0, lS]
    refine pureL (.int .i64 0) rfl (fun _ => by kernel_rfl) ?_
    simp only [aP, lI, l0, lS]
    refine pureL (.slice (some ⟨g, 0, none⟩) 0 cp) rfl (fun w' => cutHi _ _ _ _ _ _ rfl rfl rfl (cut_none g n cp w')) ?_
    simp only [aP, lI, l0, lS]
    refine pureL (.slice (some ⟨g, 0, none⟩) 0 cp) rfl (fun _ => by kernel_rfl) ?_
    simp only [aP, lI, l0]
    subst hg
    show Exit.then _ _ _ _ _
    go_wp2
    go_ret
    exact ⟨_, rfl, O, hge, hB⟩

/-- The slices that stand one behind the other. -/
structure CatIn (w : World) (p : Addr) (c : Nat) (sp : Nat → Option Addr) (ln cp : Nat → Nat) (zz : Nat → Nat → Int) : Prop where
  cell : ∀ j, j < c → w.cell? (p.add j) = some (.slice (sp j) (ln j) (cp j))
  src : ∀ j, j < c → Src w (sp j) (ln j) (zz j)
  nil : ∀ j, j < c → sp j = none → cp j = 0
theorem CatIn.below {w w' : World} {p : Addr} {c : Nat} {sp : Nat → Option Addr} {ln cp : Nat → Nat} {zz : Nat → Nat → Int} (h : CatIn w p c sp ln cp zz) (l : Below w.heap.size w w') : CatIn w' p c sp ln cp zz :=
  ⟨fun j hj => by rw [l.cell (World.block_lt_of_cell? w _ (h.cell j hj))]; exact h.cell j hj, fun j hj => (h.src j hj).below l (Nat.le_refl _), h.nil⟩
/-- What is joined so far. -/
structure CatI (w : World) (ln : Nat → Nat) (zz : Nat → Nat → Int) (c j : Nat) (s : Value) (w' : World) : Prop where
  own : Own w' w.heap.size 5 .u8 (tot ln j) (catz ln zz j) s
  room : tot ln c ≤ vcap s
  below : Below w.heap.size w w'

set_option maxRecDepth 10000 in
set_option maxHeartbeats 4000000 in
theorem concat_any (p : Addr) (c c' : Nat) (sp : Nat → Option Addr) (ln cp : Nat → Nat) (zz : Nat → Nat → Int) (hc : c < 1000000) (ht : tot ln c ≤ 281474976710656) (w : World) (hin : CatIn w p c sp ln cp zz) :
    Calls Try.prog 40 #[.slice (some p) c c'] w fun e w' => ∃ v, e = .returned v ∧ Own w' w.heap.size 5 .u8 (tot ln c) (catz ln zz c) v ∧ Below w.heap.size w w' := by
  go_enter Try.func40, Try.ntmps40
  go_wp2
  go_loopw [3, 11] (fun s i w' => ∃ j : Nat, j ≤ c ∧ s = .int .i64 ((tot ln j : Nat) : Int) ∧ i = .int .i64 (j : Int) ∧ w = w') (fun _ i _ => c - (intOf i).toNat)
  case atStart => exact ⟨0, Nat.zero_le _, rfl, rfl, rfl⟩
  case round =>
    obtain ⟨j, hj, rfl, rfl, rfl⟩ := hrel
    by_cases hlt : j < c
    · have g1 : (j : Int) < (c : Int) := by omega
      have hm : tot ln j + ln j ≤ tot ln c := tot_mono ln (show j + 1 ≤ c by omega)
      go_upto_region 4 with fail
      refine wp_region_list ?_
      refine pureL (.pointer (some (p.add j))) rfl (fun w => idxSl 77 23 c c' .i64 p j _ _ Try.underlying77 (fun _ => by kernel_rfl) hlt rfl rfl rfl w) ?_
      simp only [aP, lI, l0, lS]
      refine readL (.slice (sp j) (ln j) (cp j)) rfl (loadSl 23 5 _ (p.add j) _ rfl rfl Try.underlying23 (hin.cell j hlt)) ?_
      simp only [aP, lI, l0, lS]
      refine pureL (.slice (sp j) (ln j) (cp j)) rfl (fun _ => by kernel_rfl) ?_
      simp only [aP, lI, l0, lS]
      show Exit.then _ _ _ _ _
      go_upto_region 5 with fail
      refine wp_region_list ?_
      refine pureL (.int .i64 ((tot ln j : Nat) : Int)) rfl (fun _ => by kernel_rfl) ?_
      simp only [aP, lI, l0, lS]
      refine pureL (.slice (sp j) (ln j) (cp j)) rfl (fun _ => by kernel_rfl) ?_
      simp only [aP, lI, l0, lS]
      refine pureL (.int .i64 ((ln j : Nat) : Int)) rfl (fun w => lenS _ 23 5 (sp j) (ln j) (cp j) rfl Try.underlying23 rfl w) ?_
      simp only [aP, lI, l0, lS]
      refine pureL (.int .i64 ((tot ln (j + 1) : Nat) : Int)) rfl (fun w => addI .i64 _ _ _ _ _ _ _ rfl rfl rfl (by rw [IntKind.wrap_i64]; show _ = ((tot ln j + ln j : Nat) : Int); omega) w) ?_
      simp only [aP, lI, l0, lS]
      refine pureL (.int .i64 ((tot ln (j + 1) : Nat) : Int)) rfl (fun _ => by kernel_rfl) ?_
      simp only [aP, lI, l0, lS]
      show Exit.then _ _ _ _ _
      have g2 : ¬ ((tot ln (j + 1) : Nat) : Int) < 0 := by omega
      clear hm
      go_wp2
      go_roundw
      case rel => exact ⟨j + 1, by omega, rfl, by go_num, trivial⟩
      case measure => simp [intOf]; omega
    · obtain rfl : j = c := by omega
      have g1 : ¬ (j : Int) < (j : Int) := by omega
      clear hlt hj
      go_upto_region 9 with fail
      refine wp_region_list ?_
      refine pureL (.int .i64 ((tot ln j : Nat) : Int)) rfl (fun _ => by kernel_rfl) ?_
      simp only [aP, lI, l0, lS]
      refine callL rfl (fun _ => by kernel_rfl) (grow_any (tot ln j) ht _) ?_
      rintro e w1 ⟨v, rfl, O, hro, hB⟩
      refine ⟨_, rfl, ?_⟩
      simp only [aP, lI, l0, lS]
      refine pureL v rfl (fun _ => by kernel_rfl) ?_
      simp only [aP, lI, l0, lS]
      have HI : CatI w ln zz j 0 v w1 := ⟨O, hro, hB⟩
      clear O hro hB
      show Exit.then _ _ _ _ _
      go_wp2
      go_loopw [6, 27] (fun s i w' => ∃ q : Nat, q ≤ j ∧ i = .int .i64 (q : Int) ∧ CatI w ln zz j q s w') (fun _ i _ => j - (intOf i).toNat)
      case atStart => exact ⟨0, Nat.zero_le _, rfl, HI⟩
      case round =>
        clear HI
        obtain ⟨q, hq, rfl, HI⟩ := hrel
        by_cases hlt : q < j
        · have g2 : (q : Int) < (j : Int) := by omega
          have hm : tot ln q + ln q ≤ tot ln j := tot_mono ln (show q + 1 ≤ j by omega)
          go_upto_region 12 with fail
          refine wp_region_list ?_
          refine pureL (.pointer (some (p.add q))) rfl (fun w => idxSl 77 23 j c' .i64 p q _ _ Try.underlying77 (fun _ => by kernel_rfl) hlt rfl rfl rfl w) ?_
          simp only [aP, lI, l0, lS]
          refine readL (.slice (sp q) (ln q) (cp q)) rfl (loadSl 23 5 _ (p.add q) _ rfl rfl Try.underlying23 ((hin.below HI.below).cell q hlt)) ?_
          simp only [aP, lI, l0, lS]
          refine pureL (.slice (sp q) (ln q) (cp q)) rfl (fun _ => by kernel_rfl) ?_
          simp only [aP, lI, l0, lS]
          show Exit.then _ _ _ _ _
          go_upto_region 13 with fail
          refine wp_region_list ?_
          refine pureL u6 rfl (fun _ => by kernel_rfl) ?_
          simp only [aP, lI, l0, lS]
          refine pureL (.slice (sp q) (ln q) (cp q)) rfl (fun _ => by kernel_rfl) ?_
          simp only [aP, lI, l0, lS]
          obtain ⟨v', w2, hr, O, hg, hv, _⟩ := run_append_Room (P := Try.prog) (ty := 23) Try.underlying23 one8 HI.own (sp q) (ln q) (cp q) (zz q) ((hin.below HI.below).src q hlt) (hin.nil q hlt) (Nat.le_trans hm HI.room)
          refine actL _ rfl (appendOp _ _ 23 _ _ _ rfl rfl rfl hr) ?_
          simp only [aP, lI, l0, lS]
          refine pureL v' rfl (fun _ => by kernel_rfl) ?_
          simp only [aP, lI, l0, lS]
          have HS := show Hid _ from (show CatI w ln zz j (q + 1) v' w2 from ⟨O, by rw [hv]; exact HI.room, Below.grown HI.below hg HI.below.size (fun b hb => (World.ownsRow.lt HI.own b hb).1)⟩)
          clear O hg hv hr HI hm
          show Exit.inBlock _ _ _ _ _
          go_wp2
          go_roundw
          case rel => first | exact ⟨q + 1, by omega, by go_num, HS.out⟩ | ((repeat apply Exists.intro); refine ⟨⟨q + 1, by omega, ?_, HS.out⟩, rfl⟩ <;> first | rfl | go_num)
          case measure => simp [intOf]; omega
        · obtain rfl : q = j := by omega
          have g2 : ¬ (q : Int) < (q : Int) := by omega
          have HS := show Hid _ from HI
          clear HI hlt hq
          go_wp2
          go_ret
          exact ⟨_, rfl, HS.out.own, HS.out.below⟩
end Go.Proofs.Yteaamgjlkohfcaa

namespace Go.Proofs.Yteaamgjlkohfcaa
open Go.RowKit

/-- Part of a row is written anew. -/
theorem Kr.part {w w' : World} {m : Nat} {l : List (Nat × IntKind × Nat × (Nat → Int))} {R : List (Nat × Nat)} (h : Kr w m l R w') (l' : List (Nat × IntKind × Nat × (Nat → Int))) (b : Nat) (k : IntKind) (n : Nat) (f : Nat → Int) (o q : Nat) (ho : o + q ≤ n) (g : Nat → Int) (hp : (b, k, n, f) ∈ l) (hl : ∀ p ∈ l', p ∈ l) (hne : ∀ p ∈ l', p.1 ≠ b) (hlo : w.heap.size ≤ b) :
    Kr w m ((b, k, n, over f o q g) :: l') R (w'.setCells b o (row k q g)) :=
  ((h.loose l' b k n f hp hl hne hlo).poke b n List.mem_cons_self o _).settle R b k n _ List.mem_cons_self (fun _ hq => List.mem_cons_of_mem _ hq) (fun q hq => (h.apart _ hp q hq).symm) ((h.get _ _ _ _ hp).part o q ho g)
theorem Kr.headC {w w' : World} {m : Nat} {l : List (Nat × IntKind × Nat × (Nat → Int))} {R : List (Nat × Nat)} {b : Nat} {k : IntKind} {n : Nat} {f : Nat → Int} (h : Kr w m ((b, k, n, f) :: l) R w') (g : Nat → Int) (e : ∀ j, j < n → f j = g j) : Kr w m ((b, k, n, g) :: l) R w' :=
  ⟨fun p hp => by
    rcases List.mem_cons.1 hp with rfl | hp
    · exact ⟨(h.rows _ List.mem_cons_self).1.congr e, (h.rows _ List.mem_cons_self).2⟩
    · exact h.rows p (List.mem_cons_of_mem _ hp), h.room, fun p hp q hq => by
    rcases List.mem_cons.1 hp with rfl | hp
    · exact h.apart _ List.mem_cons_self q hq
    · exact h.apart p (List.mem_cons_of_mem _ hp) q hq, h.size, h.base, h.below⟩
/-- One of three. -/
def pk3 {α : Type} (a b c : α) : Nat → α
  | 0 => a
  | 1 => b
  | _ => c
theorem tot3 (a b c : Nat) : tot (pk3 a b c) 3 = a + b + c := by show 0 + a + b + c = _; omega
theorem catIn3 {w : World} (C : Nat) (p1 p2 p3 : Option Addr) (l1 l2 l3 c1 c2 c3 : Nat) (z1 z2 z3 : Nat → Int) (t : TypeId) (hC : C = w.heap.size) (h1 : Src w p1 l1 z1) (h2 : Src w p2 l2 z2) (h3 : Src w p3 l3 z3) (n1 : p1 = none → c1 = 0) (n2 : p2 = none → c2 = 0) (n3 : p3 = none → c3 = 0) :
    CatIn (w.alloc (.cells #[.slice p1 l1 c1, .slice p2 l2 c2, .slice p3 l3 c3] t)) ⟨C, 0, none⟩ 3 (pk3 p1 p2 p3) (pk3 l1 l2 l3) (pk3 c1 c2 c3) (pk3 z1 z2 z3) := by
  have hb := (Below.refl w.heap.size w).alloc (Nat.le_refl _) (.cells #[.slice p1 l1 c1, .slice p2 l2 c2, .slice p3 l3 c3] t)
  refine ⟨fun j hj => ?_, fun j hj => ?_, fun j hj => ?_⟩
  · rw [Addr.add_mid, World.cell?_alloc_at _ _ _ _ hC]
    match j, hj with
    | 0, _ | 1, _ | 2, _ => rfl
    | _ + 3, h => omega
  · match j, hj with
    | 0, _ => exact h1.below hb (Nat.le_refl _)
    | 1, _ => exact h2.below hb (Nat.le_refl _)
    | 2, _ => exact h3.below hb (Nat.le_refl _)
    | _ + 3, h => omega
  · match j, hj with
    | 0, _ => exact n1
    | 1, _ => exact n2
    | 2, _ => exact n3
    | _ + 3, h => omega
end Go.Proofs.Yteaamgjlkohfcaa

namespace Go.Proofs.Yteaamgjlkohfcaa
open Go.RowKit

theorem or_low (x d : Nat) (hd : d < 256) (hx : x * 256 < 9223372036854775808) : bits .or .i64 ((x * 256 : Nat) : Int) (d : Int) = ((x * 256 + d : Nat) : Int) := by
  have h1 : (BitVec.ofInt 64 ((x * 256 : Nat) : Int)).toNat = x * 256 := by rw [BitVec.toNat_ofInt]; omega
  have h2 : (BitVec.ofInt 64 ((d : Nat) : Int)).toNat = d := by rw [BitVec.toNat_ofInt]; omega
  have h3 : x * 256 ||| d = x * 256 + d := by
    have := Nat.two_pow_add_eq_or_of_lt (i := 8) (b := d) (by omega) x
    rw [show (2 : Nat) ^ 8 = 256 from rfl, Nat.mul_comm] at this
    exact this.symm
  show IntKind.i64.wrap ((BitVec.ofInt 64 ((x * 256 : Nat) : Int) ||| BitVec.ofInt 64 ((d : Nat) : Int)).toNat : Nat) = _
  rw [BitVec.toNat_or, h1, h2, h3, IntKind.wrap_i64]
  omega
theorem or_high (x k : Nat) (hx : x < 64) (hk : k ≤ 3) : bits .or .u8 (x : Int) ((k * 64 : Nat) : Int) = ((x + k * 64 : Nat) : Int) := by
  rw [u8_or_nat x (k * 64) (by omega) (by omega)]
  have := Nat.two_pow_add_eq_or_of_lt (i := 6) (b := x) (by omega) k
  rw [show (2 : Nat) ^ 6 = 64 from rfl, Nat.mul_comm] at this
  rw [Nat.or_comm, ← this, Nat.add_comm]
theorem i64_and63 (n : Int) : bits .and .i64 n 63 = n % 64 := by
  have h63 : (BitVec.ofInt 64 63).toNat = 2 ^ 6 - 1 := by decide
  have key : (BitVec.ofInt 64 n &&& BitVec.ofInt 64 63).toNat = (n % ((2 ^ 64 : Nat) : Int)).toNat % 2 ^ 6 := by
    rw [BitVec.toNat_and, BitVec.toNat_ofInt, h63, Nat.and_two_pow_sub_one_eq_mod]
  show IntKind.i64.wrap ((BitVec.ofInt 64 n &&& BitVec.ofInt 64 63).toNat : Nat) = n % 64
  rw [key, IntKind.wrap_i64]
  omega
theorem eqlNil {P : Program} {o : Oper} {a : Act} (t e t' : TypeId) (x y : Operand) (sp : Option Addr) (n c : Nat) (b : Bool) (ho : o.op = .binOp .eql t x y t') (hx : a.eval x = .slice sp n c) (hy : a.eval y = .slice none 0 0) (hu : P.underlying t = some (.slice e)) (hb : sp.isNone = b) (w : World) :
    (execOp a.eval o).run P w = .ok (.value (.bool b)) w := by
  subst hb
  unfold execOp
  have e1 : (eqGuard .eql t x y (.slice sp n c) (.slice none 0 0)).run P w = .ok () w := rfl
  simp only [ho, hx, hy, Sem.run_bind, e1, Lib.run_eql_slice_nil w t e sp n c 0 0 hu, Sem.run_pure, Result.andThen_ok]
theorem fby_tail (n s j : Nat) (hs : s ≤ 8) (hj : j < s) : fby n 8 (8 - s + j) = fby n s j := by
  unfold fby
  rw [show 8 - 1 - (8 - s + j) = s - 1 - j by omega]
theorem idx8 (b i : Nat) (hi : i < 8) (w : World) {o : Oper} {a : Act} (x y : Operand) (ho : o.op = .indexAddr 24 x y) (hx : a.eval x = .pointer (some ⟨b, 0, none⟩)) (hy : a.eval y = .int .i64 (i : Int)) :
    (execOp a.eval o).run Try.prog w = .ok (.value (.pointer (some ⟨b, i, none⟩))) w := by
  have h := idxArr (P := Try.prog) 24 5 8 .i64 b 0 i x y Try.underlying24 (fun _ => by kernel_rfl) hi ho hx hy w
  rw [Nat.zero_add] at h
  exact h
theorem cut8 (b s : Nat) (hs : 1 ≤ s ∧ s ≤ 8) (w : World) : (Instr.sliceAt 24 (.pointer (some ⟨b, 0, none⟩)) (some (.int .i64 ((8 - s : Nat) : Int))) none none).run Try.prog w = .ok (.slice (some ⟨b, 8 - s, none⟩) s s) w := by
  have hl : Try.prog.arrayLen 24 = 8 := by kernel_rfl
  have hz : ∀ w, (sizeOf (Try.prog.elem 24)).run Try.prog w = .ok 1 w := fun w => by kernel_rfl
  rw [run_sliceAt_array_l w 24 ⟨b, 0, none⟩ (by kernel_rfl) .i64 _ (by omega) (by rw [hl]; omega), hz, hl]
  simp only [Result.andThen, slicedAt]
  rw [Int.toNat_natCast, if_neg (by omega), Addr.add_mid, Nat.zero_add, Nat.mul_one, show 8 - (8 - s) = s by omega]

set_option maxRecDepth 10000 in
set_option maxHeartbeats 8000000 in
theorem tell_any (n : Nat) (w : World) : Calls Try.prog 51 #[.int .i64 (n : Int)] w fun e w' => e = .returned (.int .i64 ((vkd (vsz n) : Nat) : Int)) ∧ Below w.heap.size w w' := by
  have hB := Below.refl w.heap.size w
  rcases vsz_cases n with ⟨e, h1⟩ | ⟨e, h1, h2⟩ | ⟨e, h1, h2⟩ | ⟨e, h1⟩ <;> rw [e]
  · have g1 : (n : Int) < 64 := by omega
    go_enter Try.func51, Try.ntmps51
    go_wp2
    go_ret
    exact ⟨rfl, hB⟩
  · have g1 : ¬ (n : Int) < 64 := by omega
    have g2 : (n : Int) < 16384 := by omega
    go_enter Try.func51, Try.ntmps51
    go_wp2
    go_ret
    exact ⟨rfl, hB⟩
  · have g1 : ¬ (n : Int) < 64 := by omega
    have g2 : ¬ (n : Int) < 16384 := by omega
    have g3 : (n : Int) < 1073741824 := by omega
    go_enter Try.func51, Try.ntmps51
    go_wp2
    go_ret
    exact ⟨rfl, hB⟩
  · have g1 : ¬ (n : Int) < 64 := by omega
    have g2 : ¬ (n : Int) < 16384 := by omega
    have g3 : ¬ (n : Int) < 1073741824 := by omega
    go_enter Try.func51, Try.ntmps51
    go_wp2
    go_ret
    exact ⟨rfl, hB⟩

set_option maxRecDepth 10000 in
set_option maxHeartbeats 8000000 in
theorem lowest_any (n s : Nat) (hs : 1 ≤ s ∧ s ≤ 8) (w : World) :
    Calls Try.prog 52 #[.int .i64 (n : Int), .int .i64 (s : Int)] w fun e w' => e = .returned (.slice (some ⟨w.heap.size, 8 - s, none⟩) s s) ∧ Kr w (w.heap.size + 1) [(w.heap.size, .u8, 8, fby n 8)] [] w' := by
  go_enter Try.func52, Try.ntmps52
  go_upto_region 1 with fail
  refine wp_region_list ?_
  refine allocL (row .u8 8 (fun _ => 0)).toArray 24 rfl (fun _ => by kernel_rfl) ?_
  simp only [aP, lI, l0, lS]
  have K := (Kr.init w).box .u8 8 (fun _ => 0) 24 w.heap.size rfl
  generalize w.alloc (.cells (row .u8 8 (fun _ => 0)).toArray 24) = w1 at K ⊢
  show Exit.then _ _ _ _ _
  go_wp2
  go_loopw [7] (fun i w' => ∃ (m : Nat) (f : Nat → Int), m ≤ 8 ∧ i = .int .i64 (m : Int) ∧ Kr w (w.heap.size + 1) [(w.heap.size, .u8, 8, f)] [] w' ∧ ∀ j, 8 - m ≤ j → j < 8 → f j = fby n 8 j) (fun i _ => 8 - (intOf i).toNat)
  case atStart => exact ⟨0, _, by omega, rfl, K, fun j h1 h2 => by omega⟩
  case round =>
    clear K
    obtain ⟨m, f, hm, rfl, K, hd⟩ := hrel
    have g1 : (0 : Int) ≤ (m : Int) := by omega
    by_cases hlt : m < 8
    · have g2 : (m : Int) < 8 := by omega
      have h7 : 7 - m < 8 := by omega
      go_upto_region 5 with fail
      refine wp_region_list ?_
      refine pureL (.int .i64 (m : Int)) rfl (fun _ => by kernel_rfl) ?_
      simp only [aP, lI, l0, lS]
      refine pureL (.int .i64 ((7 - m : Nat) : Int)) rfl (fun w => subI .i64 _ _ _ _ _ _ _ rfl rfl rfl (by rw [IntKind.wrap_i64]; omega) w) ?_
      simp only [aP, lI, l0, lS]
      refine pureL (.int .i64 (n : Int)) rfl (fun _ => by kernel_rfl) ?_
      simp only [aP, lI, l0, lS]
      refine pureL (.int .i64 (m : Int)) rfl (fun _ => by kernel_rfl) ?_
      simp only [aP, lI, l0, lS]
      refine pureL (.int .i64 ((8 * m : Nat) : Int)) rfl (fun w => mulI .i64 _ _ _ _ _ _ _ rfl rfl rfl (by rw [IntKind.wrap_i64]; omega) w) ?_
      simp only [aP, lI, l0, lS]
      refine pureL (.int .i64 ((n / 256 ^ m : Nat) : Int)) rfl (fun w => shrI .i64 .i64 _ _ _ _ _ _ _ rfl rfl rfl (by omega) (shr_byte n m (by omega)) w) ?_
      simp only [aP, lI, l0, lS]
      refine pureL (.int .u8 (fby n 8 (7 - m))) rfl (fun w => convI .i64 .u8 _ _ _ _ _ rfl (by kernel_rfl) Try.underlying5 (by kernel_rfl) rfl (by rw [IntKind.wrap_u8']; unfold fby; rw [show 8 - 1 - (7 - m) = m by omega]; omega) w) ?_
      simp only [aP, lI, l0, lS]
      refine pureL (.pointer (some ⟨w.heap.size, 7 - m, none⟩)) rfl (fun w' => idx8 (w.heap.size) (7 - m) h7 w' _ _ rfl rfl rfl) ?_
      simp only [aP, lI, l0, lS]
      refine storeL .u8 (fby n 8 (7 - m)) (w.heap.size) (7 - m) 5 _ _ rfl rfl rfl rfl (by rw [(K.get _ _ _ _ List.mem_cons_self).cell (7 - m) h7]; rfl) ((K.get _ _ _ _ List.mem_cons_self).free (7 - m) h7) (by kernel_rfl) ?_
      simp only [Act.put]
      replace K := K.setCell [] (w.heap.size) .u8 8 f (7 - m) h7 (fby n 8 (7 - m)) List.mem_cons_self (fun _ hp => by cases hp) (fun _ hp => by cases hp) (Nat.le_refl _)
      have HS := show Hid _ from (And.intro K (show ∀ j, 8 - (m + 1) ≤ j → j < 8 → upd f (7 - m) (fby n 8 (7 - m)) j = fby n 8 j from fun j h1 h2 => by
        by_cases e : j = 7 - m
        · subst e; rw [upd_same]
        · rw [upd_other _ _ _ _ e]; exact hd j (by omega) h2))
      clear K hd
      generalize wr.setCell ⟨w.heap.size, 7 - m, none⟩ (.int .u8 (fby n 8 (7 - m))) = w4 at HS ⊢
      generalize upd f (7 - m) (fby n 8 (7 - m)) = f' at HS
      show Exit.inBlock _ _ _ _ _
      go_wp2
      go_roundw
      case rel => first | exact ⟨m + 1, f', by omega, by go_num, HS.out⟩ | ((repeat apply Exists.intro); refine ⟨⟨m + 1, f', by omega, by go_num, HS.out⟩, rfl⟩)
      case measure => simp [intOf]; omega
    · obtain rfl : m = 8 := by omega
      replace K := K.headC (fby n 8) (fun j hj => hd j (by omega) hj)
      clear hd hlt hm g1
      go_upto_region 7 with fail
      refine wp_region_list ?_
      refine pureL (.int .i64 (s : Int)) rfl (fun _ => by kernel_rfl) ?_
      simp only [aP, lI, l0, lS]
      refine pureL (.int .i64 ((8 - s : Nat) : Int)) rfl (fun w => subI .i64 _ _ _ _ _ _ _ rfl rfl rfl (by rw [IntKind.wrap_i64]; omega) w) ?_
      simp only [aP, lI, l0, lS]
      refine pureL (.slice (some ⟨w.heap.size, 8 - s, none⟩) s s) rfl (fun w' => cutOp _ _ _ _ _ _ rfl rfl rfl (cut8 (w.heap.size) s hs w')) ?_
      simp only [aP, lI, l0, lS]
      refine pureL (.slice (some ⟨w.heap.size, 8 - s, none⟩) s s) rfl (fun _ => by kernel_rfl) ?_
      simp only [aP, lI, l0, lS]
      show Exit.then _ _ _ _ _
      go_wp2
      go_ret
      exact ⟨rfl, K⟩

set_option maxRecDepth 10000 in
set_option maxHeartbeats 8000000 in
theorem least_any (n : Nat) (hn : n < 4611686018427387904) (w : World) :
    Calls Try.prog 41 #[.int .i64 (n : Int)] w fun e w' => ∃ B, e = .returned (.slice (some ⟨B, 8 - vsz n, none⟩) (vsz n) (vsz n)) ∧ Src w' (some ⟨B, 8 - vsz n, none⟩) (vsz n) (vby n) ∧ Below w.heap.size w w' := by
  have h4 := vsz_four n
  have hp := vkd_pow _ h4
  have hK8 := vsz_le n
  have ht := vtop n hn
  have hv0 := vby_first n hn
  have hvj : ∀ j, j ≠ 0 → vby n j = fby n (vsz n) j := fun j hj => by unfold vby; rw [if_neg hj, Int.add_zero]
  go_enter Try.func41, Try.ntmps41
  go_upto_region 1 with fail
  refine wp_region_list ?_
  refine pureL (.int .i64 (n : Int)) rfl (fun _ => by kernel_rfl) ?_
  simp only [aP, lI, l0, lS]
  refine callL rfl (fun _ => by kernel_rfl) (tell_any n _) ?_
  rintro e w1 ⟨rfl, hB⟩
  refine ⟨_, rfl, ?_⟩
  simp only [aP, lI, l0, lS]
  generalize hKe : vsz n = K at *
  refine pureL (.int .i64 (((vkd K) : Nat) : Int)) rfl (fun _ => by kernel_rfl) ?_
  simp only [aP, lI, l0, lS]
  show Exit.then _ _ _ _ _
  go_upto_region 2 with fail
  refine wp_region_list ?_
  refine pureL (.int .i64 (n : Int)) rfl (fun _ => by kernel_rfl) ?_
  simp only [aP, lI, l0, lS]
  refine pureL (.int .i64 (((vkd K) : Nat) : Int)) rfl (fun _ => by kernel_rfl) ?_
  simp only [aP, lI, l0, lS]
  refine pureL (.int .i64 ((K : Nat) : Int)) rfl (fun w => shlI .i64 .i64 _ _ _ _ _ _ _ rfl rfl rfl (by omega) (by rw [shl_one (vkd K) hp.2, hp.1]) w) ?_
  simp only [aP, lI, l0, lS]
  refine callL rfl (fun _ => by kernel_rfl) (lowest_any n K hK8 _) ?_
  rintro e w2 ⟨rfl, R⟩
  refine ⟨_, rfl, ?_⟩
  simp only [aP, lI, l0, lS]
  refine pureL (.slice (some ⟨w1.heap.size, 8 - K, none⟩) K K) rfl (fun _ => by kernel_rfl) ?_
  simp only [aP, lI, l0, lS]
  show Exit.then _ _ _ _ _
  have h8 : 8 - K < 8 := by omega
  have hx0 : fby n 8 (8 - K) = (((n / 256 ^ (K - 1)) : Nat) : Int) := by
    unfold fby
    rw [show 8 - 1 - (8 - K) = K - 1 by omega, Nat.mod_eq_of_lt (by omega)]
  go_upto_region 3 with fail
  refine wp_region_list ?_
  refine pureL (.slice (some ⟨w1.heap.size, 8 - K, none⟩) K K) rfl (fun _ => by kernel_rfl) ?_
  simp only [aP, lI, l0, lS]
  refine pureL (.pointer (some ⟨w1.heap.size, 8 - K, none⟩)) rfl (fun w => idxSl 23 5 K K .i64 ⟨w1.heap.size, 8 - K, none⟩ 0 _ _ Try.underlying23 (fun _ => by kernel_rfl) (by omega) rfl rfl rfl w) ?_
  simp only [aP, lI, l0, lS]
  refine cellL .u8 (.int .u8 (((n / 256 ^ (K - 1)) : Nat) : Int)) w1.heap.size (8 - K) 5 _ rfl rfl rfl Try.underlying5 (by rw [← hx0]; exact (R.get _ _ _ _ List.mem_cons_self).cell (8 - K) h8) ?_
  simp only [aP, lI, l0, lS]
  refine pureL (.int .i64 (((vkd K) : Nat) : Int)) rfl (fun _ => by kernel_rfl) ?_
  simp only [aP, lI, l0, lS]
  refine pureL (.int .i64 (((vkd K) * 64 : Nat) : Int)) rfl (fun w => shlI .i64 .u64 _ _ _ _ _ _ _ rfl rfl rfl (by omega) (by rw [IntKind.wrap_i64, show min (6 : Int).toNat IntKind.i64.bits = 6 from rfl]; omega) w) ?_
  simp only [aP, lI, l0, lS]
  refine pureL (.int .u8 (((vkd K) * 64 : Nat) : Int)) rfl (fun w => convI .i64 .u8 _ _ _ _ _ rfl (by kernel_rfl) Try.underlying5 (by kernel_rfl) rfl (by rw [IntKind.wrap_u8']; omega) w) ?_
  simp only [aP, lI, l0, lS]
  refine pureL (.int .u8 (((n / 256 ^ (K - 1)) + (vkd K) * 64 : Nat) : Int)) rfl (fun w => vorI .u8 _ _ _ _ _ _ _ rfl rfl rfl (or_high (n / 256 ^ (K - 1)) (vkd K) ht hp.2) w) ?_
  simp only [aP, lI, l0, lS]
  refine pureL (.pointer (some ⟨w1.heap.size, 8 - K, none⟩)) rfl (fun w => idxSl 23 5 K K .i64 ⟨w1.heap.size, 8 - K, none⟩ 0 _ _ Try.underlying23 (fun _ => by kernel_rfl) (by omega) rfl rfl rfl w) ?_
  simp only [aP, lI, l0, lS]
  refine storeL .u8 (((n / 256 ^ (K - 1)) + (vkd K) * 64 : Nat) : Int) w1.heap.size (8 - K) 5 _ _ rfl rfl rfl rfl (by rw [(R.get _ _ _ _ List.mem_cons_self).cell (8 - K) h8]; rfl) ((R.get _ _ _ _ List.mem_cons_self).free (8 - K) h8) (by kernel_rfl) ?_
  simp only [Act.put]
  replace R := R.setCell [] w1.heap.size .u8 8 (fby n 8) (8 - K) h8 (((n / 256 ^ (K - 1)) + (vkd K) * 64 : Nat) : Int) List.mem_cons_self (fun _ hp => by cases hp) (fun _ hp => by cases hp) (Nat.le_refl _)
  generalize w2.setCell ⟨w1.heap.size, 8 - K, none⟩ (.int .u8 (((n / 256 ^ (K - 1)) + (vkd K) * 64 : Nat) : Int)) = w3 at R ⊢
  have hS : Src w3 (some ⟨w1.heap.size, 8 - K, none⟩) K (vby n) := ((R.get _ _ _ _ List.mem_cons_self).src (8 - K) K (by omega)).congr fun j hj => by
    by_cases e : j = 0
    · subst e; rw [Nat.add_zero, upd_same, hv0, Nat.mul_comm 64]
    · rw [upd_other _ _ _ _ (by omega), hvj j e, fby_tail n K j (by omega) hj]
  replace hB := hB.trans (R.below.mono hB.size)
  clear R hx0 hv0 hvj ht hp h4
  show Exit.then _ _ _ _ _
  go_upto_region 4 with fail
  refine wp_region_list ?_
  refine pureL (.slice (some ⟨w1.heap.size, 8 - K, none⟩) K K) rfl (fun _ => by kernel_rfl) ?_
  simp only [aP, lI, l0, lS]
  refine pureL (.slice (some ⟨w1.heap.size, 8 - K, none⟩) K K) rfl (fun _ => by kernel_rfl) ?_
  simp only [aP, lI, l0, lS]
  show Exit.then _ _ _ _ _
  go_wp2
  go_ret
  exact ⟨w1.heap.size, by rw [hKe]; rfl, by rw [hKe]; exact hS, hB⟩

/-- The number of the bytes h and, behind it, the first of z. -/
def jV (h : Int) (z : Nat → Int) : Nat → Int
  | 0 => h
  | i + 1 => jV h z i * 256 + z i
theorem jV_in (h : Int) (hh : 0 ≤ h ∧ h < 64) (z : Nat → Int) (m : Nat) (hz : In 256 m z) : ∀ i, i ≤ m → 0 ≤ jV h z i ∧ jV h z i < 64 * 256 ^ i
  | 0, _ => by show 0 ≤ h ∧ h < 64 * 256 ^ 0; omega
  | i + 1, hi => by
    have h1 := jV_in h hh z m hz i (by omega)
    have h2 := hz i (by omega)
    show 0 ≤ jV h z i * 256 + z i ∧ jV h z i * 256 + z i < 64 * 256 ^ (i + 1)
    rw [Int.pow_succ]
    omega
theorem jV_one (z : Nat → Int) : ∀ i, jV (z 0 % 64) (fun j => z (1 + j)) i = tV z i
  | 0 => rfl
  | i + 1 => by
    show jV (z 0 % 64) (fun j => z (1 + j)) i * 256 + z (1 + i) = tV z (i + 1)
    rw [jV_one z i, Nat.add_comm 1 i]
    rfl

set_option maxRecDepth 10000 in
set_option maxHeartbeats 8000000 in
theorem join_any (h : Int) (hh : 0 ≤ h ∧ h < 64) (sp : Option Addr) (len cap : Nat) (hl : len ≤ 7) (z : Nat → Int) (hz : In 256 len z) (w : World) (hs : Src w sp len z) :
    Calls Try.prog 62 #[.int .i64 h, .slice sp len cap] w fun e w' => e = .returned (.int .i64 (jV h z len)) ∧ Below w.heap.size w w' := by
  have hB := Below.refl w.heap.size w
  go_enter Try.func62, Try.ntmps62
  go_upto_region 1 with fail
  refine wp_region_list ?_
  refine pureL (.slice sp len cap) rfl (fun _ => by kernel_rfl) ?_
  simp only [aP, lI, l0, lS]
  refine pureL (.int .i64 (len : Int)) rfl (fun w => lenS _ 23 5 (sp) (len) (cap) rfl Try.underlying23 rfl w) ?_
  simp only [aP, lI, l0, lS]
  refine pureL (.int .i64 0) rfl (fun _ => by kernel_rfl) ?_
  simp only [aP, lI, l0, lS]
  show Exit.then _ _ _ _ _
  go_wp2
  go_loopw [0, 9] (fun hw i w' => ∃ m : Nat, m ≤ len ∧ hw = .int .i64 (jV h z m) ∧ i = .int .i64 (m : Int) ∧ w = w') (fun _ i _ => len - (intOf i).toNat)
  case atStart => exact ⟨0, Nat.zero_le _, rfl, rfl, rfl⟩
  case round =>
    obtain ⟨m, hm, rfl, rfl, rfl⟩ := hrel
    by_cases hlt : m < len
    · have g1 : (m : Int) < (len : Int) := by omega
      obtain ⟨ad, rfl, hc⟩ := hs m hlt
      have hzm := hz m hlt
      have hj := jV_in h hh z len hz m hm
      have hj2 : jV h z m < 18014398509481984 := by
        have h6 : (256 : Nat) ^ m ≤ 256 ^ 6 := Nat.pow_le_pow_right (by decide) (by omega)
        have e6 : (256 : Nat) ^ 6 = 281474976710656 := by decide
        have e7 : ((256 ^ m : Nat) : Int) = (256 : Int) ^ m := by norm_cast
        omega
      obtain ⟨x, hx⟩ := Int.eq_ofNat_of_zero_le hj.1
      obtain ⟨d, hd⟩ := Int.eq_ofNat_of_zero_le hzm.1
      have hor : bits .or .i64 (jV h z m * 256) (z m) = jV h z (m + 1) := by
        show _ = jV h z m * 256 + z m
        rw [hx, hd, show ((x : Nat) : Int) * 256 = ((x * 256 : Nat) : Int) by omega, or_low x d (by omega) (by omega)]
        omega
      go_upto_region 3 with fail
      refine wp_region_list ?_
      refine pureL (.pointer (some (ad.add m))) rfl (fun w => idxSl 23 5 len cap .i64 ad m _ _ Try.underlying23 (fun _ => by kernel_rfl) hlt rfl rfl rfl w) ?_
      simp only [aP, lI, l0, lS]
      refine readL (.int .u8 (z m)) rfl (loadAny 5 .u8 _ (ad.add m) _ rfl rfl Try.underlying5 hc) ?_
      simp only [aP, lI, l0, lS]
      refine pureL (.int .u8 (z m)) rfl (fun _ => by kernel_rfl) ?_
      simp only [aP, lI, l0, lS]
      show Exit.then _ _ _ _ _
      go_upto_region 4 with fail
      refine wp_region_list ?_
      refine pureL (.int .i64 (jV h z m)) rfl (fun _ => by kernel_rfl) ?_
      simp only [aP, lI, l0, lS]
      refine pureL (.int .i64 (jV h z m * 256)) rfl (fun w => shlI .i64 .u64 _ _ _ _ _ _ _ rfl rfl rfl (by omega) (by rw [IntKind.wrap_i64, show min (8 : Int).toNat IntKind.i64.bits = 8 from rfl]; omega) w) ?_
      simp only [aP, lI, l0, lS]
      refine pureL (.int .u8 (z m)) rfl (fun _ => by kernel_rfl) ?_
      simp only [aP, lI, l0, lS]
      refine pureL (.int .i64 (z m)) rfl (fun w => convI .u8 .i64 _ _ _ _ _ rfl (by kernel_rfl) Try.underlying3 (by kernel_rfl) rfl (by rw [IntKind.wrap_i64]; omega) w) ?_
      simp only [aP, lI, l0, lS]
      refine pureL (.int .i64 (jV h z (m + 1))) rfl (fun w => vorI .i64 _ _ _ _ _ _ _ rfl rfl rfl hor w) ?_
      simp only [aP, lI, l0, lS]
      refine pureL (.int .i64 (jV h z (m + 1))) rfl (fun _ => by kernel_rfl) ?_
      simp only [aP, lI, l0]
      clear hor hx hd hj hj2
      show Exit.inBlock _ _ _ _ _
      go_wp2
      go_roundw
      case rel => first | exact ⟨m + 1, by omega, rfl, by go_num, trivial⟩ | ((repeat apply Exists.intro); refine ⟨⟨m + 1, by omega, rfl, by go_num, trivial⟩, rfl⟩)
      case measure => simp [intOf]; omega
    · obtain rfl : m = len := by omega
      have g1 : ¬ (m : Int) < (m : Int) := by omega
      clear hlt hm
      go_wp2
      go_ret
      exact ⟨rfl, hB⟩

set_option maxRecDepth 10000 in
set_option maxHeartbeats 8000000 in
theorem clone_any (sp : Option Addr) (len cap : Nat) (hlen : len ≤ 140737488351240) (hc : len ≤ cap) (hnil : sp = none → cap = 0) (z : Nat → Int) (w : World) (hs : Src w sp len z) :
    Calls Try.prog 59 #[.slice sp len cap] w fun e w' => ∃ v, e = .returned v ∧ Own w' w.heap.size 5 .u8 len z v ∧ Below w.heap.size w w' := by
  have hB := Below.refl w.heap.size w
  cases sp with
  | none =>
    obtain rfl : len = 0 := by have := hnil rfl; omega
    obtain rfl := hnil rfl
    go_enter Try.func59, Try.ntmps59
    go_upto_region 1 with fail
    refine wp_region_list ?_
    refine pureL (.slice none 0 0) rfl (fun _ => by kernel_rfl) ?_
    simp only [aP, lI, l0, lS]
    refine pureL (.bool true) rfl (fun w => eqlNil 23 5 _ _ _ none 0 0 true rfl rfl rfl Try.underlying23 rfl w) ?_
    simp only [aP, lI, l0, lS]
    show Exit.then _ _ _ _ _
    go_wp2
    go_ret
    exact ⟨_, rfl, World.ownsRow_nil w _ _ 1, hB⟩
  | some ad =>
    go_enter Try.func59, Try.ntmps59
    go_upto_region 1 with fail
    refine wp_region_list ?_
    refine pureL (.slice (some ad) len cap) rfl (fun _ => by kernel_rfl) ?_
    simp only [aP, lI, l0, lS]
    refine pureL (.bool false) rfl (fun w => eqlNil 23 5 _ _ _ (some ad) len cap false rfl rfl rfl Try.underlying23 rfl w) ?_
    simp only [aP, lI, l0, lS]
    show Exit.then _ _ _ _ _
    go_upto_region 3 with fail
    refine wp_region_list ?_
    refine actL (w' := w.alloc (.cells #[] 5)) (.slice (some ⟨w.heap.size, 0, none⟩) 0 0) rfl (by kernel_rfl) ?_
    simp only [aP, lI, l0, lS]
    refine pureL (.slice (some ad) len cap) rfl (fun _ => by kernel_rfl) ?_
    simp only [aP, lI, l0, lS]
    have hb1 := (Below.refl w.heap.size w).alloc (Nat.le_refl _) (.cells #[] 5)
    obtain ⟨v, w2, hr, ho, hgr, _⟩ := run_append_Own (P := Try.prog) (ty := 23) Try.underlying23 one8 (Own.lit w w.heap.size 5 .u8 0 (fun _ => 0) (Nat.le_refl _) (by unfold maxLen; omega)) (some ad) (len) (cap) (z) ((hs).below hb1 (Nat.le_refl _)) (fun e => by cases e) (by unfold maxLen; omega) (by omega) hb1.size
    have hb2 := hb1.grown hgr hb1.size (fun b hb => by injection hb with hb; simp only at hb; omega)
    refine actL v rfl (appendOp _ _ 23 _ _ _ rfl rfl rfl hr) ?_
    simp only [aP, lI, l0, lS]
    have hO : Own w2 w.heap.size 5 .u8 (len) (z) v := by
      rw [Nat.zero_add] at ho
      exact ho.congr fun j _ => by unfold app; rw [if_neg (Nat.not_lt_zero j), Nat.sub_zero]
    clear hr ho hgr hb1
    refine pureL v rfl (fun _ => by kernel_rfl) ?_
    simp only [aP, lI, l0, lS]
    show Exit.then _ _ _ _ _
    go_wp2
    go_ret
    exact ⟨_, rfl, hO, hb2⟩
end Go.Proofs.Yteaamgjlkohfcaa

namespace Go.Proofs.Yteaamgjlkohfcaa
open Go.RowKit

/-- What is left of a text, in a place of its own. -/
structure Tp (w0 : World) (B len : Nat) (z : Nat → Int) (w : World) : Prop where
  lo : w0.heap.size ≤ B
  hi : B < w.heap.size
  cell : ∃ sp cap, w.cell? ⟨B, 0, none⟩ = some (.slice sp len cap) ∧ len ≤ cap ∧ (sp = none → cap = 0) ∧ Src w0 sp len z
  free : w.frozen? ⟨B, 0, none⟩ = false
  below : Below w0.heap.size w0 w
theorem Tp.call {w0 w w' : World} {B len : Nat} {z : Nat → Int} (h : Tp w0 B len z w) (l : Below w.heap.size w w') : Tp w0 B len z w' := by
  obtain ⟨lo, hi, ⟨sp, cap, h1, h2⟩, hf, hb⟩ := h
  exact ⟨lo, Nat.lt_of_lt_of_le hi l.size, ⟨sp, cap, by rw [l.cell (p := ⟨B, 0, none⟩) hi]; exact h1, h2⟩, by rw [l.frozen (p := ⟨B, 0, none⟩) hi]; exact hf, hb.trans (l.mono hb.size)⟩
theorem Tp.set {w0 w : World} {B len : Nat} {z : Nat → Int} (h : Tp w0 B len z w) (sp : Option Addr) (len' cap : Nat) (z' : Nat → Int) (hc : len' ≤ cap) (hn : sp = none → cap = 0) (hs : Src w0 sp len' z') : Tp w0 B len' z' (w.setCell ⟨B, 0, none⟩ (.slice sp len' cap)) := by
  obtain ⟨lo, hi, ⟨sp', cap', h1, h2⟩, hf, hb⟩ := h
  exact ⟨lo, by have e := size_setAll B 0 [.slice sp len' cap] w; simp only [World.setCells] at e; omega, ⟨sp, cap, World.cell?_setCell_same' _ _ _ (by rw [h1]; rfl), hc, hn, hs⟩, by rw [World.frozen?_setCell]; exact hf, below_setAll hb B lo 0 [.slice sp len' cap]⟩
theorem Tp.nil {w0 w : World} {B : Nat} {z z' : Nat → Int} (h : Tp w0 B 0 z w) : Tp w0 B 0 z' w := by
  obtain ⟨lo, hi, ⟨sp, cap, h1, h2, h3, _⟩, hf, hb⟩ := h
  exact ⟨lo, hi, ⟨sp, cap, h1, h2, h3, fun j hj => absurd hj (Nat.not_lt_zero j)⟩, hf, hb⟩
/-- A slice is stored. -/
theorem storeSl {P : Program} {ops : Array Oper} {Q : Exit → Act → World → Prop} {o' : Oper} {rest : List Oper} {a : Act} {w : World} (sp : Option Addr) (n c : Nat) (b : Nat) (ty : TypeId) (x y : Operand) (hw : Region.wanted o' (yielded ops a.tmps) = true) (ho : o'.op = .store ty x y) (hx : a.eval x = .pointer (some ⟨b, 0, none⟩)) (hy : a.eval y = .slice sp n c)
    (hc : (w.cell? ⟨b, 0, none⟩).isSome = true) (hf : w.frozen? ⟨b, 0, none⟩ = false) (hz : (P.info? ty).map (·.size) = some 1)
    (h : wpList P ops Q rest (a.put o'.dst undef) (w.setCell ⟨b, 0, none⟩ (.slice sp n c))) : wpList P ops Q (o' :: rest) a w := by
  have h0 : ∀ j : Nat, j < [Value.slice sp n c].length → j = 0 := fun j hj => by simpa using hj
  have hst := run_storeCells_cells (P := P) b 0 [.slice sp n c] 0 w (fun j hj => by rw [h0 j hj]; simpa using hc) (fun j hj => by rw [h0 j hj]; simpa using hf) (fun v hv => by simp at hv; subst hv; rfl)
  have he : (execOp a.eval o').run P w = .ok .skip (w.setCell ⟨b, 0, none⟩ (.slice sp n c)) := by
    cases hq : P.info? ty with
    | none => simp [hq] at hz
    | some i =>
      have hs : i.size = 1 := by simp [hq] at hz; omega
      simp only [Nat.add_zero] at hst
      have e : (storeVar ty ⟨b, 0, none⟩ (.slice sp n c)).run P w = .ok () (w.setCell ⟨b, 0, none⟩ (.slice sp n c)) := by
        simp [storeVar, sizeOf, typeInfo, hq, Value.cells, hs, hst, World.setCells]
      unfold execOp
      simp only [ho, hx, hy, Instr.storeAt, Instr.sureAddr, Sem.run_bind, Sem.run_pure, Result.andThen_ok, e]
  unfold wpList
  rw [if_pos hw]
  refine .inl ?_
  unfold Oper.wp
  rw [he]
  exact h

set_option maxRecDepth 10000 in
set_option maxHeartbeats 8000000 in
theorem along_any (sp : Option Addr) (len cap : Nat) (hc : len ≤ cap) (hnil : sp = none → cap = 0) (z : Nat → Int) (w : World) (hs : Src w sp len z) :
    Calls Try.prog 57 #[.slice sp len cap] w fun e w' => ∃ B, e = .returned (.tuple #[(.func (.func 60) #[] #[.pointer (some ⟨B, 0, none⟩)]), (.func (.func 61) #[] #[.pointer (some ⟨B, 0, none⟩)])]) ∧ Tp w B len z w' := by
  go_enter Try.func57, Try.ntmps57
  go_upto_region 0 with fail
  refine wp_region_list ?_
  refine actL (w' := w.alloc (.cells #[.slice sp len cap] 23)) (.pointer (some ⟨w.heap.size, 0, none⟩)) rfl (by kernel_rfl) ?_
  simp only [aP, lI, l0, lS]
  refine pureL .nilFunc rfl (fun _ => by kernel_rfl) ?_
  simp only [aP, lI, l0, lS]
  refine pureL .nilFunc rfl (fun _ => by kernel_rfl) ?_
  simp only [aP, lI, l0, lS]
  have T : Tp w w.heap.size len z (w.alloc (.cells #[.slice sp len cap] 23)) := ⟨Nat.le_refl _, by simp, ⟨sp, cap, by rw [World.cell?_alloc_at _ _ _ _ rfl]; rfl, hc, hnil, hs⟩, by first | exact World.frozen?_alloc_new _ _ _ _ | (simp [World.frozen?, World.alloc]), (Below.refl _ _).alloc (Nat.le_refl _) _⟩
  generalize w.alloc (.cells #[.slice sp len cap] 23) = w1 at T ⊢
  generalize w.heap.size = B at *
  show Exit.then _ _ _ _ _
  go_upto_region 1 with fail
  refine wp_region_list ?_
  refine pureL (.func (.func 60) #[] #[.pointer (some ⟨B, 0, none⟩)]) rfl (fun _ => by kernel_rfl) ?_
  simp only [aP, lI, l0, lS]
  refine pureL (.func (.func 60) #[] #[.pointer (some ⟨B, 0, none⟩)]) rfl (fun _ => by kernel_rfl) ?_
  simp only [aP, lI, l0, lS]
  show Exit.then _ _ _ _ _
  go_upto_region 2 with fail
  refine wp_region_list ?_
  refine pureL (.func (.func 61) #[] #[.pointer (some ⟨B, 0, none⟩)]) rfl (fun _ => by kernel_rfl) ?_
  simp only [aP, lI, l0, lS]
  refine pureL (.func (.func 61) #[] #[.pointer (some ⟨B, 0, none⟩)]) rfl (fun _ => by kernel_rfl) ?_
  simp only [aP, lI, l0, lS]
  show Exit.then _ _ _ _ _
  go_upto_region 3 with fail
  refine wp_region_list ?_
  refine pureL (.func (.func 60) #[] #[.pointer (some ⟨B, 0, none⟩)]) rfl (fun _ => by kernel_rfl) ?_
  simp only [aP, lI, l0, lS]
  refine pureL (.func (.func 61) #[] #[.pointer (some ⟨B, 0, none⟩)]) rfl (fun _ => by kernel_rfl) ?_
  simp only [aP, lI, l0, lS]
  refine pureL (.func (.func 60) #[] #[.pointer (some ⟨B, 0, none⟩)]) rfl (fun _ => by kernel_rfl) ?_
  simp only [aP, lI, l0, lS]
  refine pureL (.func (.func 61) #[] #[.pointer (some ⟨B, 0, none⟩)]) rfl (fun _ => by kernel_rfl) ?_
  simp only [aP, lI, l0, lS]
  show Exit.then _ _ _ _ _
  go_wp2
  go_ret2
  exact ⟨B, rfl, T⟩

set_option maxRecDepth 10000 in
set_option maxHeartbeats 8000000 in
theorem next_any (w0 : World) (B len : Nat) (z : Nat → Int) (m : Nat) (w : World) (T : Tp w0 B len z w) :
    Calls Try.prog 60 #[.int .i64 (m : Int), .pointer (some ⟨B, 0, none⟩)] w fun e w' =>
      (len < m ∧ e = .returned (.tuple #[.slice none 0 0, .bool false]) ∧ Tp w0 B len z w') ∨
      (m ≤ len ∧ ∃ sp cap, e = .returned (.tuple #[.slice sp m cap, .bool true]) ∧ m ≤ cap ∧ (sp = none → cap = 0) ∧ Src w0 sp m z ∧ Tp w0 B (len - m) (fun j => z (m + j)) w') := by
  obtain ⟨sp, cap, hcell, hc, hnil, hs⟩ := T.cell
  by_cases h1 : len < m
  · go_enter Try.func60, Try.ntmps60
    go_upto_region 1 with fail
    refine wp_region_list ?_
    refine pureL (.int .i64 (m : Int)) rfl (fun _ => by kernel_rfl) ?_
    simp only [aP, lI, l0, lS]
    refine readL (.slice sp len cap) rfl (loadSl 23 5 _ ⟨B, 0, none⟩ _ rfl rfl Try.underlying23 hcell) ?_
    simp only [aP, lI, l0, lS]
    refine pureL (.int .i64 (len : Int)) rfl (fun w => lenS _ 23 5 (sp) (len) (cap) rfl Try.underlying23 rfl w) ?_
    simp only [aP, lI, l0, lS]
    refine pureL (.bool true) rfl (fun w => gtrI .i64 _ _ _ _ _ _ rfl rfl rfl true (decide_eq_true (by omega)) w) ?_
    simp only [aP, lI, l0, lS]
    show Exit.then _ _ _ _ _
    go_wp2
    go_ret2
    exact .inl ⟨h1, rfl, T⟩
  · obtain ⟨cp, hcut1, hcs1, hcn1⟩ := cut_hiN (P := Try.prog) (t := 23) (by kernel_rfl) (fun _ => by kernel_rfl) sp len cap m (by omega) hc hnil
    obtain ⟨cq, hcut2, hcs2, hcn2⟩ := cut_loN (P := Try.prog) (t := 23) (by kernel_rfl) (fun _ => by kernel_rfl) sp len cap m (by omega) hc hnil
    go_enter Try.func60, Try.ntmps60
    go_upto_region 1 with fail
    refine wp_region_list ?_
    refine pureL (.int .i64 (m : Int)) rfl (fun _ => by kernel_rfl) ?_
    simp only [aP, lI, l0, lS]
    refine readL (.slice sp len cap) rfl (loadSl 23 5 _ ⟨B, 0, none⟩ _ rfl rfl Try.underlying23 hcell) ?_
    simp only [aP, lI, l0, lS]
    refine pureL (.int .i64 (len : Int)) rfl (fun w => lenS _ 23 5 (sp) (len) (cap) rfl Try.underlying23 rfl w) ?_
    simp only [aP, lI, l0, lS]
    refine pureL (.bool false) rfl (fun w => gtrI .i64 _ _ _ _ _ _ rfl rfl rfl false (decide_eq_false (by omega)) w) ?_
    simp only [aP, lI, l0, lS]
    show Exit.then _ _ _ _ _
    go_upto_region 3 with fail
    refine wp_region_list ?_
    refine readL (.slice sp len cap) rfl (loadSl 23 5 _ ⟨B, 0, none⟩ _ rfl rfl Try.underlying23 hcell) ?_
    simp only [aP, lI, l0, lS]
    refine pureL (.int .i64 (m : Int)) rfl (fun _ => by kernel_rfl) ?_
    simp only [aP, lI, l0, lS]
    refine pureL (.slice cp m cap) rfl (fun w => cutHi _ _ _ _ _ _ rfl rfl rfl (hcut1 w)) ?_
    simp only [aP, lI, l0, lS]
    refine pureL (.slice cp m cap) rfl (fun _ => by kernel_rfl) ?_
    simp only [aP, lI, l0, lS]
    show Exit.then _ _ _ _ _
    go_upto_region 4 with fail
    refine wp_region_list ?_
    refine readL (.slice sp len cap) rfl (loadSl 23 5 _ ⟨B, 0, none⟩ _ rfl rfl Try.underlying23 hcell) ?_
    simp only [aP, lI, l0, lS]
    refine pureL (.int .i64 (m : Int)) rfl (fun _ => by kernel_rfl) ?_
    simp only [aP, lI, l0, lS]
    refine pureL (.slice cq (len - m) (cap - m)) rfl (fun w => cutOp _ _ _ _ _ _ rfl rfl rfl (hcut2 w)) ?_
    simp only [aP, lI, l0, lS]
    refine storeSl cq (len - m) (cap - m) B 23 _ _ rfl rfl rfl rfl (by rw [hcell]; rfl) T.free (by kernel_rfl) ?_
    simp only [Act.put]
    replace T := T.set cq (len - m) (cap - m) (fun j => z (m + j)) (by omega) hcn2 (hcs2 _ _ hs)
    replace hs := hcs1 _ _ hs
    generalize w.setCell ⟨B, 0, none⟩ (.slice cq (len - m) (cap - m)) = w1 at T ⊢
    clear hcut1 hcut2 hcs1 hcs2 hcn2 hcell
    show Exit.then _ _ _ _ _
    go_upto_region 5 with fail
    refine wp_region_list ?_
    refine pureL (.slice cp m cap) rfl (fun _ => by kernel_rfl) ?_
    simp only [aP, lI, l0, lS]
    refine pureL (.slice cp m cap) rfl (fun _ => by kernel_rfl) ?_
    simp only [aP, lI, l0, lS]
    refine pureL (.bool true) rfl (fun _ => by kernel_rfl) ?_
    simp only [aP, lI, l0, lS]
    show Exit.then _ _ _ _ _
    go_wp2
    go_ret2
    exact .inr ⟨by omega, cp, cap, rfl, by omega, hcn1, hs, T⟩

set_option maxRecDepth 10000 in
set_option maxHeartbeats 8000000 in
theorem left_any (w0 : World) (B len : Nat) (hlen : len ≤ 140737488351240) (z : Nat → Int) (w : World) (T : Tp w0 B len z w) :
    Calls Try.prog 61 #[.pointer (some ⟨B, 0, none⟩)] w fun e w' => ∃ v, e = .returned v ∧ Own w' w.heap.size 5 .u8 len z v ∧ Below w.heap.size w w' := by
  obtain ⟨sp, cap, hcell, hc, hnil, hs⟩ := T.cell
  go_enter Try.func61, Try.ntmps61
  go_upto_region 1 with fail
  refine wp_region_list ?_
  refine readL (.slice sp len cap) rfl (loadSl 23 5 _ ⟨B, 0, none⟩ _ rfl rfl Try.underlying23 hcell) ?_
  simp only [aP, lI, l0, lS]
  refine callL rfl (fun _ => by kernel_rfl) (clone_any sp len cap hlen hc hnil z _ (hs.below T.below (Nat.le_refl _))) ?_
  rintro e w1 ⟨v, rfl, hO, hB⟩
  refine ⟨_, rfl, ?_⟩
  simp only [aP, lI, l0, lS]
  refine pureL v rfl (fun _ => by kernel_rfl) ?_
  simp only [aP, lI, l0, lS]
  show Exit.then _ _ _ _ _
  go_wp2
  go_ret
  exact ⟨v, rfl, hO, hB⟩

theorem vkd_told (b : Int) (h : 0 ≤ b ∧ b < 256) : b / 64 = ((vkd (tK b) : Nat) : Int) ∧ vkd (tK b) ≤ 3 := by
  rcases tK_four b h with ⟨e, e2⟩ | ⟨e, e2⟩ | ⟨e, e2⟩ | ⟨e, e2⟩ <;> rw [e, e2] <;> decide
theorem vkd_inj (a b : Nat) (ha : a = 1 ∨ a = 2 ∨ a = 4 ∨ a = 8) (hb : b = 1 ∨ b = 2 ∨ b = 4 ∨ b = 8) (h : vkd a = vkd b) : a = b := by
  rw [← (vkd_pow a ha).1, ← (vkd_pow b hb).1, h]

set_option maxRecDepth 10000 in
set_option maxHeartbeats 8000000 in
theorem number_any (w0 : World) (B len : Nat) (z : Nat → Int) (hz : In 256 len z) (w : World) (T : Tp w0 B len z w) :
    Calls Try.prog 58 #[(.func (.func 60) #[] #[.pointer (some ⟨B, 0, none⟩)])] w fun e w' => e = .returned (.tuple #[.int .i64 (tN len z), .int .i64 (tE len z)]) ∧ Below w0.heap.size w0 w' ∧ (tE len z = 0 → Tp w0 B (tL len z) (tR z) w') := by
  go_enter Try.func58, Try.ntmps58
  go_upto_region 1 with fail
  refine wp_region_list ?_
  refine pureL (.func (.func 60) #[] #[.pointer (some ⟨B, 0, none⟩)]) rfl (fun _ => by kernel_rfl) ?_
  simp only [aP, lI, l0, lS]
  refine callL rfl (fun _ => by kernel_rfl) (next_any w0 B _ _ 1 _ T) ?_
  intro e w1 h
  clear T
  rcases h with ⟨h1, rfl, T⟩ | ⟨h1, sp, cap, rfl, hc1, hn1, hs1, T⟩
  · refine ⟨_, rfl, ?_⟩
    simp only [aP, lI, l0, lS]
    refine pureL (.tuple #[(.slice none 0 0), .bool false]) rfl (fun _ => by kernel_rfl) ?_
    simp only [aP, lI, l0, lS]
    refine pureL (.slice none 0 0) rfl (fun _ => by kernel_rfl) ?_
    simp only [aP, lI, l0, lS]
    refine pureL (.bool false) rfl (fun _ => by kernel_rfl) ?_
    simp only [aP, lI, l0, lS]
    refine pureL (.slice none 0 0) rfl (fun _ => by kernel_rfl) ?_
    simp only [aP, lI, l0, lS]
    refine pureL (.bool false) rfl (fun _ => by kernel_rfl) ?_
    simp only [aP, lI, l0, lS]
    show Exit.then _ _ _ _ _
    have hE : tE len z = 3 := by unfold tE; rw [if_pos (by omega)]
    go_upto_region 2 with fail
    refine wp_region_list ?_
    refine pureL (.bool false) rfl (fun _ => by kernel_rfl) ?_
    simp only [aP, lI, l0, lS]
    refine pureL (.bool true) rfl (fun _ => by kernel_rfl) ?_
    simp only [aP, lI, l0, lS]
    show Exit.then _ _ _ _ _
    have hN : tN len z = 0 := by unfold tN; rw [hE]; rfl
    have hA := show Hid _ from (And.intro hN hE)
    clear hN hE
    go_wp2
    go_ret2
    exact ⟨by rw [hA.out.1, hA.out.2]; rfl, T.below, fun h => by rw [hA.out.2] at h; omega⟩
  · obtain ⟨ad, rfl, hc0⟩ := hs1 0 (by omega)
    have hz0 := hz 0 (by omega)
    have hto := vkd_told (z 0) hz0
    have hK4 := tK_four (z 0) hz0
    have hKp := vkd_pow (tK (z 0)) (by omega)
    have hcz : w1.cell? (ad.add 0) = some (.int .u8 (z 0)) := by
      have hb : (ad.add 0).block < w0.heap.size := World.block_lt_of_cell? w0 _ hc0
      rw [T.below.cell hb]
      exact hc0
    refine ⟨_, rfl, ?_⟩
    simp only [aP, lI, l0, lS]
    refine pureL (.tuple #[(.slice (some ad) 1 cap), .bool true]) rfl (fun _ => by kernel_rfl) ?_
    simp only [aP, lI, l0, lS]
    refine pureL (.slice (some ad) 1 cap) rfl (fun _ => by kernel_rfl) ?_
    simp only [aP, lI, l0, lS]
    refine pureL (.bool true) rfl (fun _ => by kernel_rfl) ?_
    simp only [aP, lI, l0, lS]
    refine pureL (.slice (some ad) 1 cap) rfl (fun _ => by kernel_rfl) ?_
    simp only [aP, lI, l0, lS]
    refine pureL (.bool true) rfl (fun _ => by kernel_rfl) ?_
    simp only [aP, lI, l0, lS]
    show Exit.then _ _ _ _ _
    go_upto_region 2 with fail
    refine wp_region_list ?_
    refine pureL (.bool true) rfl (fun _ => by kernel_rfl) ?_
    simp only [aP, lI, l0, lS]
    refine pureL (.bool false) rfl (fun _ => by kernel_rfl) ?_
    simp only [aP, lI, l0, lS]
    show Exit.then _ _ _ _ _
    go_upto_region 4 with fail
    refine wp_region_list ?_
    refine pureL (.slice (some ad) 1 cap) rfl (fun _ => by kernel_rfl) ?_
    simp only [aP, lI, l0, lS]
    refine pureL (.pointer (some (ad.add 0))) rfl (fun w => idxSl 23 5 1 cap .i64 ad 0 _ _ Try.underlying23 (fun _ => by kernel_rfl) (by omega) rfl rfl rfl w) ?_
    simp only [aP, lI, l0, lS]
    refine readL (.int .u8 (z 0)) rfl (loadAny 5 .u8 _ (ad.add 0) _ rfl rfl Try.underlying5 hcz) ?_
    simp only [aP, lI, l0, lS]
    refine pureL (.int .u8 (((vkd (tK (z 0))) : Nat) : Int)) rfl (fun w => shrI .u8 .u64 _ _ _ _ _ _ _ rfl rfl rfl (by omega) (by rw [show min (6 : Int).toNat IntKind.u8.bits = 6 from rfl, ← hto.1]; omega) w) ?_
    simp only [aP, lI, l0, lS]
    refine pureL (.int .i64 (((vkd (tK (z 0))) : Nat) : Int)) rfl (fun w => convI .u8 .i64 _ _ _ _ _ rfl (by kernel_rfl) Try.underlying3 (by kernel_rfl) rfl (by rw [IntKind.wrap_i64]; omega) w) ?_
    simp only [aP, lI, l0, lS]
    refine pureL (.int .i64 (((vkd (tK (z 0))) : Nat) : Int)) rfl (fun _ => by kernel_rfl) ?_
    simp only [aP, lI, l0, lS]
    show Exit.then _ _ _ _ _
    obtain ⟨m, hm⟩ : ∃ m, tK (z 0) = m + 1 := ⟨tK (z 0) - 1, by omega⟩
    go_upto_region 5 with fail
    refine wp_region_list ?_
    refine pureL (.func (.func 60) #[] #[.pointer (some ⟨B, 0, none⟩)]) rfl (fun _ => by kernel_rfl) ?_
    simp only [aP, lI, l0, lS]
    refine pureL (.int .i64 (((vkd (tK (z 0))) : Nat) : Int)) rfl (fun _ => by kernel_rfl) ?_
    simp only [aP, lI, l0, lS]
    refine pureL (.int .i64 ((m + 1 : Nat) : Int)) rfl (fun w => shlI .i64 .i64 _ _ _ _ _ _ _ rfl rfl rfl (by omega) (by rw [shl_one (vkd (tK (z 0))) hto.2, hKp.1, hm]) w) ?_
    simp only [aP, lI, l0, lS]
    refine pureL (.int .i64 (m : Int)) rfl (fun w => subI .i64 _ _ _ _ _ _ _ rfl rfl rfl (by rw [IntKind.wrap_i64]; omega) w) ?_
    simp only [aP, lI, l0, lS]
    refine callL rfl (fun _ => by kernel_rfl) (next_any w0 B _ _ m _ T) ?_
    intro e w2 h
    clear T hcz
    rcases h with ⟨h2, rfl, T⟩ | ⟨h2, tp, tc, rfl, hc2, hn2, hs2, T⟩
    · refine ⟨_, rfl, ?_⟩
      simp only [aP, lI, l0, lS]
      refine pureL (.tuple #[(.slice none 0 0), .bool false]) rfl (fun _ => by kernel_rfl) ?_
      simp only [aP, lI, l0, lS]
      refine pureL (.slice none 0 0) rfl (fun _ => by kernel_rfl) ?_
      simp only [aP, lI, l0, lS]
      refine pureL (.bool false) rfl (fun _ => by kernel_rfl) ?_
      simp only [aP, lI, l0, lS]
      refine pureL (.slice none 0 0) rfl (fun _ => by kernel_rfl) ?_
      simp only [aP, lI, l0, lS]
      refine pureL (.bool false) rfl (fun _ => by kernel_rfl) ?_
      simp only [aP, lI, l0, lS]
      show Exit.then _ _ _ _ _
      have hE : tE len z = 3 := by unfold tE; rw [if_neg (by omega), if_pos (by omega)]
      go_upto_region 6 with fail
      refine wp_region_list ?_
      refine pureL (.bool false) rfl (fun _ => by kernel_rfl) ?_
      simp only [aP, lI, l0, lS]
      refine pureL (.bool true) rfl (fun _ => by kernel_rfl) ?_
      simp only [aP, lI, l0, lS]
      show Exit.then _ _ _ _ _
      have hN : tN len z = 0 := by unfold tN; rw [hE]; rfl
      have hA := show Hid _ from (And.intro hN hE)
      clear hN hE
      go_wp2
      go_ret2
      exact ⟨by rw [hA.out.1, hA.out.2]; rfl, T.below, fun h => by rw [hA.out.2] at h; omega⟩
    · have hcz : w2.cell? (ad.add 0) = some (.int .u8 (z 0)) := by
        have hb : (ad.add 0).block < w0.heap.size := World.block_lt_of_cell? w0 _ hc0
        rw [T.below.cell hb]
        exact hc0
      have hnn := tV_nonneg z len hz m (by omega)
      refine ⟨_, rfl, ?_⟩
      simp only [aP, lI, l0, lS]
      refine pureL (.tuple #[(.slice tp m tc), .bool true]) rfl (fun _ => by kernel_rfl) ?_
      simp only [aP, lI, l0, lS]
      refine pureL (.slice tp m tc) rfl (fun _ => by kernel_rfl) ?_
      simp only [aP, lI, l0, lS]
      refine pureL (.bool true) rfl (fun _ => by kernel_rfl) ?_
      simp only [aP, lI, l0, lS]
      refine pureL (.slice tp m tc) rfl (fun _ => by kernel_rfl) ?_
      simp only [aP, lI, l0, lS]
      refine pureL (.bool true) rfl (fun _ => by kernel_rfl) ?_
      simp only [aP, lI, l0, lS]
      show Exit.then _ _ _ _ _
      go_upto_region 6 with fail
      refine wp_region_list ?_
      refine pureL (.bool true) rfl (fun _ => by kernel_rfl) ?_
      simp only [aP, lI, l0, lS]
      refine pureL (.bool false) rfl (fun _ => by kernel_rfl) ?_
      simp only [aP, lI, l0, lS]
      show Exit.then _ _ _ _ _
      go_upto_region 8 with fail
      refine wp_region_list ?_
      refine pureL (.slice (some ad) 1 cap) rfl (fun _ => by kernel_rfl) ?_
      simp only [aP, lI, l0, lS]
      refine pureL (.pointer (some (ad.add 0))) rfl (fun w => idxSl 23 5 1 cap .i64 ad 0 _ _ Try.underlying23 (fun _ => by kernel_rfl) (by omega) rfl rfl rfl w) ?_
      simp only [aP, lI, l0, lS]
      refine readL (.int .u8 (z 0)) rfl (loadAny 5 .u8 _ (ad.add 0) _ rfl rfl Try.underlying5 hcz) ?_
      simp only [aP, lI, l0, lS]
      refine pureL (.int .i64 (z 0)) rfl (fun w => convI .u8 .i64 _ _ _ _ _ rfl (by kernel_rfl) Try.underlying3 (by kernel_rfl) rfl (by rw [IntKind.wrap_i64]; omega) w) ?_
      simp only [aP, lI, l0, lS]
      refine pureL (.int .i64 ((z 0) % 64)) rfl (fun w => vandI .i64 _ _ _ _ _ _ _ rfl rfl rfl (i64_and63 _) w) ?_
      simp only [aP, lI, l0, lS]
      refine pureL (.slice tp m tc) rfl (fun _ => by kernel_rfl) ?_
      simp only [aP, lI, l0, lS]
      refine callL rfl (fun _ => by kernel_rfl) (join_any (z 0 % 64) (by omega) tp m tc (by omega) (fun j => z (1 + j)) (fun j hj => hz (1 + j) (by omega)) _ (hs2.below T.below (Nat.le_refl _))) ?_
      rintro e w3 ⟨rfl, l⟩
      refine ⟨_, rfl, ?_⟩
      simp only [aP, lI, l0, lS]
      rw [jV_one z m]
      replace T := T.call l
      clear l hcz
      obtain ⟨q, hq⟩ := Int.eq_ofNat_of_zero_le hnn.1
      rw [hq]
      refine pureL (.int .i64 (q : Int)) rfl (fun _ => by kernel_rfl) ?_
      simp only [aP, lI, l0, lS]
      show Exit.then _ _ _ _ _
      have hv4 := vsz_four q
      have htE : tE len z = if vsz q ≠ tK (z 0) then 90 else 0 := by
        unfold tE
        rw [if_neg (by omega), if_neg (by omega), hm, Nat.add_sub_cancel, hq, Int.toNat_natCast]
      by_cases h3 : vsz q ≠ tK (z 0)
      · have hE : tE len z = 90 := by rw [htE, if_pos h3]
        have hd : vkd (tK (z 0)) ≠ vkd (vsz q) := fun e => h3 (vkd_inj _ _ (by omega) (by omega) e).symm
        go_upto_region 9 with fail
        refine wp_region_list ?_
        refine pureL (.int .i64 (((vkd (tK (z 0))) : Nat) : Int)) rfl (fun _ => by kernel_rfl) ?_
        simp only [aP, lI, l0, lS]
        refine pureL (.int .i64 (q : Int)) rfl (fun _ => by kernel_rfl) ?_
        simp only [aP, lI, l0, lS]
        refine callL rfl (fun _ => by kernel_rfl) (tell_any q _) ?_
        rintro e w4 ⟨rfl, l⟩
        refine ⟨_, rfl, ?_⟩
        simp only [aP, lI, l0, lS]
        replace T := T.call l
        clear l
        refine pureL (.bool true) rfl (fun w => neqI .i64 _ _ _ _ _ _ rfl rfl rfl true (by simp; omega) w) ?_
        simp only [aP, lI, l0, lS]
        show Exit.then _ _ _ _ _
        have hN : tN len z = 0 := by unfold tN; rw [hE]; rfl
        have hA := show Hid _ from (And.intro hN hE)
        clear hN hE
        go_wp2
        go_ret2
        exact ⟨by rw [hA.out.1, hA.out.2]; rfl, T.below, fun h => by rw [hA.out.2] at h; omega⟩
      · have h3' : vsz q = tK (z 0) := by omega
        have hE : tE len z = 0 := by rw [htE, if_neg h3]
        have hN : tN len z = (q : Int) := by unfold tN; rw [if_pos hE, hm, Nat.add_sub_cancel, hq]
        have hL : tL len z = len - 1 - m := by unfold tL; rw [if_pos hE, hm]; omega
        have hR : (fun j => (fun j => z (1 + j)) (m + j)) = tR z := by unfold tR; funext j; rw [hm]; show z (1 + (m + j)) = z (m + 1 + j); rw [show 1 + (m + j) = m + 1 + j by omega]
        go_upto_region 9 with fail
        refine wp_region_list ?_
        refine pureL (.int .i64 (((vkd (tK (z 0))) : Nat) : Int)) rfl (fun _ => by kernel_rfl) ?_
        simp only [aP, lI, l0, lS]
        refine pureL (.int .i64 (q : Int)) rfl (fun _ => by kernel_rfl) ?_
        simp only [aP, lI, l0, lS]
        refine callL rfl (fun _ => by kernel_rfl) (tell_any q _) ?_
        rintro e w4 ⟨rfl, l⟩
        refine ⟨_, rfl, ?_⟩
        simp only [aP, lI, l0, lS]
        replace T := T.call l
        clear l
        refine pureL (.bool false) rfl (fun w => neqI .i64 _ _ _ _ _ _ rfl rfl rfl false (by rw [h3']; simp) w) ?_
        simp only [aP, lI, l0, lS]
        show Exit.then _ _ _ _ _
        rw [hR] at T
        have hA := show Hid _ from (And.intro hN (And.intro hE hL))
        clear hN hE hL hR htE
        go_upto_region 11 with fail
        refine wp_region_list ?_
        refine pureL (.int .i64 (q : Int)) rfl (fun _ => by kernel_rfl) ?_
        simp only [aP, lI, l0, lS]
        refine pureL (.int .i64 (q : Int)) rfl (fun _ => by kernel_rfl) ?_
        simp only [aP, lI, l0, lS]
        refine pureL (.int .i64 0) rfl (fun _ => by kernel_rfl) ?_
        simp only [aP, lI, l0, lS]
        show Exit.then _ _ _ _ _
        go_wp2
        go_ret2
        exact ⟨by rw [hA.out.1, hA.out.2.1]; rfl, T.below, fun _ => by rw [hA.out.2.2]; exact T⟩

end Go.Proofs.Yteaamgjlkohfcaa

namespace Go.Proofs.Yteaamgjlkohfcaa
open Go.RowKit

/-- One of two. -/
def pk2 {α : Type} (a b : α) : Nat → α
  | 0 => a
  | _ => b
theorem tot2 (a b : Nat) : tot (pk2 a b) 2 = a + b := by show 0 + a + b = _; omega
theorem catIn2 {w : World} (C : Nat) (p1 p2 : Option Addr) (l1 l2 c1 c2 : Nat) (z1 z2 : Nat → Int) (t : TypeId) (hC : C = w.heap.size) (h1 : Src w p1 l1 z1) (h2 : Src w p2 l2 z2) (n1 : p1 = none → c1 = 0) (n2 : p2 = none → c2 = 0) :
    CatIn (w.alloc (.cells #[.slice p1 l1 c1, .slice p2 l2 c2] t)) ⟨C, 0, none⟩ 2 (pk2 p1 p2) (pk2 l1 l2) (pk2 c1 c2) (pk2 z1 z2) := by
  have hb := (Below.refl w.heap.size w).alloc (Nat.le_refl _) (.cells #[.slice p1 l1 c1, .slice p2 l2 c2] t)
  refine ⟨fun j hj => ?_, fun j hj => ?_, fun j hj => ?_⟩
  · rw [Addr.add_mid, World.cell?_alloc_at _ _ _ _ hC]
    match j, hj with
    | 0, _ | 1, _ => rfl
    | _ + 2, h => omega
  · match j, hj with
    | 0, _ => exact h1.below hb (Nat.le_refl _)
    | 1, _ => exact h2.below hb (Nat.le_refl _)
    | _ + 2, h => omega
  · match j, hj with
    | 0, _ => exact n1
    | 1, _ => exact n2
    | _ + 2, h => omega
theorem catz2 (a b : Nat) (z1 z2 : Nat → Int) (j : Nat) : catz (pk2 a b) (pk2 z1 z2) 2 j = app z1 a z2 j := by
  show app (app (fun _ => 0) 0 z1) (0 + a) z2 j = app z1 a z2 j
  unfold app
  rw [Nat.zero_add]
  by_cases h : j < a
  · rw [if_pos h, if_pos h, if_neg (Nat.not_lt_zero j), Nat.sub_zero]
  · rw [if_neg h, if_neg h]
theorem catz3 (a b c : Nat) (z1 z2 z3 : Nat → Int) (j : Nat) : catz (pk3 a b c) (pk3 z1 z2 z3) 3 j = app (app z1 a z2) (a + b) z3 j := by
  show app (app (app (fun _ => 0) 0 z1) (0 + a) z2) (0 + a + b) z3 j = app (app z1 a z2) (a + b) z3 j
  rw [Nat.zero_add]
  unfold app
  by_cases h : j < a + b
  · rw [if_pos h, if_pos h]
    by_cases h' : j < a
    · rw [if_pos h', if_pos h', if_neg (Nat.not_lt_zero j), Nat.sub_zero]
    · rw [if_neg h', if_neg h']
  · rw [if_neg h, if_neg h]

set_option maxRecDepth 10000 in
set_option maxHeartbeats 8000000 in
theorem vputvar_any : PutVarOK := by
  intro sp len cap hlen hcap hnil z hz n hn w hs
  have hB := Below.refl w.heap.size w
  by_cases hb : vbad n
  · have e1 : vE n = 1 := by unfold vE; rw [if_pos hb]
    have e2 : vL len n = 0 := by unfold vL; rw [if_pos hb]
    unfold vbad at hb
    have fin : PutV len z n w.heap.size (.returned (.tuple #[.slice none 0 0, .int .i64 1])) w := ⟨_, by rw [e1], by rw [e2]; exact World.ownsRow_nil w _ _ 1⟩
    by_cases h1 : n < 0
    · clear hb hn
      go_enter Try.func39, Try.ntmps39
      go_wp2
      go_ret2
      exact ⟨fin, hB⟩
    · have h2 : 4611686018427387903 < n := by omega
      have h2' : 4611686018427387904 ≤ n := by omega
      clear hb hn
      go_enter Try.func39, Try.ntmps39
      go_wp2
      go_ret2
      exact ⟨fin, hB⟩
  · have e1 : vE n = 0 := by unfold vE; rw [if_neg hb]
    have e2 : vL len n = len + vsz n.toNat := by unfold vL; rw [if_neg hb]
    have e3 : vput len z n = app z len (vby n.toNat) := rfl
    unfold vbad at hb
    obtain ⟨n, rfl⟩ := Int.eq_ofNat_of_zero_le (show 0 ≤ n by omega)
    rw [Int.toNat_natCast] at e2 e3
    have h1 : ¬ (n : Int) < 0 := by omega
    have h2 : ¬ 4611686018427387903 < (n : Int) := by omega
    have h2' : ¬ 4611686018427387904 ≤ (n : Int) := by omega
    have hv8 := vsz_le n
    go_enter Try.func39, Try.ntmps39
    go_upto_region 3 with fail
    clear h1 h2 h2'
    refine wp_region_list ?_
    refine pureL (.slice sp len cap) rfl (fun _ => by kernel_rfl) ?_
    simp only [aP, lI, l0, lS]
    refine pureL (.int .i64 (n : Int)) rfl (fun _ => by kernel_rfl) ?_
    simp only [aP, lI, l0, lS]
    refine callL rfl (fun _ => by kernel_rfl) (least_any n (by omega) _) ?_
    rintro e w1 ⟨B, rfl, hS, hB⟩
    refine ⟨_, rfl, ?_⟩
    simp only [aP, lI, l0, lS]
    refine actL (w' := w1.alloc (.cells #[.slice sp len cap, .slice (some ⟨B, 8 - vsz n, none⟩) (vsz n) (vsz n)] 23)) (.slice (some ⟨w1.heap.size, 0, none⟩) 2 2) rfl (by kernel_rfl) ?_
    simp only [aP, lI, l0, lS]
    have HC := catIn2 w1.heap.size sp (some ⟨B, 8 - vsz n, none⟩) len (vsz n) cap (vsz n) z (vby n) 23 rfl (hs.below hB (Nat.le_refl _)) hS hnil (fun e => by cases e)
    replace hB := hB.alloc hB.size (.cells #[.slice sp len cap, .slice (some ⟨B, 8 - vsz n, none⟩) (vsz n) (vsz n)] 23)
    refine callL rfl (fun _ => by kernel_rfl) (concat_any ⟨w1.heap.size, 0, none⟩ 2 2 _ _ _ _ (by decide) (by rw [tot2]; omega) _ HC) ?_
    rintro e w2 ⟨v, rfl, hO, hb⟩
    rw [tot2] at hO
    have hO2 : Own w2 w.heap.size 5 .u8 (len + vsz n) (app z len (vby n)) v := (hO.congr fun j _ => catz2 _ _ _ _ j).lower hB.size
    replace hB := hB.trans (hb.mono hB.size)
    clear hO hb HC hS
    refine ⟨_, rfl, ?_⟩
    simp only [aP, lI, l0, lS]
    refine pureL v rfl (fun _ => by kernel_rfl) ?_
    simp only [aP, lI, l0, lS]
    refine pureL (.int .i64 0) rfl (fun _ => by kernel_rfl) ?_
    simp only [aP, lI, l0, lS]
    show Exit.then _ _ _ _ _
    go_wp2
    go_ret2
    exact ⟨⟨v, by rw [e1]; rfl, by rw [e2, e3]; exact hO2⟩, hB⟩

set_option maxRecDepth 10000 in
set_option maxHeartbeats 8000000 in
theorem vputbytes_any : PutBytesOK := by
  intro sp len cap hlen hcap hnil z hz tp tl tc htl htc htn x hx hsum w hs ht
  have hv8 := vsz_le tl
  go_enter Try.func31, Try.ntmps31
  go_upto_region 1 with fail
  refine wp_region_list ?_
  refine pureL (.slice sp len cap) rfl (fun _ => by kernel_rfl) ?_
  simp only [aP, lI, l0, lS]
  refine pureL (.slice tp tl tc) rfl (fun _ => by kernel_rfl) ?_
  simp only [aP, lI, l0, lS]
  refine pureL (.int .i64 (tl : Int)) rfl (fun w => lenS _ 23 5 (tp) (tl) (tc) rfl Try.underlying23 rfl w) ?_
  simp only [aP, lI, l0, lS]
  refine callL rfl (fun _ => by kernel_rfl) (least_any tl (by omega) _) ?_
  rintro e w1 ⟨B, rfl, hS, hB⟩
  refine ⟨_, rfl, ?_⟩
  simp only [aP, lI, l0, lS]
  refine pureL (.slice tp tl tc) rfl (fun _ => by kernel_rfl) ?_
  simp only [aP, lI, l0, lS]
  refine actL (w' := w1.alloc (.cells #[.slice sp len cap, .slice (some ⟨B, 8 - vsz tl, none⟩) (vsz tl) (vsz tl), .slice tp tl tc] 23)) (.slice (some ⟨w1.heap.size, 0, none⟩) 3 3) rfl (by kernel_rfl) ?_
  simp only [aP, lI, l0, lS]
  have HC := catIn3 w1.heap.size sp (some ⟨B, 8 - vsz tl, none⟩) tp len (vsz tl) tl cap (vsz tl) tc z (vby tl) x 23 rfl (hs.below hB (Nat.le_refl _)) hS (ht.below hB (Nat.le_refl _)) hnil (fun e => by cases e) htn
  replace hB := hB.alloc hB.size (.cells #[.slice sp len cap, .slice (some ⟨B, 8 - vsz tl, none⟩) (vsz tl) (vsz tl), .slice tp tl tc] 23)
  refine callL rfl (fun _ => by kernel_rfl) (concat_any ⟨w1.heap.size, 0, none⟩ 3 3 _ _ _ _ (by decide) (by rw [tot3]; omega) _ HC) ?_
  rintro e w2 ⟨v, rfl, hO, hb⟩
  rw [tot3] at hO
  have hO2 : Own w2 w.heap.size 5 .u8 (len + vsz tl + tl) (app (app z len (vby tl)) (len + vsz tl) x) v := (hO.congr fun j _ => catz3 _ _ _ _ _ _ j).lower hB.size
  replace hB := hB.trans (hb.mono hB.size)
  clear hO hb HC hS
  refine ⟨_, rfl, ?_⟩
  simp only [aP, lI, l0, lS]
  refine pureL v rfl (fun _ => by kernel_rfl) ?_
  simp only [aP, lI, l0, lS]
  refine pureL (.int .i64 0) rfl (fun _ => by kernel_rfl) ?_
  simp only [aP, lI, l0, lS]
  show Exit.then _ _ _ _ _
  go_wp2
  go_ret2
  exact ⟨⟨v, rfl, hO2⟩, hB⟩

end Go.Proofs.Yteaamgjlkohfcaa

namespace Go.Proofs.Yteaamgjlkohfcaa
open Go.RowKit

def TakeVO (len : Nat) (z : Nat → Int) (B : Nat) (e : Ending) (w' : World) : Prop := ∃ v, e = .returned (.tuple #[.int .i64 (tN len z), v, .int .i64 (tE len z)]) ∧ Own w' B 5 .u8 (tL len z) (tR z) v
def TakeBO (len : Nat) (z : Nat → Int) (most : Int) (B : Nat) (e : Ending) (w' : World) : Prop := ∃ t v, e = .returned (.tuple #[t, v, .int .i64 (xE len z most)]) ∧ Own w' B 5 .u8 (xL len z most) (tR z) t ∧ Own w' B 5 .u8 (yL len z most) (yR len z) v
def TakeVarOw : Prop := ∀ (sp : Option Addr) (len cap : Nat), len ≤ 140737488351240 → len ≤ cap → (sp = none → cap = 0) → ∀ z : Nat → Int, In 256 len z → ∀ w : World, Src w sp len z → Calls Try.prog 54 #[.slice sp len cap] w fun e w' => TakeVO len z w.heap.size e w' ∧ Below w.heap.size w w'
def TakeBytesOw : Prop := ∀ (sp : Option Addr) (len cap : Nat), len ≤ 140737488351240 → len ≤ cap → (sp = none → cap = 0) → ∀ z : Nat → Int, In 256 len z → ∀ most : Int, (-9223372036854775808 ≤ most ∧ most < 9223372036854775808) → ∀ w : World, Src w sp len z → Calls Try.prog 55 #[.slice sp len cap, .int .i64 most] w fun e w' => TakeBO len z most w.heap.size e w' ∧ Below w.heap.size w w'
set_option maxRecDepth 10000 in
set_option maxHeartbeats 8000000 in
theorem vtakevar_own : TakeVarOw := by
  intro sp len cap hlen hcap hnil z hz w hs
  have hle : tL len z ≤ len := by unfold tL; split <;> omega
  go_enter Try.func54, Try.ntmps54
  go_upto_region 1 with fail
  refine wp_region_list ?_
  refine pureL (.slice sp len cap) rfl (fun _ => by kernel_rfl) ?_
  simp only [aP, lI, l0, lS]
  refine callL rfl (fun _ => by kernel_rfl) (along_any sp len cap hcap hnil z _ hs) ?_
  rintro e w1 ⟨B, rfl, T⟩
  refine ⟨_, rfl, ?_⟩
  simp only [aP, lI, l0, lS]
  refine pureL (.tuple #[(.func (.func 60) #[] #[.pointer (some ⟨B, 0, none⟩)]), (.func (.func 61) #[] #[.pointer (some ⟨B, 0, none⟩)])]) rfl (fun _ => by kernel_rfl) ?_
  simp only [aP, lI, l0, lS]
  refine pureL (.func (.func 60) #[] #[.pointer (some ⟨B, 0, none⟩)]) rfl (fun _ => by kernel_rfl) ?_
  simp only [aP, lI, l0, lS]
  refine pureL (.func (.func 61) #[] #[.pointer (some ⟨B, 0, none⟩)]) rfl (fun _ => by kernel_rfl) ?_
  simp only [aP, lI, l0, lS]
  refine pureL (.func (.func 60) #[] #[.pointer (some ⟨B, 0, none⟩)]) rfl (fun _ => by kernel_rfl) ?_
  simp only [aP, lI, l0, lS]
  refine pureL (.func (.func 61) #[] #[.pointer (some ⟨B, 0, none⟩)]) rfl (fun _ => by kernel_rfl) ?_
  simp only [aP, lI, l0, lS]
  show Exit.then _ _ _ _ _
  go_upto_region 2 with fail
  refine wp_region_list ?_
  refine pureL (.func (.func 60) #[] #[.pointer (some ⟨B, 0, none⟩)]) rfl (fun _ => by kernel_rfl) ?_
  simp only [aP, lI, l0, lS]
  refine callL rfl (fun _ => by kernel_rfl) (number_any w B len z hz _ T) ?_
  rintro e w2 ⟨rfl, hB, T2⟩
  clear T
  refine ⟨_, rfl, ?_⟩
  simp only [aP, lI, l0, lS]
  refine pureL (.tuple #[(.int .i64 (tN len z)), (.int .i64 (tE len z))]) rfl (fun _ => by kernel_rfl) ?_
  simp only [aP, lI, l0, lS]
  refine pureL (.int .i64 (tN len z)) rfl (fun _ => by kernel_rfl) ?_
  simp only [aP, lI, l0, lS]
  refine pureL (.int .i64 (tE len z)) rfl (fun _ => by kernel_rfl) ?_
  simp only [aP, lI, l0, lS]
  refine pureL (.int .i64 (tN len z)) rfl (fun _ => by kernel_rfl) ?_
  simp only [aP, lI, l0, lS]
  refine pureL (.int .i64 (tE len z)) rfl (fun _ => by kernel_rfl) ?_
  simp only [aP, lI, l0, lS]
  show Exit.then _ _ _ _ _
  by_cases h1 : tE len z = 0
  · go_upto_region 3 with fail
    refine wp_region_list ?_
    refine pureL (.int .i64 (tE len z)) rfl (fun _ => by kernel_rfl) ?_
    simp only [aP, lI, l0, lS]
    refine pureL (.bool false) rfl (fun w => neqI .i64 _ _ _ _ _ _ rfl rfl rfl false (by simp [h1]) w) ?_
    simp only [aP, lI, l0, lS]
    show Exit.then _ _ _ _ _
    replace T2 := T2 h1
    go_upto_region 5 with fail
    refine wp_region_list ?_
    refine pureL (.int .i64 (tN len z)) rfl (fun _ => by kernel_rfl) ?_
    simp only [aP, lI, l0, lS]
    refine pureL (.func (.func 61) #[] #[.pointer (some ⟨B, 0, none⟩)]) rfl (fun _ => by kernel_rfl) ?_
    simp only [aP, lI, l0, lS]
    refine callL rfl (fun _ => by kernel_rfl) (left_any w B _ (by omega) _ _ T2) ?_
    rintro e w3 ⟨v, rfl, hO, l⟩
    obtain ⟨rp, rc, rfl, _, _⟩ := hO.bytes
    replace hO := hO.lower hB.size
    replace hB := hB.trans (l.mono hB.size)
    clear T2 l
    refine ⟨_, rfl, ?_⟩
    simp only [aP, lI, l0, lS]
    refine pureL (.int .i64 (tN len z)) rfl (fun _ => by kernel_rfl) ?_
    simp only [aP, lI, l0, lS]
    refine pureL (.slice rp (tL len z) rc) rfl (fun _ => by kernel_rfl) ?_
    simp only [aP, lI, l0, lS]
    refine pureL (.int .i64 0) rfl (fun _ => by kernel_rfl) ?_
    simp only [aP, lI, l0, lS]
    show Exit.then _ _ _ _ _
    have h1' := show Hid _ from h1
    clear h1
    go_wp2
    refine bodyPost_ret (results_tmp3 Try.results54 _ _ _) rfl ?_
    exact ⟨⟨_, by rw [h1'.out]; rfl, hO⟩, hB⟩
  · have hN : tN len z = 0 := by unfold tN; rw [if_neg h1]
    have hL : tL len z = 0 := by unfold tL; rw [if_neg h1]
    clear T2
    go_upto_region 3 with fail
    refine wp_region_list ?_
    refine pureL (.int .i64 (tE len z)) rfl (fun _ => by kernel_rfl) ?_
    simp only [aP, lI, l0, lS]
    refine pureL (.bool true) rfl (fun w => neqI .i64 _ _ _ _ _ _ rfl rfl rfl true (by simp [h1]) w) ?_
    simp only [aP, lI, l0, lS]
    show Exit.then _ _ _ _ _
    have hA := show Hid _ from (And.intro hN hL)
    clear hN hL
    go_wp2
    refine bodyPost_ret (results_tmp3 Try.results54 _ _ _) rfl ?_
    exact ⟨⟨.slice none 0 0, by rw [hA.out.1]; rfl, by rw [hA.out.2]; exact World.ownsRow_nil _ _ _ 1⟩, hB⟩

set_option maxRecDepth 10000 in
set_option maxHeartbeats 8000000 in
theorem vtakebytes_own : TakeBytesOw := by
  intro sp len cap hlen hcap hnil z hz most hm w hs
  go_enter Try.func55, Try.ntmps55
  go_upto_region 1 with fail
  refine wp_region_list ?_
  refine pureL (.slice sp len cap) rfl (fun _ => by kernel_rfl) ?_
  simp only [aP, lI, l0, lS]
  refine callL rfl (fun _ => by kernel_rfl) (along_any sp len cap hcap hnil z _ hs) ?_
  rintro e w1 ⟨B, rfl, T⟩
  refine ⟨_, rfl, ?_⟩
  simp only [aP, lI, l0, lS]
  refine pureL (.tuple #[(.func (.func 60) #[] #[.pointer (some ⟨B, 0, none⟩)]), (.func (.func 61) #[] #[.pointer (some ⟨B, 0, none⟩)])]) rfl (fun _ => by kernel_rfl) ?_
  simp only [aP, lI, l0, lS]
  refine pureL (.func (.func 60) #[] #[.pointer (some ⟨B, 0, none⟩)]) rfl (fun _ => by kernel_rfl) ?_
  simp only [aP, lI, l0, lS]
  refine pureL (.func (.func 61) #[] #[.pointer (some ⟨B, 0, none⟩)]) rfl (fun _ => by kernel_rfl) ?_
  simp only [aP, lI, l0, lS]
  refine pureL (.func (.func 60) #[] #[.pointer (some ⟨B, 0, none⟩)]) rfl (fun _ => by kernel_rfl) ?_
  simp only [aP, lI, l0, lS]
  refine pureL (.func (.func 61) #[] #[.pointer (some ⟨B, 0, none⟩)]) rfl (fun _ => by kernel_rfl) ?_
  simp only [aP, lI, l0, lS]
  show Exit.then _ _ _ _ _
  go_upto_region 2 with fail
  refine wp_region_list ?_
  refine pureL (.func (.func 60) #[] #[.pointer (some ⟨B, 0, none⟩)]) rfl (fun _ => by kernel_rfl) ?_
  simp only [aP, lI, l0, lS]
  refine callL rfl (fun _ => by kernel_rfl) (number_any w B len z hz _ T) ?_
  rintro e w2 ⟨rfl, hB, T2⟩
  clear T
  refine ⟨_, rfl, ?_⟩
  simp only [aP, lI, l0, lS]
  refine pureL (.tuple #[(.int .i64 (tN len z)), (.int .i64 (tE len z))]) rfl (fun _ => by kernel_rfl) ?_
  simp only [aP, lI, l0, lS]
  refine pureL (.int .i64 (tN len z)) rfl (fun _ => by kernel_rfl) ?_
  simp only [aP, lI, l0, lS]
  refine pureL (.int .i64 (tE len z)) rfl (fun _ => by kernel_rfl) ?_
  simp only [aP, lI, l0, lS]
  refine pureL (.int .i64 (tN len z)) rfl (fun _ => by kernel_rfl) ?_
  simp only [aP, lI, l0, lS]
  refine pureL (.int .i64 (tE len z)) rfl (fun _ => by kernel_rfl) ?_
  simp only [aP, lI, l0, lS]
  show Exit.then _ _ _ _ _
  by_cases h1 : tE len z = 0
  · have hN0 : 0 ≤ tN len z := by
      obtain ⟨q1, q2, q3⟩ := tE_ok h1
      unfold tN
      rw [if_pos h1]
      have hk := tK_four (z 0) (hz 0 q1)
      exact (tV_nonneg z len hz _ (by omega)).1
    have hxe : xE len z most = if most < tN len z then 2 else if ((tL len z : Nat) : Int) < tN len z then 3 else 0 := by unfold xE; rw [if_neg (fun h => h h1)]
    have hle : tL len z ≤ len := by unfold tL; rw [if_pos h1]; omega
    replace T2 := T2 h1
    go_upto_region 3 with fail
    refine wp_region_list ?_
    refine pureL (.int .i64 (tE len z)) rfl (fun _ => by kernel_rfl) ?_
    simp only [aP, lI, l0, lS]
    refine pureL (.bool false) rfl (fun w => neqI .i64 _ _ _ _ _ _ rfl rfl rfl false (by simp [h1]) w) ?_
    simp only [aP, lI, l0, lS]
    show Exit.then _ _ _ _ _
    obtain ⟨nn, hnn⟩ := Int.eq_ofNat_of_zero_le hN0
    have hyr : yR len z = fun j => tR z (nn + j) := by unfold yR; rw [hnn, Int.toNat_natCast]
    have hxl : xE len z most = 0 → xL len z most = nn ∧ yL len z most = tL len z - nn := fun h => by
      unfold xL yL
      rw [if_pos h, if_pos h, hnn, Int.toNat_natCast]
      exact ⟨rfl, rfl⟩
    rw [hnn] at hxe ⊢
    clear hnn hN0
    generalize tL len z = tl at *
    by_cases h2 : most < (nn : Int)
    · have hX : xE len z most = 2 := by rw [hxe, if_pos h2]
      clear hxl hxe hyr
      have hL : xL len z most = 0 := by unfold xL; rw [if_neg (by rw [hX]; decide)]
      have hY : yL len z most = 0 := by unfold yL; rw [if_neg (by rw [hX]; decide)]
      have hA := show Hid _ from (And.intro hL (And.intro hY hX))
      clear hL hY hX
      go_upto_region 5 with fail
      refine wp_region_list ?_
      refine pureL (.int .i64 (nn : Int)) rfl (fun _ => by kernel_rfl) ?_
      simp only [aP, lI, l0, lS]
      refine pureL (.int .i64 most) rfl (fun _ => by kernel_rfl) ?_
      simp only [aP, lI, l0, lS]
      refine pureL (.bool true) rfl (fun w => gtrI .i64 _ _ _ _ _ _ rfl rfl rfl true (decide_eq_true (by omega)) w) ?_
      simp only [aP, lI, l0, lS]
      show Exit.then _ _ _ _ _
      go_wp2
      refine bodyPost_ret (results_tmp3 Try.results55 _ _ _) rfl ?_
      exact ⟨⟨.slice none 0 0, .slice none 0 0, by rw [hA.out.2.2]; rfl, by rw [hA.out.1, hA.out.2.1]; exact ⟨World.ownsRow_nil _ _ _ 1, World.ownsRow_nil _ _ _ 1⟩⟩, hB⟩
    · go_upto_region 5 with fail
      refine wp_region_list ?_
      refine pureL (.int .i64 (nn : Int)) rfl (fun _ => by kernel_rfl) ?_
      simp only [aP, lI, l0, lS]
      refine pureL (.int .i64 most) rfl (fun _ => by kernel_rfl) ?_
      simp only [aP, lI, l0, lS]
      refine pureL (.bool false) rfl (fun w => gtrI .i64 _ _ _ _ _ _ rfl rfl rfl false (decide_eq_false (by omega)) w) ?_
      simp only [aP, lI, l0, lS]
      show Exit.then _ _ _ _ _
      go_upto_region 7 with fail
      refine wp_region_list ?_
      refine pureL (.func (.func 60) #[] #[.pointer (some ⟨B, 0, none⟩)]) rfl (fun _ => by kernel_rfl) ?_
      simp only [aP, lI, l0, lS]
      refine pureL (.int .i64 (nn : Int)) rfl (fun _ => by kernel_rfl) ?_
      simp only [aP, lI, l0, lS]
      refine callL rfl (fun _ => by kernel_rfl) (next_any w B tl (tR z) nn _ T2) ?_
      intro e w3 h
      clear T2
      rcases h with ⟨h3, rfl, T⟩ | ⟨h3, dp, dc, rfl, hdc, hdn, hds, T⟩
      · have hX : xE len z most = 3 := by rw [hxe, if_neg h2, if_pos (by omega)]
        clear hxl hxe hyr
        have hL : xL len z most = 0 := by unfold xL; rw [if_neg (by rw [hX]; decide)]
        have hY : yL len z most = 0 := by unfold yL; rw [if_neg (by rw [hX]; decide)]
        have hA := show Hid _ from (And.intro hL (And.intro hY hX))
        clear hL hY hX
        replace hB := T.below
        refine ⟨_, rfl, ?_⟩
        simp only [aP, lI, l0, lS]
        refine pureL (.tuple #[(.slice none 0 0), .bool false]) rfl (fun _ => by kernel_rfl) ?_
        simp only [aP, lI, l0, lS]
        refine pureL (.slice none 0 0) rfl (fun _ => by kernel_rfl) ?_
        simp only [aP, lI, l0, lS]
        refine pureL (.bool false) rfl (fun _ => by kernel_rfl) ?_
        simp only [aP, lI, l0, lS]
        refine pureL (.slice none 0 0) rfl (fun _ => by kernel_rfl) ?_
        simp only [aP, lI, l0, lS]
        refine pureL (.bool false) rfl (fun _ => by kernel_rfl) ?_
        simp only [aP, lI, l0, lS]
        show Exit.then _ _ _ _ _
        go_upto_region 8 with fail
        refine wp_region_list ?_
        refine pureL (.bool false) rfl (fun _ => by kernel_rfl) ?_
        simp only [aP, lI, l0, lS]
        refine pureL (.bool true) rfl (fun _ => by kernel_rfl) ?_
        simp only [aP, lI, l0, lS]
        show Exit.then _ _ _ _ _
        go_wp2
        refine bodyPost_ret (results_tmp3 Try.results55 _ _ _) rfl ?_
        exact ⟨⟨.slice none 0 0, .slice none 0 0, by rw [hA.out.2.2]; rfl, by rw [hA.out.1, hA.out.2.1]; exact ⟨World.ownsRow_nil _ _ _ 1, World.ownsRow_nil _ _ _ 1⟩⟩, hB⟩
      · have hX : xE len z most = 0 := by rw [hxe, if_neg h2, if_neg (by omega)]
        have hA := show Hid _ from (And.intro (hxl hX).1 (And.intro (hxl hX).2 (And.intro hX hyr)))
        clear hxl hxe hX hyr
        refine ⟨_, rfl, ?_⟩
        simp only [aP, lI, l0, lS]
        refine pureL (.tuple #[(.slice dp nn dc), .bool true]) rfl (fun _ => by kernel_rfl) ?_
        simp only [aP, lI, l0, lS]
        refine pureL (.slice dp nn dc) rfl (fun _ => by kernel_rfl) ?_
        simp only [aP, lI, l0, lS]
        refine pureL (.bool true) rfl (fun _ => by kernel_rfl) ?_
        simp only [aP, lI, l0, lS]
        refine pureL (.slice dp nn dc) rfl (fun _ => by kernel_rfl) ?_
        simp only [aP, lI, l0, lS]
        refine pureL (.bool true) rfl (fun _ => by kernel_rfl) ?_
        simp only [aP, lI, l0, lS]
        show Exit.then _ _ _ _ _
        go_upto_region 8 with fail
        refine wp_region_list ?_
        refine pureL (.bool true) rfl (fun _ => by kernel_rfl) ?_
        simp only [aP, lI, l0, lS]
        refine pureL (.bool false) rfl (fun _ => by kernel_rfl) ?_
        simp only [aP, lI, l0, lS]
        show Exit.then _ _ _ _ _
        go_upto_region 10 with fail
        refine wp_region_list ?_
        refine pureL (.slice dp nn dc) rfl (fun _ => by kernel_rfl) ?_
        simp only [aP, lI, l0, lS]
        refine callL rfl (fun _ => by kernel_rfl) (clone_any dp nn dc (by omega) hdc hdn (tR z) _ (hds.below T.below (Nat.le_refl _))) ?_
        rintro e w4 ⟨u, rfl, hP, l⟩
        obtain ⟨tp, tc, rfl, _, _⟩ := hP.bytes
        replace hP := hP.lower T.below.size
        replace T := T.call l
        replace hB := T.below
        refine ⟨_, rfl, ?_⟩
        simp only [aP, lI, l0, lS]
        refine pureL (.func (.func 61) #[] #[.pointer (some ⟨B, 0, none⟩)]) rfl (fun _ => by kernel_rfl) ?_
        simp only [aP, lI, l0, lS]
        refine callL rfl (fun _ => by kernel_rfl) (left_any w B _ (by omega) _ _ T) ?_
        rintro e w5 ⟨v, rfl, hO, l⟩
        obtain ⟨rp, rc, rfl, _, _⟩ := hO.bytes
        replace hO := hO.lower hB.size
        replace hB := hB.trans (l.mono hB.size)
        replace hP := hP.below l
        refine ⟨_, rfl, ?_⟩
        simp only [aP, lI, l0, lS]
        refine pureL (.slice tp nn tc) rfl (fun _ => by kernel_rfl) ?_
        simp only [aP, lI, l0, lS]
        refine pureL (.slice rp (tl - nn) rc) rfl (fun _ => by kernel_rfl) ?_
        simp only [aP, lI, l0, lS]
        refine pureL (.int .i64 0) rfl (fun _ => by kernel_rfl) ?_
        simp only [aP, lI, l0, lS]
        clear T l
        show Exit.then _ _ _ _ _
        go_wp2
        refine bodyPost_ret (results_tmp3 Try.results55 _ _ _) rfl ?_
        exact ⟨⟨_, _, by rw [hA.out.2.2.1]; rfl, by rw [hA.out.1, hA.out.2.1, hA.out.2.2.2]; exact ⟨hP, hO⟩⟩, hB⟩
  · have hX : xE len z most = tE len z := by unfold xE; rw [if_pos h1]
    clear T2
    have hL : xL len z most = 0 := by unfold xL; rw [if_neg (by rw [hX]; exact h1)]
    have hY : yL len z most = 0 := by unfold yL; rw [if_neg (by rw [hX]; exact h1)]
    have hA := show Hid _ from (And.intro hL (And.intro hY hX))
    clear hL hY hX
    go_upto_region 3 with fail
    refine wp_region_list ?_
    refine pureL (.int .i64 (tE len z)) rfl (fun _ => by kernel_rfl) ?_
    simp only [aP, lI, l0, lS]
    refine pureL (.bool true) rfl (fun w => neqI .i64 _ _ _ _ _ _ rfl rfl rfl true (by simp [h1]) w) ?_
    simp only [aP, lI, l0, lS]
    show Exit.then _ _ _ _ _
    go_wp2
    refine bodyPost_ret (results_tmp3 Try.results55 _ _ _) rfl ?_
    exact ⟨⟨.slice none 0 0, .slice none 0 0, by rw [hA.out.2.2]; rfl, by rw [hA.out.1, hA.out.2.1]; exact ⟨World.ownsRow_nil _ _ _ 1, World.ownsRow_nil _ _ _ 1⟩⟩, hB⟩
end Go.Proofs.Yteaamgjlkohfcaa

namespace Go.Proofs.Yteaamgjlkohfcaa
open Go.RowKit

/-- What a number taken leaves: the error, the number, the rest. -/
def lE (b : List Int) : Int := tE b.length (bl b)
def lN (b : List Int) : Int := tN b.length (bl b)
def lR (b : List Int) : List Int := if lE b = 0 then b.drop (tK (bl b 0)) else []
theorem nm_ok {b : List Int} (h : lE b = 0) : nm b = .ok (lN b, lR b) := by unfold nm lR; rw [h]; unfold lE at h; rw [h]; rfl
theorem nm_err {b : List Int} (h : lE b ≠ 0) : nm b = .error (lE b) := by unfold nm; unfold lE at h ⊢; rw [if_neg h]
theorem lR_len (b : List Int) : (lR b).length = tL b.length (bl b) := by
  unfold lR tL
  by_cases h : lE b = 0
  · rw [if_pos h, if_pos (show tE b.length (bl b) = 0 from h), List.length_drop]
  · rw [if_neg h, if_neg (show ¬ tE b.length (bl b) = 0 from h)]
    rfl
theorem lR_bl (b : List Int) (j : Nat) (hj : j < tL b.length (bl b)) : tR (bl b) j = bl (lR b) j := by
  have h : lE b = 0 := by
    by_cases h : lE b = 0
    · exact h
    · unfold tL at hj; rw [if_neg (show ¬ tE b.length (bl b) = 0 from h)] at hj; omega
  unfold lR
  rw [if_pos h, bl_drop]
  rfl
theorem lR_le (b : List Int) : (lR b).length ≤ b.length := by rw [lR_len]; unfold tL; split <;> omega
theorem lR_byts {b : List Int} (h : Byts b) : Byts (lR b) := by
  unfold lR
  split
  · exact h.drop _
  · intro x hx; cases hx
theorem lN_pos {b : List Int} (hb : Byts b) (h : lE b = 0) : 0 ≤ lN b ∧ lN b < 4611686018427387904 := by
  have := nm_back hb (nm_ok h)
  exact ⟨this.1, this.2.1⟩
theorem fp_err {k : Int} {b : List Int} (hk : ¬ (k = 3 ∨ k = 4)) (h : lE b ≠ 0) : fp k b = .error (lE b) := by unfold fp; rw [if_neg hk, nm_err h]
theorem fp_plain {k : Int} {b : List Int} (hk : ¬ (k = 3 ∨ k = 4)) (h1 : ¬ k = 1) (h2 : ¬ (k = 2 ∨ k = 7)) (h : lE b = 0) : fp k b = .ok (⟨k, lN b, 0, [], [], z8⟩, lR b) := by unfold fp; rw [if_neg hk, nm_ok h]; simp only; rw [if_neg h1, if_neg h2]
theorem fp_data {b : List Int} (h : lE b = 0) : fp 1 b = match tx (lR b) with
    | .error e => .error e
    | .ok (t, r) => .ok (⟨1, lN b, 0, [], t, z8⟩, r) := by unfold fp; rw [if_neg (by decide), nm_ok h]; rfl
theorem fp_lim {k : Int} {b : List Int} (hk : ¬ (k = 3 ∨ k = 4)) (h1 : ¬ k = 1) (h2 : k = 2 ∨ k = 7) (h : lE b = 0) (h' : lE (lR b) ≠ 0) : fp k b = .error (lE (lR b)) := by unfold fp; rw [if_neg hk, nm_ok h]; simp only; rw [if_neg h1, if_pos h2, nm_err h']
theorem rd_gap {n : Nat} {last : Int} {b : List Int} (h : lE b ≠ 0) : rd (n + 1) last b = .error (lE b) := by unfold rd; rw [nm_err h]
theorem rd_len {n : Nat} {last : Int} {b : List Int} (h : lE b = 0) (h' : lE (lR b) ≠ 0) : rd (n + 1) last b = .error (lE (lR b)) := by unfold rd; rw [nm_ok h]; simp only; rw [nm_err h']
theorem rd_far {n : Nat} {last : Int} {b : List Int} (h : lE b = 0) (h' : lE (lR b) = 0) (hf : MX - last < lN b ∨ MX - last - lN b < lN (lR b)) : rd (n + 1) last b = .error 100 := by unfold rd; rw [nm_ok h]; simp only; rw [nm_ok h']; simp only; rw [if_pos hf]
def rcons (p : Int × Int) : Except Int (List (Int × Int) × List Int) → Except Int (List (Int × Int) × List Int)
  | .error e => .error e
  | .ok (q, r) => .ok (p :: q, r)
theorem rd_one {n : Nat} {last : Int} {b : List Int} (h : lE b = 0) (h' : lE (lR b) = 0) (hf : ¬ (MX - last < lN b ∨ MX - last - lN b < lN (lR b))) : rd (n + 1) last b = rcons (last + lN b, last + lN b + lN (lR b)) (rd n (last + lN b + lN (lR b)) (lR (lR b))) := by
  show (match nm b with | .error e => _ | .ok (g, b1) => _) = _
  rw [nm_ok h]; simp only; rw [nm_ok h']; simp only; rw [if_neg hf]; rcases rd n (last + lN b + lN (lR b)) (lR (lR b)) with e | ⟨rs, r⟩ <;> rfl
end Go.Proofs.Yteaamgjlkohfcaa

namespace Go.Proofs.Yteaamgjlkohfcaa
open Go.RowKit

/-- A frame whose bytes and ranges lie in none of the blocks X. -/
structure FA (X : List Nat) (w : World) (f : Frm) (rp : Option Addr) (rc : Nat) (bp : Option Addr) (bc : Nat) : Prop where
  fv : FV w f rp rc bp bc
  roff : ∀ ad, rp = some ad → 0 < f.rg.length → ad.block ∉ X
  boff : ∀ ad, bp = some ad → 0 < f.byt.length → ad.block ∉ X
theorem FA.off {X : List Nat} {w w' : World} {f : Frm} {rp bp : Option Addr} {rc bc : Nat} (h : FA X w f rp rc bp bc) (o : Off X w w') : FA X w' f rp rc bp bc :=
  ⟨{ h.fv with
      rg := fun j hj => by
        obtain ⟨ad, rfl, h1, h2⟩ := h.fv.rg j hj
        have hX := h.roff ad rfl (by omega)
        exact ⟨ad, rfl, o.cell h1 (by rw [add_block]; exact hX), o.cell h2 (by rw [add_block, add_block]; exact hX)⟩
      src := (SrcA.off ⟨h.fv.src, h.boff⟩ o).1 }, h.roff, h.boff⟩
theorem FA.more {X : List Nat} {w : World} {f : Frm} {rp bp : Option Addr} {rc bc : Nat} (h : FA X w f rp rc bp bc) (b : Nat) (hb : w.heap.size ≤ b) : FA (b :: X) w f rp rc bp bc :=
  ⟨h.fv, fun ad e hn hm => by
    subst e
    obtain ⟨ad', e', hc, _⟩ := h.fv.rg 0 hn
    injection e' with e'
    subst e'
    have := World.block_lt_of_cell? w _ hc
    rw [add_block] at this
    rcases List.mem_cons.1 hm with h' | hm
    · omega
    · exact h.roff ad rfl hn hm, (SrcA.more ⟨h.fv.src, h.boff⟩ b hb).2⟩
theorem FA.less {X Y : List Nat} {w : World} {f : Frm} {rp bp : Option Addr} {rc bc : Nat} (h : FA X w f rp rc bp bc) (hY : ∀ b ∈ Y, b ∈ X) : FA Y w f rp rc bp bc := ⟨h.fv, fun ad e hn hm => h.roff ad e hn (hY _ hm), fun ad e hn hm => h.boff ad e hn (hY _ hm)⟩
theorem z8_w : Byts z8 := by intro x hx; simp [z8] at hx; omega
theorem i64_lN {b : List Int} (hb : Byts b) (h : lE b = 0) : i64 (lN b) := by have := lN_pos hb h; unfold i64; omega
/-- A text, as TakeBytes takes it. -/
def qE (b : List Int) : Int := xE b.length (bl b) 128
def qT (b : List Int) : List Int := if qE b = 0 then (lR b).take (lN b).toNat else []
def qR (b : List Int) : List Int := if qE b = 0 then (lR b).drop (lN b).toNat else []
theorem qE_cases (b : List Int) : (lE b ≠ 0 ∧ qE b = lE b ∧ tx b = .error (lE b)) ∨ (lE b = 0 ∧ 128 < lN b ∧ qE b = 2 ∧ tx b = .error 2) ∨ (lE b = 0 ∧ ¬ 128 < lN b ∧ ((lR b).length : Int) < lN b ∧ qE b = 3 ∧ tx b = .error 3) ∨ (lE b = 0 ∧ ¬ 128 < lN b ∧ ¬ ((lR b).length : Int) < lN b ∧ qE b = 0 ∧ tx b = .ok ((lR b).take (lN b).toNat, (lR b).drop (lN b).toNat)) := by
  by_cases h : lE b = 0
  · have hq : qE b = if 128 < lN b then 2 else if ((tL b.length (bl b) : Nat) : Int) < lN b then 3 else 0 := by
      unfold qE xE
      rw [if_neg (fun h' => h' h)]
      rfl
    rw [← lR_len] at hq
    have ht : tx b = if 128 < lN b then .error 2 else if ((lR b).length : Int) < lN b then .error 3 else .ok ((lR b).take (lN b).toNat, (lR b).drop (lN b).toNat) := by unfold tx; rw [nm_ok h]
    by_cases c1 : 128 < lN b
    · rw [if_pos c1] at hq ht
      exact .inr (.inl ⟨h, c1, hq, ht⟩)
    · rw [if_neg c1] at hq ht
      by_cases c2 : ((lR b).length : Int) < lN b
      · rw [if_pos c2] at hq ht
        exact .inr (.inr (.inl ⟨h, c1, c2, hq, ht⟩))
      · rw [if_neg c2] at hq ht
        exact .inr (.inr (.inr ⟨h, c1, c2, hq, ht⟩))
  · refine .inl ⟨h, ?_, by unfold tx; rw [nm_err h]⟩
    unfold qE xE
    rw [if_pos (show tE b.length (bl b) ≠ 0 from h)]
    rfl
theorem tx_ok {b : List Int} (h : qE b = 0) : tx b = .ok (qT b, qR b) := by
  rcases qE_cases b with ⟨h1, h2, _⟩ | ⟨_, _, h2, _⟩ | ⟨_, _, _, h2, _⟩ | ⟨_, _, _, h2, h3⟩
  · omega
  · omega
  · omega
  · rw [h3]; unfold qT qR; rw [if_pos h, if_pos h]
theorem tx_err {b : List Int} (h : qE b ≠ 0) : tx b = .error (qE b) := by
  rcases qE_cases b with ⟨h1, h2, h3⟩ | ⟨_, _, h2, h3⟩ | ⟨_, _, _, h2, h3⟩ | ⟨_, _, _, h2, h3⟩
  · rw [h2, h3]
  · rw [h2, h3]
  · rw [h2, h3]
  · omega
theorem q_len (b : List Int) (hb : Byts b) : (qT b).length = xL b.length (bl b) 128 ∧ (qR b).length = yL b.length (bl b) 128 ∧ (∀ j, j < xL b.length (bl b) 128 → tR (bl b) j = bl (qT b) j) ∧ ∀ j, j < yL b.length (bl b) 128 → yR b.length (bl b) j = bl (qR b) j := by
  by_cases h : qE b = 0
  · have hx : xL b.length (bl b) 128 = (lN b).toNat := by unfold xL; rw [if_pos (show xE b.length (bl b) 128 = 0 from h)]; rfl
    have hy : yL b.length (bl b) 128 = (lR b).length - (lN b).toNat := by unfold yL; rw [if_pos (show xE b.length (bl b) 128 = 0 from h), lR_len]; rfl
    rcases qE_cases b with ⟨h1, h2, _⟩ | ⟨_, _, h2, _⟩ | ⟨_, _, _, h2, _⟩ | ⟨h0, _, h4, _, _⟩
    · omega
    · omega
    · omega
    · have hp := lN_pos hb h0
      have hln : (lN b).toNat ≤ (lR b).length := by omega
      have hl : ∀ j, j < (lR b).length → tR (bl b) j = bl (lR b) j := fun j hj => lR_bl b j (by rw [← lR_len]; exact hj)
      rw [hx, hy]
      unfold qT qR
      rw [if_pos h, if_pos h]
      refine ⟨by rw [List.length_take]; omega, by rw [List.length_drop], fun j hj => ?_, fun j hj => ?_⟩
      · rw [bl_take _ _ _ hj]; exact hl j (by omega)
      · rw [bl_drop]; exact hl ((lN b).toNat + j) (by omega)
  · have hx : xL b.length (bl b) 128 = 0 := by unfold xL; rw [if_neg (show ¬ xE b.length (bl b) 128 = 0 from h)]
    have hy : yL b.length (bl b) 128 = 0 := by unfold yL; rw [if_neg (show ¬ xE b.length (bl b) 128 = 0 from h)]
    rw [hx, hy]
    unfold qT qR
    rw [if_neg h, if_neg h]
    exact ⟨rfl, rfl, fun j hj => by omega, fun j hj => by omega⟩
theorem qT_le (b : List Int) : (qT b).length ≤ 128 := by
  unfold qT
  split
  · rename_i h
    rcases qE_cases b with ⟨h1, h2, _⟩ | ⟨_, _, h2, _⟩ | ⟨_, _, _, h2, _⟩ | ⟨_, h3, _, _, _⟩
    · omega
    · omega
    · omega
    · rw [List.length_take]; omega
  · exact Nat.zero_le _
theorem qR_le (b : List Int) : (qR b).length ≤ b.length := by
  have := lR_le b
  unfold qR
  split
  · rw [List.length_drop]; omega
  · exact Nat.zero_le _
theorem qT_byts {b : List Int} (h : Byts b) : Byts (qT b) := by
  unfold qT
  split
  · exact (lR_byts h).take _
  · intro x hx; cases hx
theorem qR_byts {b : List Int} (h : Byts b) : Byts (qR b) := by
  unfold qR
  split
  · exact (lR_byts h).drop _
  · intro x hx; cases hx
theorem fv_nil (w : World) (k a : Int) (tk : List Int) (hk : i64 k) (ha : i64 a) (ht : Byts tk) (h8 : tk.length = 8) : FV w ⟨k, a, 0, [], [], tk⟩ none 0 none 0 :=
  ⟨fun j hj => absurd hj (Nat.not_lt_zero j), Nat.le_refl _, fun _ => rfl, Nat.zero_le _, fun j hj => absurd hj (Nat.not_lt_zero j), Nat.le_refl _, fun _ => rfl, Nat.zero_le _, ⟨fun x hx => (by cases hx), ht, h8⟩, hk, ha, show i64 0 by unfold i64; decide⟩
theorem fa_nil (X : List Nat) (w : World) (k a : Int) (tk : List Int) (hk : i64 k) (ha : i64 a) (ht : Byts tk) (h8 : tk.length = 8) : FA X w ⟨k, a, 0, [], [], tk⟩ none 0 none 0 :=
  ⟨fv_nil w k a tk hk ha ht h8, fun _ e => (by cases e), fun _ e => (by cases e)⟩

end Go.Proofs.Yteaamgjlkohfcaa

namespace Go.Proofs.Yteaamgjlkohfcaa
open Go.RowKit

theorem Mm.there {w0 w : World} {l : List (Nat × List Value)} (h : Mm w0 l w) {b : Nat} {cs : List Value} (hp : (b, cs) ∈ l) (n : Nat) (hn : n = cs.length) : w.there b 0 n := fun j hj => by
  rw [Nat.zero_add]
  exact ⟨h.isSome hp j (by omega), h.free hp j (by omega)⟩
theorem Mm.setAll {w0 w : World} {l : List (Nat × List Value)} {b : Nat} {cs : List Value} (h : Mm w0 ((b, cs) :: l) w) (ds : List Value) (hd : ds.length = cs.length) : Mm w0 ((b, ds) :: l) (w.setCells b 0 ds) := by
  have hb := h.rows _ List.mem_cons_self
  have hne := (List.pairwise_cons.1 h.apart).1
  have hall : ∀ j, j < ds.length → (w.cell? ⟨b, 0 + j, none⟩).isSome = true := fun j hj => by rw [Nat.zero_add]; exact h.isSome List.mem_cons_self j (by omega)
  refine ⟨fun p hp => ?_, List.pairwise_cons.2 ⟨hne, (List.pairwise_cons.1 h.apart).2⟩, below_setAll h.below b hb.2.1 0 ds⟩
  rcases List.mem_cons.1 hp with rfl | hp
  · refine ⟨fun j hj => ⟨?_, by rw [World.frozen?_setCells]; exact (hb.1 j (by have hj' : j < ds.length := hj; show j < cs.length; omega)).2⟩, hb.2.1, by rw [size_setAll]; exact hb.2.2⟩
    simp only at hj ⊢
    have e := World.cell?_setCells_in b ds 0 w hall j hj
    rw [Nat.zero_add] at e
    rw [e, List.getElem?_eq_getElem hj]
  · have h2 := h.rows p (List.mem_cons_of_mem _ hp)
    refine ⟨fun j hj => ⟨?_, by rw [World.frozen?_setCells]; exact (h2.1 j hj).2⟩, h2.2.1, by rw [size_setAll]; exact h2.2.2⟩
    rw [World.cell?_setCells_out b ds 0 w ⟨p.1, j, none⟩ (fun e _ => absurd e.symm (hne p hp))]
    exact (h2.1 j hj).1
theorem Off.setAll {X : List Nat} {w w1 : World} (h : Off X w w1) {b : Nat} (hb : b ∈ X) : ∀ (o : Nat) (vs : List Value), Off X w (w1.setCells b o vs)
  | _, [] => h
  | o, v :: vs => (h.set hb o v).setAll hb (o + 1) vs
theorem Src.at {w : World} {ad : Addr} {n : Nat} {z : Nat → Int} (h : Src w (some ad) n z) (j : Nat) (hj : j < n) : w.cell? (ad.add j) = some (.int .u8 (z j)) := by
  obtain ⟨ad', e, hc⟩ := h j hj
  injection e with e
  subst e
  exact hc
theorem cut_loA {P : Program} {t : TypeId} (ht : P.underlying t = some (.slice (P.elem t))) (hsz : ∀ w, (sizeOf (P.elem t)).run P w = .ok 1 w) (sp : Option Addr) (len cap m : Nat) (hm : m ≤ len) (hc : len ≤ cap) (hn : sp = none → cap = 0) :
    ∃ sp', (∀ w, (Instr.sliceAt t (.slice sp len cap) (some (.int .i64 (m : Int))) none none).run P w = .ok (.slice sp' (len - m) (cap - m)) w) ∧ (∀ X w z, SrcA X w sp len z → SrcA X w sp' (len - m) (fun j => z (m + j))) ∧ (sp' = none → cap - m = 0) := by
  refine ⟨if cap = m then sp else sp.map (·.add (m * 1)), fun w => ?_, fun X w z h => ⟨fun j hj => ?_, fun ad e hp => ?_⟩, fun e => ?_⟩
  · rw [run_sliceAt_slice w t _ _ _ _ ht, run_slice_l w t sp len cap ht .i64 (m : Int) (by omega) (by omega), hsz]
    simp only [Result.andThen, sliced, Int.toNat_natCast]
  · obtain ⟨ad, rfl, hc'⟩ := h.1 (m + j) (by omega)
    rw [if_neg (by omega)]
    exact ⟨ad.add (m * 1), rfl, by rw [Nat.mul_one, Addr.add_add]; exact hc'⟩
  · rw [if_neg (by omega)] at e
    cases sp with
    | none => cases e
    | some a =>
      injection e with e
      subst e
      rw [add_block]
      exact h.2 a rfl (by omega)
  · by_cases hm : cap = m
    · omega
    · rw [if_neg hm] at e
      cases sp with
      | none => have := hn rfl; omega
      | some ad => cases e
end Go.Proofs.Yteaamgjlkohfcaa
