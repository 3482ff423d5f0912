/- Texts of Base Pt Ky Step Kr Float Sr Gn Hold Ar Er Ow Sc Mk Om Pz Mw Az Zr Gw, joined. -/
import Derived.WalkKit
import Derived.WalkSpells
import Derived.Deep.RegionHeld3
import Derived.RowKit3
import Derived.Deep.QuietTactic
import Derived.Test.YteclkiabkdaklaaDoorProg
import Derived.KernelRfl
import Derived.Stop.BytesEq
import Derived.Lib.SlBytesConst
import Derived.Laws.BytesArg
import Derived.Laws.Concat
import Derived.Laws.StructEq
import Derived.Laws.Small
import Derived.Laws.AppendOwn
import Derived.Laws.OwnMore
import Derived.Laws.MakeOwn
import Derived.Lib.AppendZerosOnto
import Derived.Deep.DeepAppendWide
import Derived.Deep.Cut
namespace Go.Proofs.YteclkiabkdaklaaDoor
open Go.RowKit

/-- A row of n integers of one kind. -/
def row (k : IntKind) (n : Nat) (f : Nat → Int) : List Value := (List.range n).map fun j => .int k (f j)

theorem row_length (k : IntKind) (n : Nat) (f : Nat → Int) : (row k n f).length = n := by simp [row]
theorem row_get (k : IntKind) (n : Nat) (f : Nat → Int) (j : Nat) (h : j < n) : (row k n f)[j]? = some (.int k (f j)) := by simp [row, h]
theorem row_get_some {k : IntKind} {n : Nat} {f : Nat → Int} {j : Nat} {v : Value} (h : (row k n f)[j]? = some v) : j < n ∧ v = .int k (f j) := by
  have hj : j < n := by
    have := (List.getElem?_eq_some_iff.1 h).1
    rw [row_length] at this; exact this
  rw [row_get k n f j hj] at h
  exact ⟨hj, (Option.some.inj h).symm⟩
theorem row_congr (k : IntKind) (n : Nat) {f g : Nat → Int} (h : ∀ j, j < n → f j = g j) : row k n f = row k n g := by
  unfold row
  refine List.map_congr_left fun j hj => ?_
  rw [h j (List.mem_range.1 hj)]
theorem row_one (k : IntKind) (n : Nat) (f : Nat → Int) : ∀ v ∈ row k n f, v.oneCell' = true := by
  intro v hv
  obtain ⟨j, _, rfl⟩ := List.mem_map.1 hv
  rfl

/-- Block b holds such a row, and it may be written. -/
structure Has (w : World) (b : Nat) (k : IntKind) (n : Nat) (f : Nat → Int) : Prop where
  cell : ∀ j, j < n → w.cell? ⟨b, j, none⟩ = some (.int k (f j))
  free : ∀ j, j < n → w.frozen? ⟨b, j, none⟩ = false

def upd (f : Nat → Int) (i : Nat) (x : Int) : Nat → Int := fun j => if j = i then x else f j
theorem upd_same (f : Nat → Int) (i : Nat) (x : Int) : upd f i x i = x := by simp [upd]
theorem upd_other (f : Nat → Int) (i : Nat) (x : Int) (j : Nat) (h : j ≠ i) : upd f i x j = f j := by simp [upd, h]

theorem Has.drew {w : World} {b : Nat} {k : IntKind} {n : Nat} {f : Nat → Int} (h : Has w b k n f) : Has w.drew b k n f := ⟨h.cell, h.free⟩
theorem Has.congr {w : World} {b : Nat} {k : IntKind} {n : Nat} {f g : Nat → Int} (h : Has w b k n f) (e : ∀ j, j < n → f j = g j) : Has w b k n g :=
  ⟨fun j hj => by rw [← e j hj]; exact h.cell j hj, h.free⟩
theorem Has.new (w : World) (k : IntKind) (n : Nat) (f : Nat → Int) (t : TypeId) (b : Nat) (hb : b = w.heap.size) : Has (w.alloc (.cells (row k n f).toArray t)) b k n f :=
  ⟨fun j hj => by rw [World.cell?_alloc_at _ _ _ _ hb]; simpa using row_get k n f j hj, fun j _ => by rw [World.frozen?_alloc_at _ _ _ _ hb]⟩
theorem Has.alloc {w : World} {b : Nat} {k : IntKind} {n : Nat} {f : Nat → Int} (h : Has w b k n f) (o : Obj) (hb : b < w.heap.size) : Has (w.alloc o) b k n f :=
  ⟨fun j hj => by rw [World.cell?_alloc_past _ _ _ hb]; exact h.cell j hj, fun j hj => by rw [World.frozen?_alloc_past _ _ _ hb]; exact h.free j hj⟩
theorem Has.below {w w' : World} {b : Nat} {k : IntKind} {n : Nat} {f : Nat → Int} (h : Has w b k n f) {B : Nat} (hl : Below B w w') (hb : b < B) : Has w' b k n f :=
  ⟨fun j hj => by rw [hl.cell (p := ⟨b, j, none⟩) hb]; exact h.cell j hj, fun j hj => by rw [hl.frozen (p := ⟨b, j, none⟩) hb]; exact h.free j hj⟩
theorem Has.set {w : World} {b : Nat} {k : IntKind} {n : Nat} {f : Nat → Int} (h : Has w b k n f) (i : Nat) (hi : i < n) (x : Int) : Has (w.setCell ⟨b, i, none⟩ (.int k x)) b k n (upd f i x) :=
  ⟨fun j hj => by
    by_cases e : j = i
    · subst e; rw [upd_same, World.cell?_setCell_same _ _ _ (h.cell j hj)]
    · rw [upd_other _ _ _ _ e, World.cell?_setCell_other _ _ _ _ (by intro h'; exact e (by injection h' with _ h2; exact h2.symm))]; exact h.cell j hj,
   fun j hj => by rw [World.frozen?_setCell]; exact h.free j hj⟩
theorem Has.set_other {w : World} {b : Nat} {k : IntKind} {n : Nat} {f : Nat → Int} (h : Has w b k n f) (p : Addr) (v : Value) (hp : p.block ≠ b) : Has (w.setCell p v) b k n f :=
  ⟨fun j hj => by rw [World.cell?_setCell_other _ _ _ _ (by intro h'; exact hp (by rw [h']))]; exact h.cell j hj, fun j hj => by rw [World.frozen?_setCell]; exact h.free j hj⟩
theorem Has.range {w : World} {b : Nat} {k : IntKind} {n : Nat} {f : Nat → Int} (h : Has w b k n f) : w.rangeAt b 0 (row k n f) := fun j v hv => by
  obtain ⟨hj, rfl⟩ := row_get_some hv
  rw [Nat.zero_add]; exact h.cell j hj
theorem Has.there {w : World} {b : Nat} {k : IntKind} {n : Nat} {f : Nat → Int} (h : Has w b k n f) : w.there b 0 n := fun j hj => by
  rw [Nat.zero_add, h.cell j hj]; exact ⟨rfl, h.free j hj⟩
theorem Has.all {w : World} {b : Nat} {n : Nat} (ht : w.there b 0 n) (k : IntKind) (g : Nat → Int) : Has (w.setCells b 0 (row k n g)) b k n g :=
  ⟨fun j hj => by
    have := World.rangeAt_setCells_same w b 0 (row k n g) (by rw [row_length]; exact ht) j _ (row_get k n g j hj)
    rw [Nat.zero_add] at this; exact this,
   fun j hj => by rw [World.frozen?_setCells]; have := (ht j hj).2; rw [Nat.zero_add] at this; exact this⟩

/-- A function whose one result is a row that lies in a variable. -/
theorem results_row {P : Program} {fn : Func} {tmps : Array Value} {w : World} {a : Tmp} {ty : TypeId} {b : Nat} {cs : List Value} {d : TypeDesc} (hr : fn.results = #[.cell a ty])
    (ht : tmps.getD a undef = .pointer (some ⟨b, 0, none⟩)) (hc : w.rangeAt b 0 cs) (hu : P.underlying ty = some d) (hd : d.isRow = true) (hi : (P.info? ty).map (·.size) = some cs.length) :
    (results fn tmps).run P w = .ok (.agg cs.toArray) w := by
  have hl := run_loadVar_mid (P := P) w b 0 ty cs d hc hu hd hi
  rw [Array.getD_eq_getD_getElem?] at ht
  simp [results, hr, ht, asAddr, hl]

/-- A function whose results are such a row and a plain value. -/
theorem results_row_tmp {P : Program} {fn : Func} {tmps : Array Value} {w : World} {a t : Tmp} {ty : TypeId} {b : Nat} {cs : List Value} {d : TypeDesc} {v : Value} (hr : fn.results = #[.cell a ty, .tmp t])
    (ht : tmps.getD a undef = .pointer (some ⟨b, 0, none⟩)) (hv : tmps.getD t undef = v) (hc : w.rangeAt b 0 cs) (hu : P.underlying ty = some d) (hd : d.isRow = true) (hi : (P.info? ty).map (·.size) = some cs.length) :
    (results fn tmps).run P w = .ok (.tuple #[.agg cs.toArray, v]) w := by
  have hl := run_loadVar_mid (P := P) w b 0 ty cs d hc hu hd hi
  rw [Array.getD_eq_getD_getElem?] at ht hv
  simp [results, hr, ht, hv, asAddr, hl]

theorem below_setAll {B : Nat} {w w' : World} (h : Below B w w') (b : Nat) (hb : B ≤ b) : ∀ (o : Nat) (vs : List Value), Below B w (w'.setCells b o vs)
  | _, [] => h
  | o, v :: vs => by
    rw [World.setCells]
    exact below_setAll (h.setCell (by simpa using hb) v) b hb (o + 1) vs

theorem size_setAll (b : Nat) : ∀ (o : Nat) (vs : List Value) (w : World), (w.setCells b o vs).heap.size = w.heap.size
  | _, [], _ => rfl
  | o, v :: vs, w => by rw [World.setCells, size_setAll b (o + 1) vs]; simp
theorem Has.setAll_other {w : World} {b : Nat} {k : IntKind} {n : Nat} {f : Nat → Int} (h : Has w b k n f) (b' : Nat) (hb : b' ≠ b) : ∀ (o : Nat) (vs : List Value), Has (w.setCells b' o vs) b k n f
  | _, [] => h
  | o, v :: vs => by
    rw [World.setCells]
    exact Has.setAll_other (h.set_other _ v hb) b' hb (o + 1) vs

/-- The world has k blocks more at least, and those that stood are as they were. -/
structure Fr (w : World) (k : Nat) (w' : World) : Prop where
  below : Below w.heap.size w w'
  size : w.heap.size + k ≤ w'.heap.size
theorem Fr.refl (w : World) : Fr w 0 w := ⟨Below.refl _ _, by omega⟩
theorem Fr.alloc {w w' : World} {k : Nat} (h : Fr w k w') (o : Obj) : Fr w (k + 1) (w'.alloc o) := ⟨h.below.alloc (by have := h.size; omega) _, by have := h.size; simp; omega⟩
theorem Fr.drew {w w' : World} {k : Nat} (h : Fr w k w') : Fr w k w'.drew := ⟨h.below.drew, h.size⟩
theorem Fr.set {w w' : World} {k : Nat} (h : Fr w k w') (p : Addr) (v : Value) (hp : w.heap.size ≤ p.block) : Fr w k (w'.setCell p v) := ⟨h.below.setCell hp v, by have := h.size; simp; omega⟩
theorem Fr.setAll {w w' : World} {k : Nat} (h : Fr w k w') (b : Nat) (hb : w.heap.size ≤ b) (vs : List Value) : Fr w k (w'.setCells b 0 vs) := ⟨below_setAll h.below b hb 0 vs, by rw [size_setAll]; exact h.size⟩
theorem Fr.call {w w' w'' : World} {k : Nat} (h : Fr w k w') (l : Below w'.heap.size w' w'') : Fr w k w'' :=
  ⟨h.below.trans (l.mono (by have := h.size; omega)), by have := h.size; have := l.size; omega⟩
theorem Has.call {w w' w'' : World} {k' : Nat} {b : Nat} {k : IntKind} {n : Nat} {f : Nat → Int} (h : Has w' b k n f) (g : Fr w k' w') (l : Below w'.heap.size w' w'') (hb : b < w.heap.size + k') : Has w'' b k n f :=
  h.below l (by have := g.size; omega)

/-- Each of the first n is from 0 to below M. -/
def In (M : Int) (n : Nat) (f : Nat → Int) : Prop := ∀ j, j < n → 0 ≤ f j ∧ f j < M

theorem In.upd {M : Int} {n : Nat} {f : Nat → Int} (h : In M n f) (i : Nat) (x : Int) (h0 : 0 ≤ x) (h1 : x < M) : In M n (upd f i x) := fun j hj => by
  by_cases e : j = i
  · subst e; rw [upd_same]; exact ⟨h0, h1⟩
  · rw [upd_other _ _ _ _ e]; exact h j hj

/-- The number of a row, its digits to the base M, the lowest first. -/
def val (M : Int) (f : Nat → Int) : Nat → Int
  | 0 => 0
  | n + 1 => val M f n + M ^ n * f n

theorem val_congr (M : Int) {f g : Nat → Int} : ∀ n, (∀ j, j < n → f j = g j) → val M f n = val M g n
  | 0, _ => rfl
  | n + 1, h => by
    simp only [val]
    rw [val_congr M n (fun j hj => h j (by omega)), h n (by omega)]

theorem val_upd (M : Int) (f : Nat → Int) (i : Nat) (x : Int) (n : Nat) (h : n ≤ i) : val M (upd f i x) n = val M f n :=
  val_congr M n fun j hj => upd_other _ _ _ _ (by omega)

theorem pow_nonneg (M : Int) (h : 0 < M) : ∀ n : Nat, 0 < M ^ n
  | 0 => by simp
  | n + 1 => by rw [Int.pow_succ]; exact Int.mul_pos (pow_nonneg M h n) h

theorem val_in (M : Int) (hM : 0 < M) (f : Nat → Int) : ∀ n, In M n f → 0 ≤ val M f n ∧ val M f n < M ^ n
  | 0, _ => by simp [val]
  | n + 1, h => by
    have ih := val_in M hM f n (fun j hj => h j (by omega))
    have hn := h n (by omega)
    have hp := pow_nonneg M hM n
    simp only [val]
    rw [Int.pow_succ]
    have h1 : 0 ≤ M ^ n * f n := Int.mul_nonneg (by omega) hn.1
    have h2 : M ^ n * (f n + 1) ≤ M ^ n * M := Int.mul_le_mul_of_nonneg_left (by omega) (by omega)
    rw [Int.mul_add, Int.mul_one] at h2
    omega

/-- A number tells its digits. -/
theorem val_inj (M : Int) (hM : 0 < M) (f g : Nat → Int) : ∀ n, In M n f → In M n g → val M f n = val M g n → ∀ j, j < n → f j = g j
  | 0, _, _, _ => fun j hj => by omega
  | n + 1, hf, hg, h => by
    have bf := val_in M hM f n (fun j hj => hf j (by omega))
    have bg := val_in M hM g n (fun j hj => hg j (by omega))
    have hp := pow_nonneg M hM n
    simp only [val] at h
    have e : f n = g n := by
      by_cases hlt : f n < g n
      · have : M ^ n * (f n + 1) ≤ M ^ n * g n := Int.mul_le_mul_of_nonneg_left (by omega) (by omega)
        rw [Int.mul_add, Int.mul_one] at this; omega
      · by_cases hgt : g n < f n
        · have : M ^ n * (g n + 1) ≤ M ^ n * f n := Int.mul_le_mul_of_nonneg_left (by omega) (by omega)
          rw [Int.mul_add, Int.mul_one] at this; omega
        · omega
    have e2 : val M f n = val M g n := by rw [e] at h; omega
    intro j hj
    by_cases hjn : j = n
    · subst hjn; exact e
    · exact val_inj M hM f g n (fun j hj => hf j (by omega)) (fun j hj => hg j (by omega)) e2 j (by omega)

end Go.Proofs.YteclkiabkdaklaaDoor

namespace Go.Proofs.YteclkiabkdaklaaDoor
open Go.RowKit

theorem below_drewN {B : Nat} {w w' : World} (h : Below B w w') {n : Nat} : Below B w (w'.drewN n) := ⟨h.os, h.tape, h.output, h.size, h.block⟩

/-- Part of a row, written anew. -/
def over (f : Nat → Int) (o m : Nat) (g : Nat → Int) : Nat → Int := fun j => if o ≤ j ∧ j < o + m then g (j - o) else f j
theorem Has.part {w : World} {b : Nat} {k : IntKind} {n : Nat} {f : Nat → Int} (h : Has w b k n f) (o m : Nat) (ho : o + m ≤ n) (g : Nat → Int) : Has (w.setCells b o (row k m g)) b k n (over f o m g) := by
  have ht : w.there b o m := fun j hj => by rw [h.cell (o + j) (by omega)]; exact ⟨rfl, h.free (o + j) (by omega)⟩
  refine ⟨fun j hj => ?_, fun j hj => by rw [World.frozen?_setCells]; exact h.free j hj⟩
  unfold over
  by_cases e : o ≤ j ∧ j < o + m
  · rw [if_pos e]
    have := World.rangeAt_setCells_same w b o (row k m g) (by rw [row_length]; exact ht) (j - o) _ (row_get k m g (j - o) (by omega))
    rw [show o + (j - o) = j by omega] at this
    exact this
  · rw [if_neg e]
    have hr : w.rangeAt b j [.int k (f j)] := fun i v hv => by
      rcases i with _ | i
      · obtain rfl : Value.int k (f j) = v := by simpa using hv
        exact h.cell j hj
      · simp at hv
    exact World.rangeAt_setCells_apart hr b o (row k m g) (Or.inr (by rw [row_length]; simp only [List.length_cons, List.length_nil]; omega)) 0 _ rfl
theorem over_in {M : Int} {n o m : Nat} {f g : Nat → Int} (hf : In M n f) (hg : In M m g) : In M n (over f o m g) := fun j hj => by
  unfold over
  split
  · exact hg _ (by omega)
  · exact hf j hj

theorem val_split (M : Int) (f : Nat → Int) (n : Nat) : ∀ k, val M f (n + k) = val M f n + M ^ n * val M (fun j => f (n + j)) k
  | 0 => by simp [val]
  | k + 1 => by
    rw [← Nat.add_assoc]
    simp only [val]
    rw [val_split M f n k, Int.mul_add, ← Int.mul_assoc, Int.pow_add]
    omega
end Go.Proofs.YteclkiabkdaklaaDoor

namespace Go.Proofs.YteclkiabkdaklaaDoor
open Go.RowKit

theorem key_info (f : Nat → Int) : (Tryd.prog.info? 23).map (·.size) = some (row .u8 32 f).length := by rw [row_length]; kernel_rfl
theorem key_info' (f : Nat → Int) : (Tryd.prog.info? 23).map (·.size) = some (row .u8 32 f).toArray.size := by rw [List.size_toArray]; exact key_info f
theorem key_there {w : World} {b : Nat} {f g : Nat → Int} (h : Has w b .u8 32 f) : w.there b 0 (row .u8 32 g).toArray.size := by rw [List.size_toArray, row_length]; exact h.there
theorem key_zero (w : World) (t : TypeId) (b : Nat) (hb : b = w.heap.size) : Has (w.alloc (.cells #[.int .u8 0, .int .u8 0, .int .u8 0, .int .u8 0, .int .u8 0, .int .u8 0, .int .u8 0, .int .u8 0, .int .u8 0, .int .u8 0, .int .u8 0, .int .u8 0, .int .u8 0, .int .u8 0, .int .u8 0, .int .u8 0, .int .u8 0, .int .u8 0, .int .u8 0, .int .u8 0, .int .u8 0, .int .u8 0, .int .u8 0, .int .u8 0, .int .u8 0, .int .u8 0, .int .u8 0, .int .u8 0, .int .u8 0, .int .u8 0, .int .u8 0, .int .u8 0] t)) b .u8 32 (fun _ => 0) := Has.new w .u8 32 (fun _ => 0) t b hb
end Go.Proofs.YteclkiabkdaklaaDoor

namespace Go.Proofs.YteclkiabkdaklaaDoor
open Go.RowKit

section
variable {P : Program} {ops : Array Oper} {Q : Exit → Act → World → Prop} {md : Region.Mode} {S : World → Prop}

/-- A whole row is loaded, and may be loaded first. -/
theorem rowH {i : Nat} {oi : Oper} (dst : Option Tmp) (hdst : oi.dst = dst) {fuel : Nat} {listed : Array Bool} {a : Act} {w : World} (k : IntKind) (n : Nat) (f : Nat → Int) (b : Nat) (ty : TypeId) (x : Operand) (d : TypeDesc) (hi : ops[i]? = some oi)
    (ho : oi.op = .load ty x) (hx : a.eval x = .pointer (some ⟨b, 0, none⟩)) (hw : Region.wanted oi (yielded ops a.tmps) = true)
    (hs : Region.noSelect ops = true) (hf : Region.free md ops listed i = true) (hr : (Region.ready md ops listed).contains i = true)
    (hQ : ∀ c a w, Q (.panic c) (a.put dst (.agg (row k n f).toArray)) w → Q (.panic c) a w)
    (hu : P.underlying ty = some d) (hd : d.isRow = true) (hz : (P.info? ty).map (·.size) = some (row k n f).length)
    (hS : S w) (hh : ∀ w, S w → Has w b k n f)
    (h : wpAnyH P md ops Q S fuel (listed.setIfInBounds i true) (a.put dst (.agg (row k n f).toArray)) w) : wpAnyH P md ops Q S (fuel + 1) listed a w :=
  by
  subst hdst
  exact wpAnyH_take hi hs hf hr hQ (yieldsIf_load_mid hw ty x ho b 0 hx (row k n f) d (fun w' hw' => (hh w' hw').range) hu hd hz) hS h

/-- What looks at no memory is taken first. -/
theorem pureH {i : Nat} {oi : Oper} (dst : Option Tmp) (hdst : oi.dst = dst) {fuel : Nat} {listed : Array Bool} {a : Act} {w : World} (v : Value) (hi : ops[i]? = some oi) (hw : Region.wanted oi (yielded ops a.tmps) = true)
    (hv : ∀ w, (execOp a.eval oi).run P w = .ok (.value v) w)
    (hs : Region.noSelect ops = true) (hf : Region.free md ops listed i = true) (hr : (Region.ready md ops listed).contains i = true)
    (hQ : ∀ c a w, Q (.panic c) (a.put dst v) w → Q (.panic c) a w)
    (hS : S w)
    (h : wpAnyH P md ops Q S fuel (listed.setIfInBounds i true) (a.put dst v) w) : wpAnyH P md ops Q S (fuel + 1) listed a w :=
  by
  subst hdst
  exact wpAnyH_take hi hs hf hr hQ (Or.inl ⟨hw, fun w _ => hv w⟩) hS h

/-- The one operation that may come up is a call. -/
theorem callH {i : Nat} {oi : Oper} (dst : Option Tmp) (hdst : oi.dst = dst) {f : FuncId} {args : Array Value} {R : Ending → World → Prop} {fuel : Nat} {listed : Array Bool} {a : Act} {w : World} (hr : Region.ready md ops listed = [i]) (hi : ops[i]? = some oi)
    (hw : Region.wanted oi (yielded ops a.tmps) = true) (he : ∀ w, (execOp a.eval oi).run P w = .ok (.enter f args) w) (hc : Calls P f args w R)
    (hK : ∀ e w', R e w' → ∃ v, e = .returned v ∧ S w' ∧ wpAnyH P md ops Q S fuel (listed.setIfInBounds i true) (a.put dst v) w') : wpAnyH P md ops Q S (fuel + 1) listed a w :=
  ⟨fun h0 => (by rw [h0] at hr; cases hr), fun j hj => by
    rw [hr] at hj
    obtain rfl := List.mem_singleton.1 hj
    unfold wpOp
    simp only [hi, hw, if_true]
    refine .inl ?_
    unfold Oper.wp
    rw [he w]
    exact hc.mono fun e w' hR => by
      obtain ⟨v, rfl, h⟩ := hK e w' hR
      subst hdst
      exact h⟩

/-- The one operation that may come up changes the world. -/
theorem doesH {i : Nat} {oi : Oper} (dst : Option Tmp) (hdst : oi.dst = dst) {fuel : Nat} {listed : Array Bool} {a : Act} {w w' : World} (hr : Region.ready md ops listed = [i]) (hi : ops[i]? = some oi)
    (hw : Region.wanted oi (yielded ops a.tmps) = true) (he : (execOp a.eval oi).run P w = .ok .skip w') (hS : S w')
    (h : wpAnyH P md ops Q S fuel (listed.setIfInBounds i true) (a.put dst undef) w') : wpAnyH P md ops Q S (fuel + 1) listed a w :=
  ⟨fun h0 => (by rw [h0] at hr; cases hr), fun j hj => by
    rw [hr] at hj
    obtain rfl := List.mem_singleton.1 hj
    unfold wpOp
    simp only [hi, hw, if_true]
    refine .inl ?_
    unfold Oper.wp
    rw [he]
    subst hdst
    exact ⟨hS, h⟩⟩

/-- A whole row is stored. -/
theorem storesH {i : Nat} {oi : Oper} (dst : Option Tmp) (hdst : oi.dst = dst) {fuel : Nat} {listed : Array Bool} {a : Act} {w : World} (k : IntKind) (n : Nat) (f : Nat → Int) (b : Nat) (ty : TypeId) (x y : Operand) (hr : Region.ready md ops listed = [i]) (hi : ops[i]? = some oi)
    (hw : Region.wanted oi (yielded ops a.tmps) = true) (ho : oi.op = .store ty x y) (hx : a.eval x = .pointer (some ⟨b, 0, none⟩)) (hy : a.eval y = .agg (row k n f).toArray)
    (ht : w.there b 0 (row k n f).toArray.size) (hz : (P.info? ty).map (·.size) = some (row k n f).toArray.size) (hS : S (w.setCells b 0 (row k n f)))
    (h : wpAnyH P md ops Q S fuel (listed.setIfInBounds i true) (a.put dst undef) (w.setCells b 0 (row k n f))) : wpAnyH P md ops Q S (fuel + 1) listed a w :=
  doesH dst hdst hr hi hw (by
    unfold execOp
    simp only [ho, hx, hy]
    have e := run_storeAt_mid (P := P) w b 0 ty (row k n f).toArray ht hz (all_oneCell_toArray (row_one k n f))
    simp only [Sem.run_bind, e, Result.andThen_ok, Sem.run_pure]) hS h

/-! The same at a list of operations, whose order is the text's. -/
theorem pureL {o : Oper} {rest : List Oper} {a : Act} {w : World} (v : Value) (hw : Region.wanted o (yielded ops a.tmps) = true) (hv : ∀ w, (execOp a.eval o).run P w = .ok (.value v) w)
    (h : wpList P ops Q rest (a.put o.dst v) w) : wpList P ops Q (o :: rest) a w := by
  unfold wpList
  rw [if_pos hw]
  refine .inl ?_
  unfold Oper.wp
  rw [hv w]
  exact h
theorem rowL {o : Oper} {rest : List Oper} {a : Act} {w : World} (k : IntKind) (n : Nat) (f : Nat → Int) (b : Nat) (ty : TypeId) (x : Operand) (d : TypeDesc) (hw : Region.wanted o (yielded ops a.tmps) = true)
    (ho : o.op = .load ty x) (hx : a.eval x = .pointer (some ⟨b, 0, none⟩)) (hu : P.underlying ty = some d) (hd : d.isRow = true) (hz : (P.info? ty).map (·.size) = some (row k n f).length) (hh : Has w b k n f)
    (h : wpList P ops Q rest (a.put o.dst (.agg (row k n f).toArray)) w) : wpList P ops Q (o :: rest) a w := by
  unfold wpList
  rw [if_pos hw]
  exact .inl (wp_load_mid ty x ho b 0 hx (row k n f) d hh.range hu hd hz h)
theorem callL {o : Oper} {f : FuncId} {args : Array Value} {R : Ending → World → Prop} {rest : List Oper} {a : Act} {w : World} (hw : Region.wanted o (yielded ops a.tmps) = true)
    (he : ∀ w, (execOp a.eval o).run P w = .ok (.enter f args) w) (hc : Calls P f args w R) (hK : ∀ e w', R e w' → ∃ v, e = .returned v ∧ wpList P ops Q rest (a.put o.dst v) w') : wpList P ops Q (o :: rest) a w := by
  unfold wpList
  rw [if_pos hw]
  refine .inl ?_
  unfold Oper.wp
  rw [he w]
  exact hc.mono fun e w' hR => by
    obtain ⟨v, rfl, h⟩ := hK e w' hR
    exact h

theorem allocL {o : Oper} {rest : List Oper} {a : Act} {w : World} (c : Array Value) (t : TypeId) (hw : Region.wanted o (yielded ops a.tmps) = true)
    (hv : ∀ w, (execOp a.eval o).run P w = .ok (.value (.pointer (some ⟨w.heap.size, 0, none⟩))) (w.alloc (.cells c t)))
    (h : wpList P ops Q rest (a.put o.dst (.pointer (some ⟨w.heap.size, 0, none⟩))) (w.alloc (.cells c t))) : wpList P ops Q (o :: rest) a w := by
  unfold wpList
  rw [if_pos hw]
  refine .inl ?_
  unfold Oper.wp
  rw [hv w]
  exact h
theorem storesL {o : Oper} {rest : List Oper} {a : Act} {w : World} (k : IntKind) (n : Nat) (f : Nat → Int) (b : Nat) (ty : TypeId) (x y : Operand) (hw : Region.wanted o (yielded ops a.tmps) = true)
    (ho : o.op = .store ty x y) (hx : a.eval x = .pointer (some ⟨b, 0, none⟩)) (hy : a.eval y = .agg (row k n f).toArray)
    (ht : w.there b 0 (row k n f).toArray.size) (hz : (P.info? ty).map (·.size) = some (row k n f).toArray.size)
    (h : wpList P ops Q rest (a.put o.dst undef) (w.setCells b 0 (row k n f))) : wpList P ops Q (o :: rest) a w := by
  unfold wpList
  rw [if_pos hw]
  exact .inl (wp_store_mid ty x y ho b 0 (row k n f).toArray hx hy ht hz (all_oneCell_toArray (row_one k n f)) h)

end

/-! What stands through calls: blocks with rows of 32 bytes in them. -/
/-- The world at hand holds these rows in these blocks; what stood in 'w' stands. -/
structure Kp (w : World) (l : List (Nat × (Nat → Int))) (w' : World) : Prop where
  rows : ∀ p ∈ l, Has w' p.1 .u8 32 p.2 ∧ p.1 < w'.heap.size
  below : Below w.heap.size w w'
theorem Kp.init (w : World) : Kp w [] w := ⟨fun _ h => (by cases h), Below.refl _ _⟩
theorem Kp.drew {w w' : World} {l : List (Nat × (Nat → Int))} (h : Kp w l w') : Kp w l w'.drew := ⟨fun p hp => ⟨(h.rows p hp).1.drew, (h.rows p hp).2⟩, h.below.drew⟩
theorem Kp.call {w w' w'' : World} {l : List (Nat × (Nat → Int))} (h : Kp w l w') (b : Below w'.heap.size w' w'') : Kp w l w'' :=
  ⟨fun p hp => ⟨(h.rows p hp).1.below b (h.rows p hp).2, by have := (h.rows p hp).2; have := b.size; omega⟩, h.below.trans (b.mono h.below.size)⟩
theorem Kp.box {w w' : World} {l : List (Nat × (Nat → Int))} (h : Kp w l w') (f : Nat → Int) (t : TypeId) (b : Nat) (hb : b = w'.heap.size) : Kp w ((b, f) :: l) (w'.alloc (.cells (row .u8 32 f).toArray t)) :=
  ⟨fun p hp => by
    rcases List.mem_cons.1 hp with rfl | hp
    · exact ⟨Has.new w' .u8 32 f t b hb, by simp; omega⟩
    · exact ⟨(h.rows p hp).1.alloc _ (h.rows p hp).2, by have := (h.rows p hp).2; simp; omega⟩, h.below.alloc h.below.size _⟩
theorem Kp.fresh {w w' : World} {l : List (Nat × (Nat → Int))} (h : Kp w l w') (f : Nat → Int) (c : Array Value) (t : TypeId) (hn : Has (w'.alloc (.cells c t)) w'.heap.size .u8 32 (fun _ => 0)) :
    Kp w ((w'.heap.size, f) :: l) ((w'.alloc (.cells c t)).setCells w'.heap.size 0 (row .u8 32 f)) :=
  ⟨fun p hp => by
    rw [size_setAll]
    rcases List.mem_cons.1 hp with rfl | hp
    · exact ⟨Has.all hn.there .u8 f, by simp⟩
    · have hlt := (h.rows p hp).2
      exact ⟨((h.rows p hp).1.alloc _ hlt).setAll_other _ (by omega) 0 _, by simp; omega⟩, below_setAll (h.below.alloc h.below.size _) _ h.below.size 0 _⟩
theorem Kp.get {w w' : World} {l : List (Nat × (Nat → Int))} (h : Kp w l w') (b : Nat) (f : Nat → Int) (hp : (b, f) ∈ l) : Has w' b .u8 32 f := (h.rows _ hp).1

/-! Two rows of bytes, held against each other. -/
open Extern.Stop (cell)

def bytesOf (n : Nat) (f : Nat → Int) : List UInt8 := (List.range n).map fun j => UInt8.ofNat (f j).toNat
theorem row_bytes (n : Nat) (f : Nat → Int) (h : In 256 n f) : row .u8 n f = (bytesOf n f).map cell := by
  unfold row bytesOf
  rw [List.map_map]
  refine List.map_congr_left fun j hj => ?_
  have hj' := h j (List.mem_range.1 hj)
  simp only [Function.comp, cell]
  congr 1
  have : (f j).toNat < 256 := by omega
  simp [UInt8.toNat_ofNat', Nat.mod_eq_of_lt this]
  omega
theorem bytesOf_inj (n : Nat) (f g : Nat → Int) (hf : In 256 n f) (hg : In 256 n g) : (bytesOf n f == bytesOf n g) = decide (val 256 f n = val 256 g n) := by
  rw [Bool.eq_iff_iff]
  simp only [beq_iff_eq, decide_eq_true_eq]
  constructor
  · intro h
    refine val_congr 256 n fun j hj => ?_
    have e : (bytesOf n f)[j]? = (bytesOf n g)[j]? := by rw [h]
    simp only [bytesOf, List.getElem?_map, List.getElem?_range hj, Option.map_some, Option.some.injEq] at e
    have := congrArg UInt8.toNat e
    have h1 := hf j hj
    have h2 := hg j hj
    have e1 : (f j).toNat < 256 := by omega
    have e2 : (g j).toNat < 256 := by omega
    simp [UInt8.toNat_ofNat', Nat.mod_eq_of_lt e1, Nat.mod_eq_of_lt e2] at this
    omega
  · intro h
    have := val_inj 256 (by decide) f g n hf hg h
    unfold bytesOf
    refine List.map_congr_left fun j hj => ?_
    rw [this j (List.mem_range.1 hj)]
theorem eql_rows {P : Program} (w : World) (t e : TypeId) (n : Nat) (ht : P.underlying t = some (.array n e)) (he : P.underlying e = some (.int .u8)) (hsz : ∀ w, (sizeOf e).run P w = .ok 1 w) (f g : Nat → Int) (hf : In 256 n f) (hg : In 256 n g) :
    (binOp .eql t (.agg (row .u8 n f).toArray) (.agg (row .u8 n g).toArray)).run P w = .ok (.bool (decide (val 256 f n = val 256 g n))) w := by
  rw [row_bytes n f hf, row_bytes n g hg, run_eql_bytes w t e n ht he hsz _ _ (by simp [bytesOf]) (by simp [bytesOf]), bytesOf_inj n f g hf hg]

/-- The operation '==' on two such rows. -/
theorem eqlV {P : Program} {o : Oper} {a : Act} (n : Nat) (f g : Nat → Int) (t e t' : TypeId) (x y : Operand) (ho : o.op = .binOp .eql t x y t') (hx : a.eval x = .agg (row .u8 n f).toArray) (hy : a.eval y = .agg (row .u8 n g).toArray)
    (ht : P.underlying t = some (.array n e)) (he : P.underlying e = some (.int .u8)) (hsz : ∀ w, (sizeOf e).run P w = .ok 1 w) (hm : P.eqGuardType P.depth t = false) (hf : In 256 n f) (hg : In 256 n g) (r : Bool) (hr : decide (val 256 f n = val 256 g n) = r) (w : World) :
    (execOp a.eval o).run P w = .ok (.value (.bool r)) w := by
  unfold execOp
  simp only [ho, hx, hy, Sem.run_bind, run_eqGuard_agg w .eql t x y _ _ hm, Result.andThen_ok, eql_rows w t e n ht he hsz f g hf hg, Sem.run_pure, hr]

end Go.Proofs.YteclkiabkdaklaaDoor

namespace Go.Proofs.YteclkiabkdaklaaDoor
open Go.RowKit

theorem there_below {w w' : World} {b n : Nat} (h : w.there b 0 n) {B : Nat} (l : Below B w w') (hb : b < B) : w'.there b 0 n := fun j hj => by
  rw [l.cell (p := ⟨b, 0 + j, none⟩) hb, l.frozen (p := ⟨b, 0 + j, none⟩) hb]; exact h j hj
theorem room_of {w : World} {b n : Nat} {k : IntKind} {f : Nat → Int} (h : w.there b 0 n) : w.there b 0 (row k n f).toArray.size := by rw [List.size_toArray, row_length]; exact h
theorem size_new (w : World) (o : Obj) : (w.alloc o).heap.size = w.heap.size + 1 := by simp

/-- The rows that the blocks of l hold, the rooms R, all below m; what stood in w stands. -/
structure Kr (w : World) (m : Nat) (l : List (Nat × IntKind × Nat × (Nat → Int))) (R : List (Nat × Nat)) (w' : World) : Prop where
  rows : ∀ p ∈ l, Has w' p.1 p.2.1 p.2.2.1 p.2.2.2 ∧ p.1 < m
  room : ∀ q ∈ R, w'.there q.1 0 q.2 ∧ q.1 < m ∧ w.heap.size ≤ q.1
  apart : ∀ p ∈ l, ∀ q ∈ R, p.1 ≠ q.1
  size : m ≤ w'.heap.size
  base : w.heap.size ≤ m
  below : Below w.heap.size w w'
section
variable {w w' w'' : World} {m : Nat} {l : List (Nat × IntKind × Nat × (Nat → Int))} {R : List (Nat × Nat)}
theorem Kr.init (w : World) : Kr w w.heap.size [] [] w := ⟨fun _ h => (by cases h), fun _ h => (by cases h), fun _ h => (by cases h), Nat.le_refl _, Nat.le_refl _, Below.refl _ _⟩
theorem Kr.drew (h : Kr w m l R w') : Kr w m l R w'.drew := ⟨fun p hp => ⟨(h.rows p hp).1.drew, (h.rows p hp).2⟩, h.room, h.apart, h.size, h.base, h.below.drew⟩
theorem Kr.call (h : Kr w m l R w') (b : Below w'.heap.size w' w'') : Kr w m l R w'' :=
  ⟨fun p hp => ⟨(h.rows p hp).1.below b (Nat.lt_of_lt_of_le (h.rows p hp).2 h.size), (h.rows p hp).2⟩,
   fun q hq => ⟨there_below (h.room q hq).1 b (Nat.lt_of_lt_of_le (h.room q hq).2.1 h.size), (h.room q hq).2⟩, h.apart, Nat.le_trans h.size b.size, h.base, h.below.trans (b.mono (Nat.le_trans h.base h.size))⟩
/-- A row in a new block. -/
theorem Kr.box (h : Kr w m l R w') (k : IntKind) (n : Nat) (f : Nat → Int) (t : TypeId) (b : Nat) (hb : b = w'.heap.size) : Kr w (b + 1) ((b, k, n, f) :: l) R (w'.alloc (.cells (row k n f).toArray t)) := by
  have hc := h.call ((Below.refl w'.heap.size w').alloc (Nat.le_refl _) (.cells (row k n f).toArray t))
  refine ⟨fun p hp => ?_, fun q hq => ⟨(hc.room q hq).1, by have := (hc.room q hq).2.1; have := h.size; omega, (hc.room q hq).2.2⟩, fun p hp q hq => ?_, by simp; omega, by have := h.base; have := h.size; omega, hc.below⟩
  · rcases List.mem_cons.1 hp with rfl | hp
    · exact ⟨Has.new w' k n f t b hb, by simp⟩
    · exact ⟨(hc.rows p hp).1, by have := (hc.rows p hp).2; have := h.size; omega⟩
  · rcases List.mem_cons.1 hp with rfl | hp
    · have := (h.room q hq).2.1; have := h.size; simp only; omega
    · exact h.apart p hp q hq
/-- Room in a new block. -/
theorem Kr.make (h : Kr w m l R w') (n : Nat) (c : Array Value) (t : TypeId) (b : Nat) (hb : b = w'.heap.size) (hn : (w'.alloc (.cells c t)).there b 0 n) : Kr w (b + 1) l ((b, n) :: R) (w'.alloc (.cells c t)) := by
  have hc := h.call ((Below.refl w'.heap.size w').alloc (Nat.le_refl _) (.cells c t))
  refine ⟨fun p hp => ⟨(hc.rows p hp).1, by have := (hc.rows p hp).2; have := h.size; omega⟩, fun q hq => ?_, fun p hp q hq => ?_, by simp; omega, by have := h.base; have := h.size; omega, hc.below⟩
  · rcases List.mem_cons.1 hq with rfl | hq
    · exact ⟨hn, by simp, by have := h.base; have := h.size; simp only; omega⟩
    · exact ⟨(hc.room q hq).1, by have := (hc.room q hq).2.1; have := h.size; omega, (hc.room q hq).2.2⟩
  · rcases List.mem_cons.1 hq with rfl | hq
    · have := (h.rows p hp).2; have := h.size; simp only; omega
    · exact h.apart p hp q hq
/-- What is stored at m or beyond, or in a room, changes no row. -/
theorem Kr.past (h : Kr w m l R w') (b : Nat) (hb : m ≤ b) (vs : List Value) : Kr w m l R (w'.setCells b 0 vs) :=
  ⟨fun p hp => ⟨(h.rows p hp).1.setAll_other _ (by have := (h.rows p hp).2; omega) 0 _, (h.rows p hp).2⟩, fun q hq => ⟨World.there_setCells (h.room q hq).1 _ _ _, (h.room q hq).2⟩, h.apart, by rw [size_setAll]; exact h.size, h.base,
   below_setAll h.below _ (Nat.le_trans h.base hb) 0 _⟩
theorem Kr.fill (h : Kr w m l R w') (b n : Nat) (hb : (b, n) ∈ R) (vs : List Value) : Kr w m l R (w'.setCells b 0 vs) :=
  ⟨fun p hp => ⟨(h.rows p hp).1.setAll_other _ (fun e => h.apart p hp _ hb e.symm) 0 _, (h.rows p hp).2⟩, fun q hq => ⟨World.there_setCells (h.room q hq).1 _ _ _, (h.room q hq).2⟩, h.apart, by rw [size_setAll]; exact h.size, h.base,
   below_setAll h.below _ (h.room _ hb).2.2 0 _⟩
theorem Kr.get (h : Kr w m l R w') (b : Nat) (k : IntKind) (n : Nat) (f : Nat → Int) (hp : (b, k, n, f) ∈ l) : Has w' b k n f := (h.rows _ hp).1
theorem Kr.roomy (h : Kr w m l R w') (b : Nat) (k : IntKind) (n : Nat) (f : Nat → Int) (hb : (b, n) ∈ R) : w'.there b 0 (row k n f).toArray.size := by rw [List.size_toArray, row_length]; exact (h.room _ hb).1
/-- A new block that was stored to. -/
theorem Kr.fresh (h : Kr w m l R w') (k : IntKind) (n : Nat) (f : Nat → Int) (c : Array Value) (t : TypeId) (hn : (w'.alloc (.cells c t)).there w'.heap.size 0 n) :
    Kr w (w'.heap.size + 1) ((w'.heap.size, k, n, f) :: l) R ((w'.alloc (.cells c t)).setCells w'.heap.size 0 (row k n f)) := by
  have hk := h.make n c t w'.heap.size rfl hn
  have hc := hk.fill w'.heap.size n List.mem_cons_self (row k n f)
  refine ⟨fun p hp => ?_, fun q hq => hc.room q (List.mem_cons_of_mem _ hq), fun p hp q hq => ?_, hc.size, hc.base, hc.below⟩
  · rcases List.mem_cons.1 hp with rfl | hp
    · exact ⟨Has.all hn k f, by simp⟩
    · exact hc.rows p hp
  · rcases List.mem_cons.1 hp with rfl | hp
    · have := (h.room q hq).2.1; have := h.size; simp only; omega
    · exact h.apart p hp q hq
theorem Kr.poke (h : Kr w m l R w') (b n : Nat) (hb : (b, n) ∈ R) (o : Nat) (vs : List Value) : Kr w m l R (w'.setCells b o vs) :=
  ⟨fun p hp => ⟨(h.rows p hp).1.setAll_other _ (fun e => h.apart p hp _ hb e.symm) o _, (h.rows p hp).2⟩, fun q hq => ⟨World.there_setCells (h.room q hq).1 _ _ _, (h.room q hq).2⟩, h.apart, by rw [size_setAll]; exact h.size, h.base,
   below_setAll h.below _ (h.room _ hb).2.2 o _⟩
/-- A row is given up: its block is room. -/
theorem Kr.loose (h : Kr w m l R w') (l' : List (Nat × IntKind × Nat × (Nat → Int))) (b : Nat) (k : IntKind) (n : Nat) (f : Nat → Int) (hp : (b, k, n, f) ∈ l) (hl : ∀ p ∈ l', p ∈ l) (hne : ∀ p ∈ l', p.1 ≠ b) (hlo : w.heap.size ≤ b) : Kr w m l' ((b, n) :: R) w' :=
  ⟨fun p hp => h.rows p (hl p hp), fun q hq => by
    rcases List.mem_cons.1 hq with rfl | hq
    · exact ⟨(h.get _ _ _ _ hp).there, (h.rows _ hp).2, hlo⟩
    · exact h.room q hq, fun p hp' q hq => by
    rcases List.mem_cons.1 hq with rfl | hq
    · exact hne p hp'
    · exact h.apart p (hl p hp') q hq, h.size, h.base, h.below⟩
/-- A room holds a row. -/
theorem Kr.settle (h : Kr w m l R w') (R' : List (Nat × Nat)) (b : Nat) (k : IntKind) (n : Nat) (f : Nat → Int) (hb : (b, n) ∈ R) (hR : ∀ q ∈ R', q ∈ R) (hne : ∀ q ∈ R', q.1 ≠ b) (hf : Has w' b k n f) : Kr w m ((b, k, n, f) :: l) R' w' :=
  ⟨fun p hp => by
    rcases List.mem_cons.1 hp with rfl | hp
    · exact ⟨hf, (h.room _ hb).2.1⟩
    · exact h.rows p hp, fun q hq => h.room q (hR q hq), fun p hp q hq => by
    rcases List.mem_cons.1 hp with rfl | hp
    · exact (hne q hq).symm
    · exact h.apart p hp q (hR q hq), h.size, h.base, h.below⟩
theorem Kr.sub (h : Kr w m l R w') (l' : List (Nat × IntKind × Nat × (Nat → Int))) (hl : ∀ p ∈ l', p ∈ l) : Kr w m l' R w' :=
  ⟨fun p hp => h.rows p (hl p hp), h.room, fun p hp q hq => h.apart p (hl p hp) q hq, h.size, h.base, h.below⟩
/-- A row is written anew. -/
theorem Kr.set (h : Kr w m l R w') (l' : List (Nat × IntKind × Nat × (Nat → Int))) (b : Nat) (k : IntKind) (n : Nat) (f g : Nat → Int) (hp : (b, k, n, f) ∈ l) (hl : ∀ p ∈ l', p ∈ l) (hne : ∀ p ∈ l', p.1 ≠ b) (hlo : w.heap.size ≤ b) : Kr w m ((b, k, n, g) :: l') R (w'.setCells b 0 (row k n g)) :=
  ((h.loose l' b k n f hp hl hne hlo).fill b n List.mem_cons_self _).settle R b k n g List.mem_cons_self (fun _ hq => List.mem_cons_of_mem _ hq) (fun q hq => (h.apart _ hp q hq).symm) (Has.all (h.get _ _ _ _ hp).there k g)
/-- What was made since is forgotten. -/
theorem Kr.back (h : Kr w m l R w') (l' : List (Nat × IntKind × Nat × (Nat → Int))) (m0 : Nat) (hl : ∀ p ∈ l', p ∈ l) (hm : ∀ p ∈ l', p.1 < m0) (hr : ∀ q ∈ R, q.1 < m0) (h0 : w.heap.size ≤ m0) (h1 : m0 ≤ m) : Kr w m0 l' R w' :=
  ⟨fun p hp => ⟨(h.rows p (hl p hp)).1, hm p hp⟩, fun q hq => ⟨(h.room q hq).1, hr q hq, (h.room q hq).2.2⟩, fun p hp q hq => h.apart p (hl p hp) q hq, Nat.le_trans h1 h.size, h0, h.below⟩
end

section
variable {P : Program} {ops : Array Oper} {Q : Exit → Act → World → Prop} {md : Region.Mode} {S : World → Prop}
/-- A row is loaded from within a block, and may be loaded first. -/
theorem rowKH {i : Nat} {oi : Oper} (dst : Option Tmp) (hdst : oi.dst = dst) {fuel : Nat} {listed : Array Bool} {a : Act} {w : World} (k : IntKind) (n : Nat) (f : Nat → Int) (b o : Nat) (ty : TypeId) (x : Operand) (d : TypeDesc) (hi : ops[i]? = some oi)
    (ho : oi.op = .load ty x) (hx : a.eval x = .pointer (some ⟨b, o, none⟩)) (hw : Region.wanted oi (yielded ops a.tmps) = true)
    (hs : Region.noSelect ops = true) (hf : Region.free md ops listed i = true) (hr : (Region.ready md ops listed).contains i = true)
    (hQ : ∀ c a w, Q (.panic c) (a.put dst (.agg (row k n f).toArray)) w → Q (.panic c) a w)
    (hu : P.underlying ty = some d) (hd : d.isRow = true) (hz : (P.info? ty).map (·.size) = some (row k n f).length)
    (hS : S w) (hh : ∀ w, S w → w.rangeAt b o (row k n f))
    (h : wpAnyH P md ops Q S fuel (listed.setIfInBounds i true) (a.put dst (.agg (row k n f).toArray)) w) : wpAnyH P md ops Q S (fuel + 1) listed a w := by
  subst hdst
  exact wpAnyH_take hi hs hf hr hQ (yieldsIf_load_mid hw ty x ho b o hx (row k n f) d hh hu hd hz) hS h
/-- The one operation that may come up loads a row. -/
theorem rowKOneH {i : Nat} {oi : Oper} (dst : Option Tmp) (hdst : oi.dst = dst) {fuel : Nat} {listed : Array Bool} {a : Act} {w : World} (k : IntKind) (n : Nat) (f : Nat → Int) (b o : Nat) (ty : TypeId) (x : Operand) (d : TypeDesc) (hr : Region.ready md ops listed = [i]) (hi : ops[i]? = some oi)
    (ho : oi.op = .load ty x) (hx : a.eval x = .pointer (some ⟨b, o, none⟩)) (hw : Region.wanted oi (yielded ops a.tmps) = true)
    (hu : P.underlying ty = some d) (hd : d.isRow = true) (hz : (P.info? ty).map (·.size) = some (row k n f).length)
    (hS : S w) (hh : w.rangeAt b o (row k n f))
    (h : wpAnyH P md ops Q S fuel (listed.setIfInBounds i true) (a.put dst (.agg (row k n f).toArray)) w) : wpAnyH P md ops Q S (fuel + 1) listed a w := by
  subst hdst
  refine wpAnyH_all hr (by simp) fun j hj => ?_
  obtain rfl := List.mem_singleton.1 hj
  unfold wpOp
  simp only [hi, hw, if_true]
  exact .inl (wp_load_mid ty x ho b o hx (row k n f) d hh hu hd hz ⟨hS, h⟩)
theorem rowKL {o' : Oper} {rest : List Oper} {a : Act} {w : World} (k : IntKind) (n : Nat) (f : Nat → Int) (b o : Nat) (ty : TypeId) (x : Operand) (d : TypeDesc) (hw : Region.wanted o' (yielded ops a.tmps) = true)
    (ho : o'.op = .load ty x) (hx : a.eval x = .pointer (some ⟨b, o, none⟩)) (hu : P.underlying ty = some d) (hd : d.isRow = true) (hz : (P.info? ty).map (·.size) = some (row k n f).length) (hh : w.rangeAt b o (row k n f))
    (h : wpList P ops Q rest (a.put o'.dst (.agg (row k n f).toArray)) w) : wpList P ops Q (o' :: rest) a w := by
  unfold wpList
  rw [if_pos hw]
  exact .inl (wp_load_mid ty x ho b o hx (row k n f) d hh hu hd hz h)
end


section
variable {P : Program} {ops : Array Oper} {Q : Exit → Act → World → Prop} {md : Region.Mode} {S : World → Prop}
theorem run_loadVar_cell (w : World) (b o : Nat) (ty : TypeId) (k : IntKind) (v : Value) (hc : w.cell? ⟨b, o, none⟩ = some v) (hu : P.underlying ty = some (.int k)) : (loadVar ty ⟨b, o, none⟩).run P w = .ok v w := by
  have hagg : (isAgg ty).run P w = .ok false w := by
    unfold isAgg
    rw [Sem.run_bind, run_underlying hu w]
    rfl
  simp [loadVar, Sem.run_bind, hagg, hc]
/-- One cell is loaded, and may be loaded first. -/
theorem cellH {i : Nat} {oi : Oper} (dst : Option Tmp) (hdst : oi.dst = dst) {fuel : Nat} {listed : Array Bool} {a : Act} {w : World} (k : IntKind) (v : Value) (b o : Nat) (ty : TypeId) (x : Operand) (hi : ops[i]? = some oi)
    (ho : oi.op = .load ty x) (hx : a.eval x = .pointer (some ⟨b, o, none⟩)) (hw : Region.wanted oi (yielded ops a.tmps) = true)
    (hs : Region.noSelect ops = true) (hf : Region.free md ops listed i = true) (hr : (Region.ready md ops listed).contains i = true)
    (hQ : ∀ c a w, Q (.panic c) (a.put dst v) w → Q (.panic c) a w)
    (hu : P.underlying ty = some (.int k))
    (hS : S w) (hh : ∀ w, S w → w.cell? ⟨b, o, none⟩ = some v)
    (h : wpAnyH P md ops Q S fuel (listed.setIfInBounds i true) (a.put dst v) w) : wpAnyH P md ops Q S (fuel + 1) listed a w := by
  subst hdst
  refine wpAnyH_take hi hs hf hr hQ (.inl ⟨hw, fun w hw' => ?_⟩) hS h
  unfold execOp
  simp only [ho, hx, Instr.loadAt, Instr.sureAddr, Sem.run_bind, Sem.run_pure, Result.andThen_ok, run_loadVar_cell w b o ty k v (hh w hw') hu]
theorem cellL {o' : Oper} {rest : List Oper} {a : Act} {w : World} (k : IntKind) (v : Value) (b o : Nat) (ty : TypeId) (x : Operand) (hw : Region.wanted o' (yielded ops a.tmps) = true)
    (ho : o'.op = .load ty x) (hx : a.eval x = .pointer (some ⟨b, o, none⟩)) (hu : P.underlying ty = some (.int k)) (hh : w.cell? ⟨b, o, none⟩ = some v)
    (h : wpList P ops Q rest (a.put o'.dst v) w) : wpList P ops Q (o' :: rest) a w := by
  unfold wpList
  rw [if_pos hw]
  refine .inl ?_
  unfold Oper.wp execOp
  simp only [ho, hx, Instr.loadAt, Instr.sureAddr, Sem.run_bind, Sem.run_pure, Result.andThen_ok, run_loadVar_cell w b o ty k v hh hu]
  exact h
end
end Go.Proofs.YteclkiabkdaklaaDoor

namespace Go.Proofs.YteclkiabkdaklaaDoor
open Go.RowKit

/-- A block that was made on the way, of n cells. -/
structure Fb (n w0 B : Nat) (w : World) : Prop where
  lo : w0 ≤ B
  hi : B < w.heap.size
  th : w.there B 0 n
theorem Fb.call {n w0 B : Nat} {w w' : World} (h : Fb n w0 B w) (l : Below w.heap.size w w') : Fb n w0 B w' := ⟨h.lo, Nat.lt_of_lt_of_le h.hi l.size, there_below h.th l h.hi⟩
theorem Fb.alloc {n w0 B : Nat} {w : World} (h : Fb n w0 B w) (o : Obj) : Fb n w0 B (w.alloc o) := h.call ((Below.refl w.heap.size w).alloc (Nat.le_refl _) o)

/-- A block that was made on the way holds a row. -/
theorem Kr.land {w w' : World} {m : Nat} {l : List (Nat × IntKind × Nat × (Nat → Int))} {R : List (Nat × Nat)} (h : Kr w m l R w') {n B : Nat} (b : Fb n m B w') (k : IntKind) (f : Nat → Int) :
    Kr w w'.heap.size ((B, k, n, f) :: l) R (w'.setCells B 0 (row k n f)) := by
  have hc := h.past B b.lo (row k n f)
  have i1 := b.hi
  have j1 := b.lo
  refine ⟨fun p hp => ?_, fun q hq => ⟨(hc.room q hq).1, Nat.lt_of_lt_of_le (hc.room q hq).2.1 h.size, (hc.room q hq).2.2⟩, fun p hp q hq => ?_, by rw [size_setAll]; exact Nat.le_refl _, Nat.le_trans h.base h.size, hc.below⟩
  · rcases List.mem_cons.1 hp with rfl | hp
    · exact ⟨Has.all b.th k f, i1⟩
    · exact ⟨(hc.rows p hp).1, Nat.lt_of_lt_of_le (h.rows p hp).2 h.size⟩
  · have := (h.room q hq).2.1
    rcases List.mem_cons.1 hp with rfl | hp
    · simp only; omega
    · exact h.apart p hp q hq

section
variable {P : Program} {ops : Array Oper} {Q : Exit → Act → World → Prop} {md : Region.Mode} {S : World → Prop}

theorem callOp {i : Nat} {oi : Oper} {f : FuncId} {args : Array Value} {R : Ending → World → Prop} {K : Act → World → Prop} {a : Act} {w : World} (hi : ops[i]? = some oi) (hg : oi.guard = none) (he : (execOp a.eval oi).run P w = .ok (.enter f args) w)
    (hc : Calls P f args w R) (hK : ∀ e w', R e w' → ∃ v, e = .returned v ∧ K (a.put oi.dst v) w') : wpOp P ops Q i K a w := by
  have hw : Region.wanted oi (yielded ops a.tmps) = true := by unfold Region.wanted; rw [hg]
  unfold wpOp
  simp only [hi, hw, if_true]
  refine .inl ?_
  unfold Oper.wp
  rw [he]
  exact hc.mono fun e w' hR => by
    obtain ⟨v, rfl, h⟩ := hK e w' hR
    exact h
theorem allocOp {i : Nat} {oi : Oper} {v : Value} {K : Act → World → Prop} {a : Act} {w w' : World} (hi : ops[i]? = some oi) (hg : oi.guard = none) (he : (execOp a.eval oi).run P w = .ok (.value v) w')
    (h : K (a.put oi.dst v) w') : wpOp P ops Q i K a w := by
  have hw : Region.wanted oi (yielded ops a.tmps) = true := by unfold Region.wanted; rw [hg]
  unfold wpOp
  simp only [hi, hw, if_true]
  refine .inl ?_
  unfold Oper.wp
  rw [he]
  exact h
theorem wpAnyH_cast {fuel : Nat} {l l' : Array Bool} {a a' : Act} {w : World} (h : wpAnyH P md ops Q S fuel l a w) (el : l' = l) (ea : a' = a) : wpAnyH P md ops Q S fuel l' a' w := by subst el ea; exact h
theorem eval_two {a : Act} {o : Oper} (x y : Tmp) (u v : Value) (hs : ∀ cs b, o.op ≠ .select cs b) (h1 : x ∉ o.looksAt ops) (h2 : y ∉ o.looksAt ops) : execOp ((a.put (some x) u).put (some y) v).eval o = execOp a.eval o := by
  rw [execOp_put (ops := ops) o hs _ _ _ (fun d hd => by injection hd with hd; subst hd; exact h2), execOp_put (ops := ops) o hs _ _ _ (fun d hd => by injection hd with hd; subst hd; exact h1)]
theorem eval_one {a : Act} {o : Oper} (x : Tmp) (u : Value) (hs : ∀ cs b, o.op ≠ .select cs b) (h1 : x ∉ o.looksAt ops) : execOp (a.put (some x) u).eval o = execOp a.eval o :=
  execOp_put (ops := ops) o hs _ _ _ (fun d hd => by injection hd with hd; subst hd; exact h1)
theorem put_comm' (a : Act) {x y : Tmp} (v u : Value) (h : x ≠ y) : (a.put (some x) v).put (some y) u = (a.put (some y) u).put (some x) v :=
  Act.put_comm a v u (fun d hd e => by injection hd with hd; injection e with e; exact h (hd.trans e.symm))


/-- One call behind the other, and a new block that may be made at any time: what is to be shown where it is made last. -/
def Chain (P : Program) (ops : Array Oper) (Q : Exit → Act → World → Prop) (md : Region.Mode) (S : World → Prop) (z : Nat) (t : Tmp) (n w0 fuel : Nat) : Nat → Array Bool → Act → Prop
  | 0, L, a => Region.ready md ops L = [z] ∧ ∀ B w, S w → Fb n w0 B w → wpAnyH P md ops Q S fuel (L.setIfInBounds z true) (a.put (some t) (.pointer (some ⟨B, 0, none⟩))) w
  | k + 1, L, a => ∃ (c : Nat) (r : Tmp) (x : Oper) (f : FuncId) (g : Array Value) (V : Value → Prop), Region.ready md ops L = [c, z] ∧ Region.ready md ops (L.setIfInBounds z true) = [c] ∧ ops[c]? = some x ∧ x.guard = none ∧ x.dst = some r ∧ z ≠ c ∧ t ≠ r ∧ (∀ cs b, x.op ≠ .select cs b) ∧ t ∉ x.looksAt ops ∧ (∀ w, (execOp a.eval x).run P w = .ok (.enter f g) w) ∧
      (∀ w, S w → Calls P f g w fun e w' => ∃ v, e = .returned v ∧ V v ∧ Below w.heap.size w w') ∧ ∀ v, V v → Chain P ops Q md S z t n w0 fuel k (L.setIfInBounds c true) (a.put (some r) v)
theorem Chain.last {z : Nat} {t : Tmp} {n w0 fuel : Nat} {L : Array Bool} {a : Act} (hr : Region.ready md ops L = [z]) (h : ∀ B w, S w → Fb n w0 B w → wpAnyH P md ops Q S fuel (L.setIfInBounds z true) (a.put (some t) (.pointer (some ⟨B, 0, none⟩))) w) : Chain P ops Q md S z t n w0 fuel 0 L a := ⟨hr, h⟩
theorem Chain.call {z : Nat} {t : Tmp} {n w0 fuel k : Nat} {L : Array Bool} {a : Act} (c : Nat) (r : Tmp) {x : Oper} {f : FuncId} {g : Array Value} (V : Value → Prop) (hr : Region.ready md ops L = [c, z]) (hr' : Region.ready md ops (L.setIfInBounds z true) = [c]) (hx : ops[c]? = some x) (hg : x.guard = none) (hd : x.dst = some r)
    (hz : z ≠ c) (ht : t ≠ r) (hs : ∀ cs b, x.op ≠ .select cs b) (hl : t ∉ x.looksAt ops) (he : ∀ w, (execOp a.eval x).run P w = .ok (.enter f g) w)
    (hc : ∀ w, S w → Calls P f g w fun e w' => ∃ v, e = .returned v ∧ V v ∧ Below w.heap.size w w') (h : ∀ v, V v → Chain P ops Q md S z t n w0 fuel k (L.setIfInBounds c true) (a.put (some r) v)) : Chain P ops Q md S z t n w0 fuel (k + 1) L a :=
  ⟨c, r, x, f, g, V, hr, hr', hx, hg, hd, hz, ht, hs, hl, he, hc, h⟩

theorem Chain.made {z : Nat} {t : Tmp} {n w0 fuel k : Nat} {L : Array Bool} {a : Act} (h : Chain P ops Q md S z t n w0 fuel k L a) (hSc : ∀ w w', S w → Below w.heap.size w w' → S w') :
    ∀ B w, S w → Fb n w0 B w → wpAnyH P md ops Q S (fuel + k) (L.setIfInBounds z true) (a.put (some t) (.pointer (some ⟨B, 0, none⟩))) w := by
  induction k generalizing L a with
  | zero => exact fun B w hS hB => h.2 B w hS hB
  | succ k ih =>
    obtain ⟨c, r, x, f, g, V, _, hr', hx, hg, hd, hz, ht, hs, hl, he, hc, h'⟩ := h
    intro B w hS hB
    refine wpAnyH_all hr' (by simp) fun j hj => ?_
    obtain rfl := List.mem_singleton.1 hj
    refine callOp hx hg (by rw [eval_one (ops := ops) t _ hs hl]; exact he w) (hc w hS) fun e w' hR => ?_
    obtain ⟨v, rfl, hv, l⟩ := hR
    have hs1 := hSc _ _ hS l
    refine ⟨v, rfl, hs1, ?_⟩
    rw [hd]
    refine wpAnyH_cast (ih (h' v hv) B w' hs1 (hB.call l)) ?_ ?_
    · rw [Array.setIfInBounds_comm _ _ hz]
    · rw [put_comm' _ _ _ ht]
theorem Chain.go {z : Nat} {t : Tmp} {n w0 fuel k : Nat} {L : Array Bool} {a : Act} (h : Chain P ops Q md S z t n w0 fuel k L a) {xz : Oper} (cs : Array Value) (ty : TypeId) (iz : ops[z]? = some xz) (gz : xz.guard = none) (dz : xz.dst = some t)
    (ez : ∀ (b : Act) (w : World), (execOp b.eval xz).run P w = .ok (.value (.pointer (some ⟨w.heap.size, 0, none⟩))) (w.alloc (.cells cs ty)))
    (hn : ∀ w : World, (w.alloc (.cells cs ty)).there w.heap.size 0 n) (hS0 : ∀ w, S w → w0 ≤ w.heap.size) (hSc : ∀ w w', S w → Below w.heap.size w w' → S w') :
    ∀ w, S w → wpAnyH P md ops Q S (fuel + k + 1) L a w := by
  have hSa : ∀ w : World, S w → S (w.alloc (.cells cs ty)) := fun w h => hSc w _ h ((Below.refl w.heap.size w).alloc (Nat.le_refl _) _)
  have hNew : ∀ w : World, S w → Fb n w0 w.heap.size (w.alloc (.cells cs ty)) := fun w h => ⟨hS0 w h, by simp, hn w⟩
  induction k generalizing L a with
  | zero =>
    intro w hS
    refine wpAnyH_all h.1 (by simp) fun j hj => ?_
    obtain rfl := List.mem_singleton.1 hj
    refine allocOp iz gz (ez _ w) ?_
    rw [dz]
    exact ⟨hSa _ hS, h.2 _ _ (hSa _ hS) (hNew _ hS)⟩
  | succ k ih =>
    obtain ⟨c, r, x, f, g, V, hr, hr', hx, hg, hd, hz, ht, hs, hl, he, hc, h'⟩ := h
    intro w hS
    refine wpAnyH_all hr (by simp) fun j hj => ?_
    simp only [List.mem_cons, List.not_mem_nil, or_false] at hj
    rcases hj with rfl | rfl
    · refine callOp hx hg (he w) (hc w hS) fun e w' hR => ?_
      obtain ⟨v, rfl, hv, l⟩ := hR
      have hs1 := hSc _ _ hS l
      refine ⟨v, rfl, hs1, ?_⟩
      rw [hd]
      exact ih (h' v hv) w' hs1
    · refine allocOp iz gz (ez _ w) ?_
      rw [dz]
      exact ⟨hSa _ hS, Chain.made (Chain.call c r V hr hr' hx hg hd hz ht hs hl he hc h') hSc _ _ (hSa _ hS) (hNew _ hS)⟩

/-- The one operation that may come up answers a value and changes the world. -/
theorem actH {i : Nat} {oi : Oper} (dst : Option Tmp) (hdst : oi.dst = dst) {fuel : Nat} {listed : Array Bool} {a : Act} {w w' : World} (v : Value) (hr : Region.ready md ops listed = [i]) (hi : ops[i]? = some oi)
    (hw : Region.wanted oi (yielded ops a.tmps) = true) (he : (execOp a.eval oi).run P w = .ok (.value v) w') (hS : S w')
    (h : wpAnyH P md ops Q S fuel (listed.setIfInBounds i true) (a.put dst v) w') : wpAnyH P md ops Q S (fuel + 1) listed a w :=
  ⟨fun h0 => (by rw [h0] at hr; cases hr), fun j hj => by
    rw [hr] at hj
    obtain rfl := List.mem_singleton.1 hj
    unfold wpOp
    simp only [hi, hw, if_true]
    refine .inl ?_
    unfold Oper.wp
    rw [he]
    subst hdst
    exact ⟨hS, h⟩⟩
theorem actL {o : Oper} {rest : List Oper} {a : Act} {w w' : World} (v : Value) (hw : Region.wanted o (yielded ops a.tmps) = true) (he : (execOp a.eval o).run P w = .ok (.value v) w')
    (h : wpList P ops Q rest (a.put o.dst v) w') : wpList P ops Q (o :: rest) a w := by
  unfold wpList
  rw [if_pos hw]
  refine .inl ?_
  unfold Oper.wp
  rw [he]
  exact h
/-- Bytes are copied from one row to the head of another. -/
theorem run_copy {o : Oper} {a : Act} {w : World} (d s : Operand) (dT sT elem : TypeId) (ho : o.op = .call { callee := .builtin .copy, args := #[d, s], argTypes := #[dT, sT] }) (hu : P.underlying dT = some (.slice elem)) (hsz : (P.info? elem).map (·.size) = some 1)
    (b dLen dCap c co sLen sCap m n : Nat) (k : IntKind) (f g : Nat → Int) (hd : a.eval d = .slice (some ⟨b, 0, none⟩) dLen dCap) (hs : a.eval s = .slice (some ⟨c, co, none⟩) sLen sCap) (hm : m = Nat.min sLen dLen) (hmn : m ≤ n) (hb : w.there b 0 n)
    (hc : ∀ j, j < m → w.cell? ⟨c, co + j, none⟩ = some (.int k (f (co + j)))) (hg : ∀ j, j < m → f (co + j) = g j) :
    (execOp a.eval o).run P w = .ok (.value (.int .i64 (m : Int))) (w.setCells b 0 (row k m g)) := by
  have hrun := run_copy_cells (P := P) w dT sT o.type elem b 0 dLen dCap ⟨c, co, none⟩ sLen sCap (row k m g) hu hsz (by rw [row_length]; exact hm) (fun j v hv => by
    obtain ⟨hj, rfl⟩ := row_get_some hv
    rw [Addr.add_mid, hc j hj, hg j hj]) (fun j hj => by rw [row_length] at hj; exact (hb j (by omega)).1) (fun j hj => by rw [row_length] at hj; exact (hb j (by omega)).2) (row_one k m g)
  rw [row_length] at hrun
  simp [execOp, ho, resolve, invoke, builtin, hd, hs, hrun, Result.andThen, goInt]
end
end Go.Proofs.YteclkiabkdaklaaDoor

namespace Go.Proofs.YteclkiabkdaklaaDoor
open Go.RowKit

/-- A slice's first bytes, wherever they lie. -/
def Src (w : World) (sp : Option Addr) (len : Nat) (z : Nat → Int) : Prop := ∀ j, j < len → ∃ ad, sp = some ad ∧ w.cell? (ad.add j) = some (.int .u8 (z j))
theorem Src.below {w w' : World} {sp : Option Addr} {len : Nat} {z : Nat → Int} (h : Src w sp len z) {B : Nat} (l : Below B w w') (hB : w.heap.size ≤ B) : Src w' sp len z := fun j hj => by
  obtain ⟨ad, he, hc⟩ := h j hj
  have hb := World.block_lt_of_cell? w _ hc
  exact ⟨ad, he, by rw [l.cell (p := ad.add j) (Nat.lt_of_lt_of_le hb hB)]; exact hc⟩


section
variable {P : Program}
theorem run_copy_src {o : Oper} {a : Act} {w : World} (d s : Operand) (dT sT elem : TypeId) (ho : o.op = .call { callee := .builtin .copy, args := #[d, s], argTypes := #[dT, sT] }) (hu : P.underlying dT = some (.slice elem)) (hsz : (P.info? elem).map (·.size) = some 1)
    (b dLen dCap len cap n : Nat) (sp : Option Addr) (z : Nat → Int) (hd : a.eval d = .slice (some ⟨b, 0, none⟩) dLen dCap) (hs : a.eval s = .slice sp len cap) (hl : len ≤ dLen) (hn : len ≤ n) (hb : w.there b 0 n) (hc : Src w sp len z) :
    (execOp a.eval o).run P w = .ok (.value (.int .i64 (len : Int))) (w.setCells b 0 (row .u8 len z)) := by
  by_cases h0 : len = 0
  · subst h0
    have hrun := run_copy_none (P := P) w dT sT o.type elem (some ⟨b, 0, none⟩) sp dLen dCap 0 cap hu hsz (Nat.zero_min _)
    simp [execOp, ho, resolve, invoke, builtin, hd, hs, hrun, Result.andThen, goInt, row, World.setCells]
  · obtain ⟨ad, rfl, _⟩ := hc 0 (by omega)
    have hrun := run_copy_cells (P := P) w dT sT o.type elem b 0 dLen dCap ad len cap (row .u8 len z) hu hsz (by rw [row_length]; exact (Nat.min_eq_left hl).symm) (fun j v hv => by
      obtain ⟨hj, rfl⟩ := row_get_some hv
      obtain ⟨ad', he, hc'⟩ := hc j hj
      injection he with he
      subst he
      exact hc') (fun j hj => by rw [row_length] at hj; exact (hb j (by omega)).1) (fun j hj => by rw [row_length] at hj; exact (hb j (by omega)).2) (row_one .u8 len z)
    rw [row_length] at hrun
    simp [execOp, ho, resolve, invoke, builtin, hd, hs, hrun, Result.andThen, goInt]
end
end Go.Proofs.YteclkiabkdaklaaDoor

namespace Go.Proofs.YteclkiabkdaklaaDoor
open Go.RowKit

/-- The first bytes from a list, noughts behind them. -/
def bl (l : List Int) : Nat → Int := fun j => l.getD j 0
theorem bl_in (l : List Int) (n : Nat) (h : ∀ x ∈ l, 0 ≤ x ∧ x < 256) : In 256 n (bl l) := fun j _ => by
  unfold bl
  rw [List.getD_eq_getElem?_getD]
  cases e : l[j]? with
  | none => simp
  | some x => simpa using h x (List.mem_of_getElem? e)

theorem Kr.setCell {w w' : World} {m : Nat} {l : List (Nat × IntKind × Nat × (Nat → Int))} {R : List (Nat × Nat)} (h : Kr w m l R w') (l' : List (Nat × IntKind × Nat × (Nat → Int))) (b : Nat) (k : IntKind) (n : Nat) (f : Nat → Int) (i : Nat) (hi : i < n) (x : Int) (hp : (b, k, n, f) ∈ l) (hl : ∀ p ∈ l', p ∈ l) (hne : ∀ p ∈ l', p.1 ≠ b) (hlo : w.heap.size ≤ b) :
    Kr w m ((b, k, n, upd f i x) :: l') R (w'.setCell ⟨b, i, none⟩ (.int k x)) :=
  ((h.loose l' b k n f hp hl hne hlo).poke b n List.mem_cons_self i [.int k x]).settle R b k n (upd f i x) List.mem_cons_self (fun _ hq => List.mem_cons_of_mem _ hq) (fun q hq => (h.apart _ hp q hq).symm) ((h.get _ _ _ _ hp).set i hi x)

theorem Kr.boxO {w w' : World} {m : Nat} {l : List (Nat × IntKind × Nat × (Nat → Int))} {R : List (Nat × Nat)} (h : Kr w m l R w') (k : IntKind) (n : Nat) (f : Nat → Int) (o : Obj) (b : Nat) (hb : b = w'.heap.size) (hn : Has (w'.alloc o) b k n f) : Kr w (b + 1) ((b, k, n, f) :: l) R (w'.alloc o) := by
  have hc := h.call ((Below.refl w'.heap.size w').alloc (Nat.le_refl _) o)
  refine ⟨fun p hp => ?_, fun q hq => ⟨(hc.room q hq).1, by have := (hc.room q hq).2.1; have := h.size; omega, (hc.room q hq).2.2⟩, fun p hp q hq => ?_, by simp; omega, by have := h.base; have := h.size; omega, hc.below⟩
  · rcases List.mem_cons.1 hp with rfl | hp
    · exact ⟨hn, by simp⟩
    · exact ⟨(hc.rows p hp).1, by have := (hc.rows p hp).2; have := h.size; omega⟩
  · rcases List.mem_cons.1 hp with rfl | hp
    · have := (h.room q hq).2.1; have := h.size; simp only; omega
    · exact h.apart p hp q hq
/-- A row of a constant text: one place behind it is marked. -/
theorem has_marked (w : World) (k : IntKind) (n : Nat) (f : Nat → Int) (t : TypeId) : Has (w.alloc (.cells (row k n f).toArray t ((row k n f).toArray.size, (row k n f).toArray.size + 1))) w.heap.size k n f := by
  have e : (w.alloc (.cells (row k n f).toArray t ((row k n f).toArray.size, (row k n f).toArray.size + 1))).heap[w.heap.size]? = some (.cells (row k n f).toArray t ((row k n f).toArray.size, (row k n f).toArray.size + 1)) := by
    show (w.heap.push _)[w.heap.size]? = _
    simp
  refine ⟨fun j hj => ?_, fun j hj => ?_⟩
  · simp only [World.cell?, e]
    simpa using row_get k n f j hj
  · unfold World.frozen?
    rw [e]
    simp [row_length]
    omega
theorem conv_const {P : Program} {o : Oper} {a : Act} {w : World} (t e : TypeId) (C : Array Value) (n c : Nat) (x : Operand) (ho : o.op = .convert t t x) (hx : a.eval x = .slice (some ⟨w.heap.size, 0, none⟩) n c) (ht : P.underlying t = some (.slice e)) (he : P.underlying e = some (.int .u8)) :
    (execOp a.eval o).run P (w.alloc (.cells C e)) = .ok (.value (.slice (some ⟨w.heap.size, 0, none⟩) n c)) (w.alloc (.cells C e (C.size, C.size + 1))) := by
  unfold execOp
  simp only [ho, hx, Sem.run_bind, Lib.run_convert_bytes_const w t e C n c ht he, Result.andThen_ok, Sem.run_pure]
theorem Kr.drewN {w w' : World} {m : Nat} {l : List (Nat × IntKind × Nat × (Nat → Int))} {R : List (Nat × Nat)} (h : Kr w m l R w') {q : Nat} : Kr w m l R (w'.drewN q) := ⟨fun p hp => ⟨⟨(h.rows p hp).1.cell, (h.rows p hp).1.free⟩, (h.rows p hp).2⟩, h.room, h.apart, h.size, h.base, below_drewN h.below⟩
theorem name_it {α : Type} {x : α} {C : Prop} (h : ∀ y, x = y → C) : C := h x rfl
theorem eqlI {P : Program} {o : Oper} {a : Act} (k : IntKind) (n n' : Int) (t t' : TypeId) (x y : Operand) (ho : o.op = .binOp .eql t x y t') (hx : a.eval x = .int k n) (hy : a.eval y = .int k n') (r : Bool) (hr : (n == n') = r) (w : World) :
    (execOp a.eval o).run P w = .ok (.value (.bool r)) w := by
  unfold execOp
  simp only [ho, hx, hy, Sem.run_bind, eqGuard_at_int, binOp_eql, Sem.run_pure, Result.andThen_ok, hr]
theorem leqI {P : Program} {o : Oper} {a : Act} (k : IntKind) (n n' : Int) (t t' : TypeId) (x y : Operand) (ho : o.op = .binOp .leq t x y t') (hx : a.eval x = .int k n) (hy : a.eval y = .int k n') (r : Bool) (hr : decide (n ≤ n') = r) (w : World) :
    (execOp a.eval o).run P w = .ok (.value (.bool r)) w := by
  unfold execOp
  simp only [ho, hx, hy, Sem.run_bind, eqGuard_at_int, binOp_leq, Sem.run_pure, Result.andThen_ok, hr]
end Go.Proofs.YteclkiabkdaklaaDoor

namespace Go.Proofs.YteclkiabkdaklaaDoor
open Go.RowKit

section
variable {P : Program} {ops : Array Oper} {Q : Exit → Act → World → Prop} {md : Region.Mode} {S : World → Prop} {c : Nat}

/-- Whatever order is picked, and S holds behind each operation until number c has come up. -/
def wpAnyC (P : Program) (md : Region.Mode) (ops : Array Oper) (Q : Exit → Act → World → Prop) (S : World → Prop) (c : Nat) : Nat → Array Bool → Act → World → Prop
  | 0, l, a, w => Region.ready md ops l = [] ∧ Q .normal a w
  | n + 1, l, a, w => (Region.ready md ops l = [] → Q .normal a w) ∧
    ∀ i ∈ Region.ready md ops l, wpOp P ops Q i (fun a' w' => ((l.setIfInBounds i true).getD c true = false → S w') ∧ wpAnyC P md ops Q S c n (l.setIfInBounds i true) a' w') a w

theorem wpAny_of_C : ∀ (n : Nat) (l : Array Bool) (a : Act) (w : World), wpAnyC P md ops Q S c n l a w → wpAny P md ops Q n l a w
  | 0, _, _, _, h => h
  | n + 1, _, _, _, h => ⟨h.1, fun i hi => wpOp_mono (fun a' w' h' => wpAny_of_C n _ a' w' h'.2) (h.2 i hi)⟩
theorem listed_set {l : Array Bool} {i : Nat} (h : l.getD c true = true) : (l.setIfInBounds i true).getD c true = true := by
  by_cases e : i = c
  · subst e
    rw [Array.getD_eq_getD_getElem?]
    by_cases hb : i < l.size
    · rw [Array.getElem?_setIfInBounds_self_of_lt hb]; rfl
    · rw [Array.getElem?_eq_none (by simp; omega)]; rfl
  · rw [getD_set_ne true e]; exact h
/-- Number c has come up: nothing more is asked. -/
theorem wpAnyC_rest : ∀ (n : Nat) (l : Array Bool) (a : Act) (w : World), l.getD c true = true → wpAny P md ops Q n l a w → wpAnyC P md ops Q S c n l a w
  | 0, _, _, _, _, h => h
  | n + 1, _, _, _, hc, h => ⟨h.1, fun i hi => wpOp_mono (fun a' w' h' => ⟨fun hf => (by rw [listed_set hc] at hf; cases hf), wpAnyC_rest n _ a' w' (listed_set hc) h'⟩) (h.2 i hi)⟩
theorem not_both {l : Array Bool} {i : Nat} (h0 : l.getD i true = false) (h1 : l.getD i false = true) : False := by
  rw [Array.getD_eq_getD_getElem?] at h0 h1
  cases e : l[i]? with
  | none => rw [e] at h0; cases h0
  | some b => rw [e] at h0 h1; simp only [Option.getD_some] at h0 h1; rw [h0] at h1; cases h1

/-- What number c waits for may be taken first, if it yields its value in every world that meets S. -/
theorem wpAnyC_first {i : Nat} {oi oc : Oper} {v : Value} (hi : ops[i]? = some oi) (hc : ops[c]? = some oc) (hwait : ∃ e ∈ oc.after, Region.binds md e = true ∧ e.on = i) (hsel : ∀ (j : Nat) (o : Oper) cs b, ops[j]? = some o → o.op ≠ .select cs b)
    (hQ : ∀ p a w, Q (.panic p) (a.put oi.dst v) w → Q (.panic p) a w) : ∀ (n : Nat) (l : Array Bool) (a : Act) (w : World),
      (∀ j oj, ops[j]? = some oj → j ≠ i → l.getD j true = false → (∀ e ∈ oj.after, Region.binds md e = true → e.on ≠ i) → oi.apart ops oj = true) →
      l.getD c true = false → i ∈ Region.ready md ops l → YieldsIf P ops S oi v a → S w →
      wpAnyC P md ops Q S c n (l.setIfInBounds i true) (a.put oi.dst v) w → wpAnyC P md ops Q S c (n + 1) l a w := by
  have waits : ∀ (l : Array Bool) (j : Nat), i ∈ Region.ready md ops l → j ∈ Region.ready md ops l → j ≠ c := fun l j hr hj e => by
    subst e
    obtain ⟨_, o, ho, hall⟩ := mem_ready.1 hj
    obtain rfl : o = oc := Option.some.inj (ho.symm.trans hc)
    obtain ⟨e, he, hb, rfl⟩ := hwait
    exact not_both (mem_ready.1 hr).1 (hall e he hb)
  intro n
  induction n with
  | zero =>
    intro l a w _ _ hr hy hS H
    refine ⟨fun h => (by rw [h] at hr; cases hr), fun j hj => ?_⟩
    by_cases hji : j = i
    · subst hji; exact hy.wpOp hi hS ⟨fun _ => hS, H⟩
    · have := ready_mono hj hji
      rw [H.1] at this
      cases this
  | succ n ih =>
    intro l a w hfree hlc hr hy hS H
    refine ⟨fun h => (by rw [h] at hr; cases hr), fun j hj => ?_⟩
    by_cases hji : j = i
    · subst hji; exact hy.wpOp hi hS ⟨fun _ => hS, H⟩
    · have hjc := waits l j hr hj
      have hic := waits l i hr hr
      obtain ⟨hjun, oj, hoj, hall⟩ := mem_ready.1 hj
      have hnot : ∀ e ∈ oj.after, Region.binds md e = true → e.on ≠ i := fun e he hb heq => not_both (mem_ready.1 hr).1 (by rw [← heq]; exact hall e he hb)
      have h2 := wpOp_putIf hoj (hfree j oj hoj hji hjun hnot) (fun cs b => hsel i oi cs b hi) (fun cs b => hsel j oj cs b hoj) hQ hy (H.2 j (ready_mono hj hji))
      have hfree' : ∀ k ok, ops[k]? = some ok → k ≠ i → (l.setIfInBounds j true).getD k true = false → (∀ e ∈ ok.after, Region.binds md e = true → e.on ≠ i) → oi.apart ops ok = true := fun k ok hk hki hun hno => by
        refine hfree k ok hk hki ?_ hno
        by_cases hjk : j = k
        · subst hjk; exact hjun
        · rw [getD_set_ne true hjk] at hun; exact hun
      refine wpOp_mono (fun a' w' h3 => ?_) h2
      have hS' : S w' := h3.2.1 (by rw [getD_set_ne true hjc, getD_set_ne true hic]; exact hlc)
      refine ⟨fun _ => hS', ih (l.setIfInBounds j true) a' w' hfree' (by rw [getD_set_ne true hjc]; exact hlc) (ready_mono hr (Ne.symm hji)) h3.1 hS' ?_⟩
      rw [Array.setIfInBounds_comm _ _ hji]
      exact h3.2.2
theorem wpAnyC_take {i : Nat} {oi oc : Oper} {v : Value} {n : Nat} {l : Array Bool} {a : Act} {w : World} (hi : ops[i]? = some oi) (hc : ops[c]? = some oc) (hwait : (oc.after.any fun e => Region.binds md e && e.on == i) = true)
    (hs : Region.noSelect ops = true) (hf : Region.free md ops l i = true) (hl : l.getD c true = false) (hr : (Region.ready md ops l).contains i = true)
    (hQ : ∀ p a w, Q (.panic p) (a.put oi.dst v) w → Q (.panic p) a w) (hy : YieldsIf P ops S oi v a) (hS : S w)
    (h : wpAnyC P md ops Q S c n (l.setIfInBounds i true) (a.put oi.dst v) w) : wpAnyC P md ops Q S c (n + 1) l a w := by
  refine wpAnyC_first hi hc ?_ (Region.noSelect_spec hs) hQ n l a w (Region.free_spec hi hf) hl (by simpa using hr) hy hS h
  obtain ⟨e, he, hb⟩ := Array.any_eq_true'.1 hwait
  simp only [Bool.and_eq_true, beq_iff_eq] at hb
  exact ⟨e, he, hb.1, hb.2⟩
/-- What yields its value in whatever world may be taken first. -/
theorem wpAnyC_pure {i : Nat} {oi : Oper} {v : Value} (hi : ops[i]? = some oi) (hic : i ≠ c) (hsel : ∀ (j : Nat) (o : Oper) cs b, ops[j]? = some o → o.op ≠ .select cs b)
    (hQ : ∀ p a w, Q (.panic p) (a.put oi.dst v) w → Q (.panic p) a w) : ∀ (n : Nat) (l : Array Bool) (a : Act) (w : World),
      (∀ j oj, ops[j]? = some oj → j ≠ i → l.getD j true = false → (∀ e ∈ oj.after, Region.binds md e = true → e.on ≠ i) → oi.apart ops oj = true) →
      i ∈ Region.ready md ops l → YieldsIf P ops (fun _ => True) oi v a → (l.getD c true = false → S w) →
      wpAnyC P md ops Q S c n (l.setIfInBounds i true) (a.put oi.dst v) w → wpAnyC P md ops Q S c (n + 1) l a w := by
  intro n
  induction n with
  | zero =>
    intro l a w _ hr hy hS H
    refine ⟨fun h => (by rw [h] at hr; cases hr), fun j hj => ?_⟩
    by_cases hji : j = i
    · subst hji; exact hy.wpOp hi trivial ⟨fun h => hS (by rw [getD_set_ne true hic] at h; exact h), H⟩
    · have := ready_mono hj hji
      rw [H.1] at this
      cases this
  | succ n ih =>
    intro l a w hfree hr hy hS H
    refine ⟨fun h => (by rw [h] at hr; cases hr), fun j hj => ?_⟩
    by_cases hji : j = i
    · subst hji; exact hy.wpOp hi trivial ⟨fun h => hS (by rw [getD_set_ne true hic] at h; exact h), H⟩
    · obtain ⟨hjun, oj, hoj, hall⟩ := mem_ready.1 hj
      have hnot : ∀ e ∈ oj.after, Region.binds md e = true → e.on ≠ i := fun e he hb heq => not_both (mem_ready.1 hr).1 (by rw [← heq]; exact hall e he hb)
      have h2 := wpOp_putIf hoj (hfree j oj hoj hji hjun hnot) (fun cs b => hsel i oi cs b hi) (fun cs b => hsel j oj cs b hoj) hQ hy (H.2 j (ready_mono hj hji))
      have hfree' : ∀ k ok, ops[k]? = some ok → k ≠ i → (l.setIfInBounds j true).getD k true = false → (∀ e ∈ ok.after, Region.binds md e = true → e.on ≠ i) → oi.apart ops ok = true := fun k ok hk hki hun hno => by
        refine hfree k ok hk hki ?_ hno
        by_cases hjk : j = k
        · subst hjk; exact hjun
        · rw [getD_set_ne true hjk] at hun; exact hun
      refine wpOp_mono (fun a' w' h3 => ?_) h2
      have hS' : (l.setIfInBounds j true).getD c true = false → S w' := fun hf => h3.2.1 (by rw [Array.setIfInBounds_comm _ _ (Ne.symm hji), getD_set_ne true hic]; exact hf)
      refine ⟨hS', ih (l.setIfInBounds j true) a' w' hfree' (ready_mono hr (Ne.symm hji)) h3.1 hS' ?_⟩
      rw [Array.setIfInBounds_comm _ _ hji]
      exact h3.2.2
theorem wp_region_C (c : Nat) {id : Nat} {a : Act} {w : World} (hm : P.follows .mixedOrders = true) (hS : S w.drew)
    (h : S w.drew → wpAnyC P .any ops Q S c ops.size (Array.replicate ops.size false) a w.drew) : (Code.region id ops true).wp P Q a w :=
  wp_region_any hm (wpAny_of_C _ _ _ _ (h hS))
end

section
variable {P : Program} {ops : Array Oper} {Q : Exit → Act → World → Prop} {md : Region.Mode} {S S2 : World → Prop} {c : Nat}
theorem pureC {i : Nat} {oi : Oper} (dst : Option Tmp) (hdst : oi.dst = dst) {n : Nat} {l : Array Bool} {a : Act} {w : World} (v : Value) (hi : ops[i]? = some oi) (hic : i ≠ c) (hw : Region.wanted oi (yielded ops a.tmps) = true)
    (hv : ∀ w, (execOp a.eval oi).run P w = .ok (.value v) w)
    (hs : Region.noSelect ops = true) (hf : Region.free md ops l i = true) (hr : (Region.ready md ops l).contains i = true)
    (hQ : ∀ p a w, Q (.panic p) (a.put dst v) w → Q (.panic p) a w) (hS : S w)
    (h : wpAnyC P md ops Q S c n (l.setIfInBounds i true) (a.put dst v) w) : wpAnyC P md ops Q S c (n + 1) l a w := by
  subst hdst
  exact wpAnyC_pure hi hic (Region.noSelect_spec hs) hQ n l a w (Region.free_spec hi hf) (by simpa using hr) (.inl ⟨hw, fun w _ => hv w⟩) (fun _ => hS) h
/-- One cell is loaded. -/
theorem cellC {i : Nat} {oi oc : Oper} (dst : Option Tmp) (hdst : oi.dst = dst) {n : Nat} {l : Array Bool} {a : Act} {w : World} (k : IntKind) (v : Value) (b o : Nat) (ty : TypeId) (x : Operand) (hi : ops[i]? = some oi) (hc : ops[c]? = some oc) (hwait : (oc.after.any fun e => Region.binds md e && e.on == i) = true)
    (ho : oi.op = .load ty x) (hx : a.eval x = .pointer (some ⟨b, o, none⟩)) (hw : Region.wanted oi (yielded ops a.tmps) = true)
    (hs : Region.noSelect ops = true) (hf : Region.free md ops l i = true) (hl : l.getD c true = false) (hr : (Region.ready md ops l).contains i = true)
    (hQ : ∀ p a w, Q (.panic p) (a.put dst v) w → Q (.panic p) a w) (hu : P.underlying ty = some (.int k))
    (hS : S w) (hh : ∀ w, S w → w.cell? ⟨b, o, none⟩ = some v)
    (h : wpAnyC P md ops Q S c n (l.setIfInBounds i true) (a.put dst v) w) : wpAnyC P md ops Q S c (n + 1) l a w := by
  subst hdst
  refine wpAnyC_take hi hc hwait hs hf hl hr hQ (.inl ⟨hw, fun w hw' => ?_⟩) hS h
  unfold execOp
  simp only [ho, hx, Instr.loadAt, Instr.sureAddr, Sem.run_bind, Sem.run_pure, Result.andThen_ok, run_loadVar_cell w b o ty k v (hh w hw') hu]
/-- A whole row is loaded. -/
theorem rowC {i : Nat} {oi oc : Oper} (dst : Option Tmp) (hdst : oi.dst = dst) {n : Nat} {l : Array Bool} {a : Act} {w : World} (k : IntKind) (m : Nat) (f : Nat → Int) (b o : Nat) (ty : TypeId) (x : Operand) (d : TypeDesc) (hi : ops[i]? = some oi) (hc : ops[c]? = some oc) (hwait : (oc.after.any fun e => Region.binds md e && e.on == i) = true)
    (ho : oi.op = .load ty x) (hx : a.eval x = .pointer (some ⟨b, o, none⟩)) (hw : Region.wanted oi (yielded ops a.tmps) = true)
    (hs : Region.noSelect ops = true) (hf : Region.free md ops l i = true) (hl : l.getD c true = false) (hr : (Region.ready md ops l).contains i = true)
    (hQ : ∀ p a w, Q (.panic p) (a.put dst (.agg (row k m f).toArray)) w → Q (.panic p) a w)
    (hu : P.underlying ty = some d) (hd : d.isRow = true) (hz : (P.info? ty).map (·.size) = some (row k m f).length) (hS : S w) (hh : ∀ w, S w → w.rangeAt b o (row k m f))
    (h : wpAnyC P md ops Q S c n (l.setIfInBounds i true) (a.put dst (.agg (row k m f).toArray)) w) : wpAnyC P md ops Q S c (n + 1) l a w := by
  subst hdst
  exact wpAnyC_take hi hc hwait hs hf hl hr hQ (yieldsIf_load_mid hw ty x ho b o hx (row k m f) d hh hu hd hz) hS h
/-- Number c stores a whole row, and it alone may come up. -/
theorem storesC (dst : Option Tmp) {oc : Oper} (hdst : oc.dst = dst) {n : Nat} {l : Array Bool} {a : Act} {w : World} (k : IntKind) (m : Nat) (f : Nat → Int) (b : Nat) (ty : TypeId) (x y : Operand) (hr : Region.ready md ops l = [c]) (hi : ops[c]? = some oc)
    (hw : Region.wanted oc (yielded ops a.tmps) = true) (ho : oc.op = .store ty x y) (hx : a.eval x = .pointer (some ⟨b, 0, none⟩)) (hy : a.eval y = .agg (row k m f).toArray) (ht : w.there b 0 (row k m f).toArray.size) (hz : (P.info? ty).map (·.size) = some (row k m f).toArray.size) (hl : (l.setIfInBounds c true).getD c true = true)
    (h : wpAnyH P md ops Q S2 n (l.setIfInBounds c true) (a.put dst undef) (w.setCells b 0 (row k m f))) : wpAnyC P md ops Q S c (n + 1) l a w :=
  ⟨fun h0 => (by rw [h0] at hr; cases hr), fun j hj => by
    rw [hr] at hj
    obtain rfl := List.mem_singleton.1 hj
    have he : (execOp a.eval oc).run P w = .ok .skip (w.setCells b 0 (row k m f)) := by
      unfold execOp
      simp only [ho, hx, hy]
      have e := run_storeAt_mid (P := P) w b 0 ty (row k m f).toArray ht hz (all_oneCell_toArray (row_one k m f))
      simp only [Sem.run_bind, e, Result.andThen_ok, Sem.run_pure]
    unfold wpOp
    simp only [hi, hw, if_true]
    refine .inl ?_
    unfold Oper.wp
    rw [he]
    subst hdst
    exact ⟨fun hf => (by rw [hl] at hf; cases hf), wpAnyC_rest n _ _ _ hl (wpAny_of_held n _ _ _ h)⟩⟩
/-- Number c is a call, and it alone may come up. -/
theorem callC (dst : Option Tmp) {oc : Oper} (hdst : oc.dst = dst) {f : FuncId} {args : Array Value} {R : Ending → World → Prop} {n : Nat} {l : Array Bool} {a : Act} {w : World} (hr : Region.ready md ops l = [c]) (hc : ops[c]? = some oc)
    (hw : Region.wanted oc (yielded ops a.tmps) = true) (he : ∀ w, (execOp a.eval oc).run P w = .ok (.enter f args) w) (hC : Calls P f args w R) (hl : (l.setIfInBounds c true).getD c true = true)
    (hK : ∀ e w', R e w' → ∃ v, e = .returned v ∧ wpAnyH P md ops Q S2 n (l.setIfInBounds c true) (a.put dst v) w') : wpAnyC P md ops Q S c (n + 1) l a w :=
  ⟨fun h0 => (by rw [h0] at hr; cases hr), fun j hj => by
    rw [hr] at hj
    obtain rfl := List.mem_singleton.1 hj
    unfold wpOp
    simp only [hc, hw, if_true]
    refine .inl ?_
    unfold Oper.wp
    rw [he w]
    exact hC.mono fun e w' hR => by
      obtain ⟨v, rfl, h⟩ := hK e w' hR
      subst hdst
      exact ⟨fun hf => (by rw [hl] at hf; cases hf), wpAnyC_rest n _ _ _ hl (wpAny_of_held n _ _ _ h)⟩⟩
/-- A call that alone may come up, ahead of number c. -/
theorem callMC {i : Nat} {oi : Oper} (dst : Option Tmp) (hdst : oi.dst = dst) {f : FuncId} {args : Array Value} {R : Ending → World → Prop} {n : Nat} {l : Array Bool} {a : Act} {w : World} (hr : Region.ready md ops l = [i]) (hi : ops[i]? = some oi)
    (hw : Region.wanted oi (yielded ops a.tmps) = true) (he : ∀ w, (execOp a.eval oi).run P w = .ok (.enter f args) w) (hC : Calls P f args w R)
    (hK : ∀ e w', R e w' → ∃ v, e = .returned v ∧ S w' ∧ wpAnyC P md ops Q S c n (l.setIfInBounds i true) (a.put dst v) w') : wpAnyC P md ops Q S c (n + 1) l a w :=
  ⟨fun h0 => (by rw [h0] at hr; cases hr), fun j hj => by
    rw [hr] at hj
    obtain rfl := List.mem_singleton.1 hj
    unfold wpOp
    simp only [hi, hw, if_true]
    refine .inl ?_
    unfold Oper.wp
    rw [he w]
    exact hC.mono fun e w' hR => by
      obtain ⟨v, rfl, hS, h⟩ := hK e w' hR
      subst hdst
      exact ⟨fun _ => hS, h⟩⟩
/-- One cell is stored. -/
theorem run_storeAt_cell (w : World) (b o : Nat) (ty : TypeId) (k : IntKind) (n : Int) (hx : (w.cell? ⟨b, o, none⟩).isSome = true) (hf : w.frozen? ⟨b, o, none⟩ = false) (hi : (P.info? ty).map (·.size) = some 1) :
    (Instr.storeAt ty (.pointer (some ⟨b, o, none⟩)) (.int k n)).run P w = .ok () (w.setCell ⟨b, o, none⟩ (.int k n)) := by
  have h0 : ∀ j : Nat, j < [Value.int k n].length → j = 0 := fun j hj => by simpa using hj
  have := run_storeCells_cells (P := P) b o [.int k n] 0 w (fun j hj => by rw [h0 j hj]; simpa using hx) (fun j hj => by rw [h0 j hj]; simpa using hf) (fun v hv => by simp at hv; subst hv; rfl)
  cases hq : P.info? ty with
  | none => simp [hq] at hi
  | some i =>
    have hs : i.size = 1 := by simp [hq] at hi; omega
    simp only [Nat.add_zero] at this
    have e : (storeVar ty ⟨b, o, none⟩ (.int k n)).run P w = .ok () (w.setCell ⟨b, o, none⟩ (.int k n)) := by
      simp [storeVar, sizeOf, typeInfo, hq, Value.cells, hs, this, World.setCells]
    simp only [Instr.storeAt, Instr.sureAddr, Sem.run_bind, Sem.run_pure, Result.andThen_ok, e]
/-- Number c stores a cell, and it alone may come up. -/
theorem storeC (dst : Option Tmp) {oc : Oper} (hdst : oc.dst = dst) {n : Nat} {l : Array Bool} {a : Act} {w : World} (k : IntKind) (v : Int) (b o : Nat) (ty : TypeId) (x y : Operand) (hr : Region.ready md ops l = [c]) (hi : ops[c]? = some oc)
    (hw : Region.wanted oc (yielded ops a.tmps) = true) (ho : oc.op = .store ty x y) (hx : a.eval x = .pointer (some ⟨b, o, none⟩)) (hy : a.eval y = .int k v) (hc : (w.cell? ⟨b, o, none⟩).isSome = true) (hf : w.frozen? ⟨b, o, none⟩ = false) (hz : (P.info? ty).map (·.size) = some 1) (hl : (l.setIfInBounds c true).getD c true = true)
    (h : wpAnyH P md ops Q S2 n (l.setIfInBounds c true) (a.put dst undef) (w.setCell ⟨b, o, none⟩ (.int k v))) : wpAnyC P md ops Q S c (n + 1) l a w :=
  ⟨fun h0 => (by rw [h0] at hr; cases hr), fun j hj => by
    rw [hr] at hj
    obtain rfl := List.mem_singleton.1 hj
    have he : (execOp a.eval oc).run P w = .ok .skip (w.setCell ⟨b, o, none⟩ (.int k v)) := by
      unfold execOp
      simp only [ho, hx, hy]
      have e := run_storeAt_cell (P := P) w b o ty k v hc hf hz
      simp only [Sem.run_bind, e, Result.andThen_ok, Sem.run_pure]
    unfold wpOp
    simp only [hi, hw, if_true]
    refine .inl ?_
    unfold Oper.wp
    rw [he]
    subst hdst
    exact ⟨fun hf => (by rw [hl] at hf; cases hf), wpAnyC_rest n _ _ _ hl (wpAny_of_held n _ _ _ h)⟩⟩
/-- The one operation that may come up stores a cell. -/
theorem storeH {i : Nat} {oi : Oper} (dst : Option Tmp) (hdst : oi.dst = dst) {n : Nat} {l : Array Bool} {a : Act} {w : World} (k : IntKind) (v : Int) (b o : Nat) (ty : TypeId) (x y : Operand) (hr : Region.ready md ops l = [i]) (hi : ops[i]? = some oi)
    (hw : Region.wanted oi (yielded ops a.tmps) = true) (ho : oi.op = .store ty x y) (hx : a.eval x = .pointer (some ⟨b, o, none⟩)) (hy : a.eval y = .int k v) (hc : (w.cell? ⟨b, o, none⟩).isSome = true) (hf : w.frozen? ⟨b, o, none⟩ = false) (hz : (P.info? ty).map (·.size) = some 1) (hS : S (w.setCell ⟨b, o, none⟩ (.int k v)))
    (h : wpAnyH P md ops Q S n (l.setIfInBounds i true) (a.put dst undef) (w.setCell ⟨b, o, none⟩ (.int k v))) : wpAnyH P md ops Q S (n + 1) l a w :=
  doesH dst hdst hr hi hw (by
    unfold execOp
    simp only [ho, hx, hy]
    have e := run_storeAt_cell (P := P) w b o ty k v hc hf hz
    simp only [Sem.run_bind, e, Result.andThen_ok, Sem.run_pure]) hS h
/-- A place within an array, and within a slice. -/
theorem idxArr {o : Oper} {a : Act} (t e : TypeId) (n : Nat) (k : IntKind) (b off i : Nat) (x y : Operand) (hu : P.underlying t = some (.array n e)) (hsz : ∀ w, (sizeOf e).run P w = .ok 1 w) (hi : i < n) (ho : o.op = .indexAddr t x y) (hx : a.eval x = .pointer (some ⟨b, off, none⟩)) (hy : a.eval y = .int k (i : Int)) (w : World) :
    (execOp a.eval o).run P w = .ok (.value (.pointer (some ⟨b, off + i, none⟩))) w := by
  have e1 : (Instr.indexAt t (.pointer (some ⟨b, off, none⟩)) (.int k (i : Int))).run P w = .ok (.pointer (some ⟨b, off + i, none⟩)) w := by
    simp [Instr.indexAt, run_underlying hu, Instr.sureAddr, asIntOf, hsz, Addr.add_mid]
    intro hf
    omega
  unfold execOp
  simp only [ho, hx, hy, Sem.run_bind, e1, Result.andThen_ok, Sem.run_pure]
theorem idxSl {o : Oper} {a : Act} (t e : TypeId) (len cap : Nat) (k : IntKind) (ad : Addr) (i : Nat) (x y : Operand) (hu : P.underlying t = some (.slice e)) (hsz : ∀ w, (sizeOf e).run P w = .ok 1 w) (hi : i < len) (ho : o.op = .indexAddr t x y) (hx : a.eval x = .slice (some ad) len cap) (hy : a.eval y = .int k (i : Int)) (w : World) :
    (execOp a.eval o).run P w = .ok (.value (.pointer (some (ad.add i)))) w := by
  have e1 : (Instr.indexAt t (.slice (some ad) len cap) (.int k (i : Int))).run P w = .ok (.pointer (some (ad.add i))) w := by
    simp [Instr.indexAt, run_underlying hu, asIntOf, hsz]
    intro hf
    omega
  unfold execOp
  simp only [ho, hx, hy, Sem.run_bind, e1, Result.andThen_ok, Sem.run_pure]
end
end Go.Proofs.YteclkiabkdaklaaDoor

namespace Go.Proofs.YteclkiabkdaklaaDoor
open Go.RowKit

section
variable {P : Program} {o : Oper} {a : Act}
theorem addI (k : IntKind) (n n' r : Int) (t t' : TypeId) (x y : Operand) (ho : o.op = .binOp .add t x y t') (hx : a.eval x = .int k n) (hy : a.eval y = .int k n') (hr : k.wrap (n + n') = r) (w : World) : (execOp a.eval o).run P w = .ok (.value (.int k r)) w := by
  unfold execOp
  simp only [ho, hx, hy, Sem.run_bind, eqGuard_at_int, binOp_add, Op.intArith, Sem.run_pure, Result.andThen_ok, hr]
theorem subI (k : IntKind) (n n' r : Int) (t t' : TypeId) (x y : Operand) (ho : o.op = .binOp .sub t x y t') (hx : a.eval x = .int k n) (hy : a.eval y = .int k n') (hr : k.wrap (n - n') = r) (w : World) : (execOp a.eval o).run P w = .ok (.value (.int k r)) w := by
  unfold execOp
  simp only [ho, hx, hy, Sem.run_bind, eqGuard_at_int, binOp_sub, Op.intArith, Sem.run_pure, Result.andThen_ok, hr]
theorem mulI (k : IntKind) (n n' r : Int) (t t' : TypeId) (x y : Operand) (ho : o.op = .binOp .mul t x y t') (hx : a.eval x = .int k n) (hy : a.eval y = .int k n') (hr : k.wrap (n * n') = r) (w : World) : (execOp a.eval o).run P w = .ok (.value (.int k r)) w := by
  unfold execOp
  simp only [ho, hx, hy, Sem.run_bind, eqGuard_at_int, binOp_mul, Op.intArith, Sem.run_pure, Result.andThen_ok, hr]
theorem xorI (k : IntKind) (n n' r : Int) (t t' : TypeId) (x y : Operand) (ho : o.op = .binOp .xor t x y t') (hx : a.eval x = .int k n) (hy : a.eval y = .int k n') (hr : bits .xor k n n' = r) (w : World) : (execOp a.eval o).run P w = .ok (.value (.int k r)) w := by
  unfold execOp
  simp only [ho, hx, hy, Sem.run_bind, eqGuard_at_int, binOp_xor, intBits_xor, Sem.run_pure, Result.andThen_ok, hr]
theorem remI (k : IntKind) (n n' r : Int) (t t' : TypeId) (x y : Operand) (ho : o.op = .binOp .rem t x y t') (hx : a.eval x = .int k n) (hy : a.eval y = .int k n') (h0 : n' ≠ 0) (hr : n.tmod n' = r) (w : World) : (execOp a.eval o).run P w = .ok (.value (.int k r)) w := by
  unfold execOp
  simp only [ho, hx, hy, Sem.run_bind, eqGuard_at_int, binOp_rem, Op.intDiv, if_neg h0, Sem.run_pure, Result.andThen_ok, hr]
theorem quoI (k : IntKind) (n n' r : Int) (t t' : TypeId) (x y : Operand) (ho : o.op = .binOp .quo t x y t') (hx : a.eval x = .int k n) (hy : a.eval y = .int k n') (h0 : n' ≠ 0) (hr : k.wrap (n.tdiv n') = r) (w : World) : (execOp a.eval o).run P w = .ok (.value (.int k r)) w := by
  unfold execOp
  simp only [ho, hx, hy, Sem.run_bind, eqGuard_at_int, binOp_quo, Op.intDiv, if_neg h0, Sem.run_pure, Result.andThen_ok, hr]
theorem shrI (k yk : IntKind) (n y r : Int) (t t' : TypeId) (x x' : Operand) (ho : o.op = .binOp .shr t x x' t') (hx : a.eval x = .int k n) (hy : a.eval x' = .int yk y) (h0 : 0 ≤ y) (hr : n / 2 ^ min y.toNat k.bits = r) (w : World) : (execOp a.eval o).run P w = .ok (.value (.int k r)) w := by
  unfold execOp
  simp only [ho, hx, hy, Sem.run_bind, eqGuard_at_int, binOp_shr, shift_shr_any k yk n y h0, Sem.run_pure, Result.andThen_ok, hr]
theorem convI (k k' : IntKind) (n r : Int) (t t' : TypeId) (x : Operand) (ho : o.op = .convert t t' x) (ht : (P.underlying t).isSome = true) (ht' : P.underlying t' = some (.int k')) (hk : P.intKind t' = k') (hx : a.eval x = .int k n) (hr : k'.wrap n = r) (w : World) : (execOp a.eval o).run P w = .ok (.value (.int k' r)) w := by
  subst hk
  unfold execOp
  simp only [ho, hx, Sem.run_bind, run_convert_int w t t' k n ht ht', Sem.run_pure, Result.andThen_ok, hr]
theorem lssI (k : IntKind) (n n' : Int) (t t' : TypeId) (x y : Operand) (ho : o.op = .binOp .lss t x y t') (hx : a.eval x = .int k n) (hy : a.eval y = .int k n') (r : Bool) (hr : decide (n < n') = r) (w : World) : (execOp a.eval o).run P w = .ok (.value (.bool r)) w := by
  unfold execOp
  simp only [ho, hx, hy, Sem.run_bind, eqGuard_at_int, binOp_lss, Sem.run_pure, Result.andThen_ok, hr]
theorem neqI (k : IntKind) (n n' : Int) (t t' : TypeId) (x y : Operand) (ho : o.op = .binOp .neq t x y t') (hx : a.eval x = .int k n) (hy : a.eval y = .int k n') (r : Bool) (hr : (n != n') = r) (w : World) : (execOp a.eval o).run P w = .ok (.value (.bool r)) w := by
  unfold execOp
  simp only [ho, hx, hy, Sem.run_bind, eqGuard_at_int, binOp_neq, Sem.run_pure, Result.andThen_ok, hr]
theorem lenS (x : Operand) (t e : TypeId) (sp : Option Addr) (n c : Nat) (ho : o.op = .call { callee := .builtin .len, args := #[x], argTypes := #[t] }) (ht : P.underlying t = some (.slice e)) (hx : a.eval x = .slice sp n c) (w : World) : (execOp a.eval o).run P w = .ok (.value (.int .i64 (n : Int))) w := by
  simp [execOp, ho, resolve, invoke, builtin, hx, Builtin.len_, run_underlying ht, goInt]
theorem minI (k k' : IntKind) (n n' r : Int) (x y : Operand) (t t' : TypeId) (ho : o.op = .call { callee := .builtin .min, args := #[x, y], argTypes := #[t, t'] }) (hx : a.eval x = .int k n) (hy : a.eval y = .int k' n') (hr : (if n' < n then n' else n) = r) (w : World) : (execOp a.eval o).run P w = .ok (.value (.int k r)) w := by
  simp [execOp, ho, resolve, invoke, builtin, hx, hy, run_min_int2, hr]
/-- A slice of a slice. -/
theorem cutOp {w : World} (t : TypeId) (x y : Operand) (p q v : Value) (ho : o.op = .slice t x (some y) none none) (hx : a.eval x = p) (hy : a.eval y = q) (hr : (Instr.sliceAt t p (some q) none none).run P w = .ok v w) :
    (execOp a.eval o).run P w = .ok (.value v) w := by
  unfold execOp
  simp only [ho, hx, hy, Option.map_some, Option.map_none, Sem.run_bind, hr, Result.andThen_ok, Sem.run_pure]
theorem cutHi {w : World} (t : TypeId) (x y : Operand) (p q v : Value) (ho : o.op = .slice t x none (some y) none) (hx : a.eval x = p) (hy : a.eval y = q) (hr : (Instr.sliceAt t p none (some q) none).run P w = .ok v w) :
    (execOp a.eval o).run P w = .ok (.value v) w := by
  unfold execOp
  simp only [ho, hx, hy, Option.map_some, Option.map_none, Sem.run_bind, hr, Result.andThen_ok, Sem.run_pure]
theorem cutAll {w : World} (t : TypeId) (x : Operand) (p v : Value) (ho : o.op = .slice t x none none none) (hx : a.eval x = p) (hr : (Instr.sliceAt t p none none none).run P w = .ok v w) :
    (execOp a.eval o).run P w = .ok (.value v) w := by
  unfold execOp
  simp only [ho, hx, Option.map_none, Sem.run_bind, hr, Result.andThen_ok, Sem.run_pure]

/-- Bytes as a text. -/
def txt (n : Nat) (z : Nat → Int) : ByteArray := strOfNums ((List.range n).map z)
theorem txt_congr {n : Nat} {z y : Nat → Int} (h : ∀ j, j < n → z j = y j) : txt n z = txt n y := by
  unfold txt
  rw [List.map_congr_left fun j hj => h j (List.mem_range.1 hj)]
theorem txt_size (n : Nat) (z : Nat → Int) : (txt n z).size = n := by unfold txt; rw [strOfNums_size]; simp
theorem txt_add (n m : Nat) (z : Nat → Int) : txt n z ++ txt m (fun j => z (n + j)) = txt (n + m) z := by
  unfold txt strOfNums
  rw [List.range_add, List.map_append, List.map_append, List.map_map (l := List.range m)]
  ext1
  simp [ByteArray.data_append, Function.comp_def]
theorem conv_txt (t e dst : TypeId) (x : Operand) (ho : o.op = .convert t dst x) (ht : P.underlying t = some (.slice e)) (he : P.underlying e = some (.int .u8)) (hd : P.underlying dst = some .string) (sp : Option Addr) (len cap : Nat) (z : Nat → Int) (hx : a.eval x = .slice sp len cap) (w : World) (hs : Src w sp len z) (hn : sp = none → len = 0) :
    (execOp a.eval o).run P w = .ok (.value (.string (txt len z))) w := by
  have h : (convert t dst (.slice sp len cap)).run P w = .ok (.string (txt len z)) w := by
    cases sp with
    | none =>
      obtain rfl := hn rfl
      rw [run_convert_bytes_nil w t e ht he 0 cap dst hd]
      rfl
    | some ad =>
      have hl : (loadCells ad len).run P w = .ok (((List.range len).map z).map (Value.int .u8)).toArray w := by
        have := run_loadCells_list (P := P) w ad (((List.range len).map z).map (Value.int .u8)) (fun j v hj => by
          rw [List.map_map] at hj
          have hjl : j < len := by
            have := (List.getElem?_eq_some_iff.1 hj).1
            simpa using this
          obtain ⟨ad', he', hc⟩ := hs j hjl
          injection he' with he'
          subst he'
          rw [hc, ← hj]
          simp [hjl])
        simpa using this
      rw [run_convert_bytes_string w t dst e _ len cap ht he hd, run_bytesToString w ad len cap _ hl, foldl_push_bytes]
      simp [txt, strOfNums, ByteArray.empty, ByteArray.emptyWithCapacity]
      rfl
  unfold execOp
  simp only [ho, hx, Sem.run_bind, h, Result.andThen_ok, Sem.run_pure]
theorem eqlS (s s' : ByteArray) (t t' : TypeId) (x y : Operand) (ho : o.op = .binOp .eql t x y t') (hx : a.eval x = .string s) (hy : a.eval y = .string s') (h : s = s') (w : World) : (execOp a.eval o).run P w = .ok (.value (.bool true)) w := by
  subst h
  unfold execOp
  simp only [ho, hx, hy, Sem.run_bind, eqGuard_at_string, binOp_string_eql, Sem.run_pure, Result.andThen_ok, beq_self_eq_true]
theorem addS (s s' r : ByteArray) (t t' : TypeId) (x y : Operand) (ho : o.op = .binOp .add t x y t') (hx : a.eval x = .string s) (hy : a.eval y = .string s') (hs : s.size + s'.size ≤ 9223372036854775807) (h : s ++ s' = r) (w : World) : (execOp a.eval o).run P w = .ok (.value (.string r)) w := by
  subst h
  unfold execOp
  simp only [ho, hx, hy, Sem.run_bind, eqGuard_at_string, binOp_string_add, run_string_add_sum w s s' hs, Sem.run_pure, Result.andThen_ok]
end

section
variable {P : Program} {ops : Array Oper} {Q : Exit → Act → World → Prop} {md : Region.Mode} {S : World → Prop}
/-- What only looks at memory that S speaks of is taken first. -/
theorem readH {i : Nat} {oi : Oper} (dst : Option Tmp) (hdst : oi.dst = dst) {fuel : Nat} {listed : Array Bool} {a : Act} {w : World} (v : Value) (hi : ops[i]? = some oi) (hw : Region.wanted oi (yielded ops a.tmps) = true)
    (hv : ∀ w, S w → (execOp a.eval oi).run P w = .ok (.value v) w)
    (hs : Region.noSelect ops = true) (hf : Region.free md ops listed i = true) (hr : (Region.ready md ops listed).contains i = true)
    (hQ : ∀ c a w, Q (.panic c) (a.put dst v) w → Q (.panic c) a w) (hS : S w)
    (h : wpAnyH P md ops Q S fuel (listed.setIfInBounds i true) (a.put dst v) w) : wpAnyH P md ops Q S (fuel + 1) listed a w := by
  subst hdst
  exact wpAnyH_take hi hs hf hr hQ (Or.inl ⟨hw, hv⟩) hS h
/-- One cell is loaded, wherever it lies. -/
theorem cellPH {i : Nat} {oi : Oper} (dst : Option Tmp) (hdst : oi.dst = dst) {fuel : Nat} {listed : Array Bool} {a : Act} {w : World} (k : IntKind) (v : Value) (p : Addr) (ty : TypeId) (x : Operand) (hi : ops[i]? = some oi)
    (ho : oi.op = .load ty x) (hx : a.eval x = .pointer (some p)) (hw : Region.wanted oi (yielded ops a.tmps) = true)
    (hs : Region.noSelect ops = true) (hf : Region.free md ops listed i = true) (hr : (Region.ready md ops listed).contains i = true)
    (hQ : ∀ c a w, Q (.panic c) (a.put dst v) w → Q (.panic c) a w)
    (hu : P.underlying ty = some (.int k))
    (hS : S w) (hh : ∀ w, S w → w.cell? p = some v)
    (h : wpAnyH P md ops Q S fuel (listed.setIfInBounds i true) (a.put dst v) w) : wpAnyH P md ops Q S (fuel + 1) listed a w := by
  refine readH dst hdst v hi hw (fun w hw' => ?_) hs hf hr hQ hS h
  have hagg : (isAgg ty).run P w = .ok false w := by
    unfold isAgg
    rw [Sem.run_bind, run_underlying hu w]
    rfl
  have e : (loadVar ty p).run P w = .ok v w := by simp [loadVar, Sem.run_bind, hagg, hh w hw']
  unfold execOp
  simp only [ho, hx, Instr.loadAt, Instr.sureAddr, Sem.run_bind, Sem.run_pure, Result.andThen_ok, e]
theorem readL {o : Oper} {rest : List Oper} {a : Act} {w : World} (v : Value) (hw : Region.wanted o (yielded ops a.tmps) = true) (hv : (execOp a.eval o).run P w = .ok (.value v) w)
    (h : wpList P ops Q rest (a.put o.dst v) w) : wpList P ops Q (o :: rest) a w := by
  unfold wpList
  rw [if_pos hw]
  refine .inl ?_
  unfold Oper.wp
  rw [hv]
  exact h
theorem storeL {o' : Oper} {rest : List Oper} {a : Act} {w : World} (k : IntKind) (v : Int) (b o : Nat) (ty : TypeId) (x y : Operand) (hw : Region.wanted o' (yielded ops a.tmps) = true) (ho : o'.op = .store ty x y) (hx : a.eval x = .pointer (some ⟨b, o, none⟩)) (hy : a.eval y = .int k v)
    (hc : (w.cell? ⟨b, o, none⟩).isSome = true) (hf : w.frozen? ⟨b, o, none⟩ = false) (hz : (P.info? ty).map (·.size) = some 1)
    (h : wpList P ops Q rest (a.put o'.dst undef) (w.setCell ⟨b, o, none⟩ (.int k v))) : wpList P ops Q (o' :: rest) a w := by
  unfold wpList
  rw [if_pos hw]
  refine .inl ?_
  have he : (execOp a.eval o').run P w = .ok .skip (w.setCell ⟨b, o, none⟩ (.int k v)) := by
    unfold execOp
    simp only [ho, hx, hy]
    have e := run_storeAt_cell (P := P) w b o ty k v hc hf hz
    simp only [Sem.run_bind, e, Result.andThen_ok, Sem.run_pure]
  unfold Oper.wp
  rw [he]
  exact h
end
theorem Has.src {w : World} {b n : Nat} {f : Nat → Int} (h : Has w b .u8 n f) (o len : Nat) (ho : o + len ≤ n) : Src w (some ⟨b, o, none⟩) len (fun j => f (o + j)) := fun j hj => ⟨_, rfl, by rw [Addr.add_mid]; exact h.cell (o + j) (by omega)⟩
theorem Has.src0 {w : World} {b n : Nat} {f : Nat → Int} (h : Has w b .u8 n f) : Src w (some ⟨b, 0, none⟩) n f := fun j hj => ⟨_, rfl, by rw [Addr.add_mid, Nat.zero_add]; exact h.cell j hj⟩
theorem Src.congr {w : World} {sp : Option Addr} {len : Nat} {z y : Nat → Int} (h : Src w sp len z) (e : ∀ j, j < len → z j = y j) : Src w sp len y := fun j hj => by
  obtain ⟨ad, h1, h2⟩ := h j hj
  exact ⟨ad, h1, by rw [← e j hj]; exact h2⟩
end Go.Proofs.YteclkiabkdaklaaDoor

namespace Go.Proofs.YteclkiabkdaklaaDoor
open Go.RowKit

theorem run_equalIn_row {P : Program} (w : World) (d : Nat) (t e : TypeId) (n : Nat) (k : IntKind) (ht : P.underlying t = some (.array n e)) (he : P.underlying e = some (.int k)) (hsz : ∀ w, (sizeOf e).run P w = .ok 1 w) (f : Nat → Int) :
    (Op.equalIn (d + 2) t (.agg (row k n f).toArray) (.agg (row k n f).toArray)).run P w = .ok true w := by
  rw [Op.equalIn]
  simp only [Sem.run_bind, run_underlying ht, Result.andThen_ok, hsz, Std.Legacy.Range.forIn_eq_forIn_range', Std.Legacy.Range.size, Nat.sub_zero, Nat.add_sub_cancel, Nat.div_one]
  have hl : ∀ i ∈ List.range' 0 n 1, i < n := fun i hi => by simpa using (List.mem_range'_1.1 hi).2
  generalize List.range' 0 n 1 = l at hl ⊢
  induction l with
  | nil => simp
  | cons i l ih =>
    have hi : i < n := hl i (by simp)
    have px : (part e (row k n f).toArray (i * 1)).run P w = .ok (.int k (f i)) w := by
      simp [part, isAgg, run_underlying he, row_get k n f i hi]
    have pe : (Op.equalIn (d + 1) e (.int k (f i)) (.int k (f i))).run P w = .ok true w := by
      rw [run_equalIn_int w d e k k _ _ he, beq_self_eq_true]
    simp only [List.forIn_cons, Sem.run_bind, px, pe, Result.andThen_ok, Bool.not_true, Bool.false_eq_true, if_false, Sem.run_pure]
    exact ih fun j hj => hl j (by simp [hj])
theorem eqlRow {P : Program} {o : Oper} {a : Act} (n : Nat) (k : IntKind) (f g : Nat → Int) (t e t' : TypeId) (x y : Operand) (ho : o.op = .binOp .eql t x y t') (hx : a.eval x = .agg (row k n f).toArray) (hy : a.eval y = .agg (row k n g).toArray)
    (ht : P.underlying t = some (.array n e)) (he : P.underlying e = some (.int k)) (hsz : ∀ w, (sizeOf e).run P w = .ok 1 w) (hm : P.eqGuardType P.depth t = false) (h : ∀ j, j < n → f j = g j) (w : World) :
    (execOp a.eval o).run P w = .ok (.value (.bool true)) w := by
  rw [← row_congr k n h] at hy
  have e1 : (binOp .eql t (.agg (row k n f).toArray) (.agg (row k n f).toArray)).run P w = .ok (.bool true) w := by
    rw [run_eql_struct, run_equalIn_row w 9998 t e n k ht he hsz f]
    rfl
  unfold execOp
  simp only [ho, hx, hy, Sem.run_bind, run_eqGuard_agg w .eql t x y _ _ hm, Result.andThen_ok, e1, Sem.run_pure]
theorem eqlB {P : Program} {o : Oper} {a : Act} (p q : Bool) (t t' : TypeId) (x y : Operand) (ho : o.op = .binOp .eql t x y t') (hx : a.eval x = .bool p) (hy : a.eval y = .bool q) (ht : P.underlying t = some .bool) (r : Bool) (hr : (p == q) = r) (w : World) :
    (execOp a.eval o).run P w = .ok (.value (.bool r)) w := by
  unfold execOp
  simp only [ho, hx, hy, Sem.run_bind, eqGuard_at_bool, run_eql_bool w t p q ht, Sem.run_pure, Result.andThen_ok, hr]
end Go.Proofs.YteclkiabkdaklaaDoor

namespace Go.Proofs.YteclkiabkdaklaaDoor
open Go.RowKit

/-- v is a slice of n numbers, made since block 'base'. -/
def Own (w : World) (base : Nat) (e : TypeId) (k : IntKind) (n : Nat) (f : Nat → Int) (v : Value) : Prop := w.ownsRow base e 1 v n (row k n f)

/-- One row behind another. -/
def app (f : Nat → Int) (n : Nat) (h : Nat → Int) : Nat → Int := fun j => if j < n then f j else h (j - n)
theorem row_app (k : IntKind) (n m : Nat) (f h : Nat → Int) : row k n f ++ row k m h = row k (n + m) (app f n h) := by
  unfold row
  rw [List.range_add, List.map_append, List.map_map]
  congr 1
  · refine List.map_congr_left fun j hj => ?_
    unfold app; rw [if_pos (List.mem_range.1 hj)]
  · refine List.map_congr_left fun j hj => ?_
    simp [app]
    omega
theorem Own.congr {w : World} {base : Nat} {e : TypeId} {k : IntKind} {n : Nat} {f g : Nat → Int} {v : Value} (h : Own w base e k n f v) (he : ∀ j, j < n → f j = g j) : Own w base e k n g v := by
  unfold Own at *
  rw [← row_congr k n he]; exact h
theorem grown_of_below {w w' : World} (l : Below w.heap.size w w') : w.grownBy w' none := ⟨l.os, l.tape, l.output, l.size, fun j hj _ => l.block j hj⟩
theorem Own.below {w w' : World} {base : Nat} {e : TypeId} {k : IntKind} {n : Nat} {f : Nat → Int} {v : Value} (h : Own w base e k n f v) (l : Below w.heap.size w w') : Own w' base e k n f v :=
  World.ownsRow.kept h (grown_of_below l) (by cases hv : v.ownBlock <;> simp)
theorem Own.grown {w w' : World} {base : Nat} {e : TypeId} {k : IntKind} {n : Nat} {f : Nat → Int} {v : Value} (h : Own w base e k n f v) {r : Option Nat} (l : w.grownBy w' r) (hr : ∀ g, r = some g → g < base) : Own w' base e k n f v := by
  refine World.ownsRow.kept h l ?_
  cases hv : v.ownBlock with
  | none => exact .inl rfl
  | some g =>
    refine .inr fun e => ?_
    have h1 := (World.ownsRow.lt h g hv).1
    have h2 := hr g e.symm
    omega
theorem Own.drew {w : World} {base : Nat} {e : TypeId} {k : IntKind} {n : Nat} {f : Nat → Int} {v : Value} (h : Own w base e k n f v) : Own w.drew base e k n f v := h.below (Below.refl _ _).drew
theorem Own.alloc {w : World} {base : Nat} {e : TypeId} {k : IntKind} {n : Nat} {f : Nat → Int} {v : Value} (h : Own w base e k n f v) (o : Obj) : Own (w.alloc o) base e k n f v := World.ownsRow.alloc h o
theorem Own.lit (w : World) (base : Nat) (e : TypeId) (k : IntKind) (n : Nat) (f : Nat → Int) (hb : base ≤ w.heap.size) (hn : n ≤ maxLen) : Own (w.alloc (.cells (row k n f).toArray e)) base e k n f (.slice (some ⟨w.heap.size, 0, none⟩) n n) :=
  ⟨by rw [row_length, Nat.mul_one], .inr ⟨w.heap.size, n, _, rfl, hb, heap_alloc_new w _, Nat.le_refl _, hn, by rw [List.size_toArray, row_length, Nat.mul_one], by rw [Nat.mul_one]; exact List.take_of_length_le (by rw [row_length]; exact Nat.le_refl _)⟩⟩
/-- What such a slice is. -/
theorem Own.has {w : World} {base : Nat} {e : TypeId} {k : IntKind} {n : Nat} {f : Nat → Int} {v : Value} (h : Own w base e k n f v) (hn : 0 < n) : ∃ g cap, v = .slice (some ⟨g, 0, none⟩) n cap ∧ base ≤ g ∧ g < w.heap.size ∧ Has w g k n f := by
  have hc := h
  rcases h.2 with ⟨rfl, h0⟩ | ⟨g, cap, cur, rfl, hb, hg, _⟩
  · omega
  · refine ⟨g, cap, rfl, hb, (Array.getElem?_eq_some_iff.1 hg).1, fun j hj => ?_, fun j _ => ?_⟩
    · have := World.ownsRow.cells hc (g := g) rfl j _ (row_get k n f j hj)
      rw [Addr.add_mid, Nat.zero_add] at this
      exact this
    · unfold World.frozen?
      rw [hg]
      simp
theorem Own.isSlice {w : World} {base : Nat} {e : TypeId} {k : IntKind} {n : Nat} {f : Nat → Int} {v : Value} (h : Own w base e k n f v) : ∃ sp cap, v = .slice sp n cap ∧ (sp = none → n = 0) ∧ ∀ j, j < n → ∃ ad, sp = some ad ∧ w.cell? (ad.add j) = some (.int k (f j)) := by
  rcases Nat.eq_zero_or_pos n with h0 | h0
  · subst h0
    rcases h.2 with ⟨rfl, _⟩ | ⟨g, cap, cur, rfl, _⟩
    · exact ⟨_, _, rfl, fun _ => rfl, fun j hj => by omega⟩
    · exact ⟨_, _, rfl, fun _ => rfl, fun j hj => by omega⟩
  · obtain ⟨g, cap, rfl, _, _, hh⟩ := h.has h0
    exact ⟨_, _, rfl, fun e => (by cases e), fun j hj => ⟨_, rfl, by rw [Addr.add_mid, Nat.zero_add]; exact hh.cell j hj⟩⟩
theorem Own.bytes {w : World} {base : Nat} {e : TypeId} {n : Nat} {f : Nat → Int} {v : Value} (h : Own w base e .u8 n f v) : ∃ sp cap, v = .slice sp n cap ∧ n ≤ cap ∧ Src w sp n f := by
  obtain ⟨sp, cap, rfl, _, hs⟩ := h.isSlice
  refine ⟨sp, cap, rfl, ?_, hs⟩
  rcases h.2 with ⟨hv, h0⟩ | ⟨g, cap', cur, hv, _, _, hnc, _⟩
  · omega
  · injection hv with _ _ hc
    omega
theorem Kr.grown {w w' w'' : World} {m : Nat} {l : List (Nat × IntKind × Nat × (Nat → Int))} {R : List (Nat × Nat)} (h : Kr w m l R w') {r : Option Nat} (g : w'.grownBy w'' r) (hr : ∀ b, r = some b → m ≤ b) : Kr w m l R w'' := by
  have hb : Below m w' w'' := ⟨g.os, g.tape, g.output, g.size, fun j hj => g.block j (Nat.lt_of_lt_of_le hj h.size) (fun e => by have := hr j e.symm; omega)⟩
  exact ⟨fun p hp => ⟨(h.rows p hp).1.below hb (h.rows p hp).2, (h.rows p hp).2⟩, fun q hq => ⟨there_below (h.room q hq).1 hb (h.room q hq).2.1, (h.room q hq).2⟩, h.apart, Nat.le_trans h.size g.size, h.base, h.below.trans (hb.mono h.base)⟩
theorem Kr.grown' {w w' w'' : World} {m : Nat} {l : List (Nat × IntKind × Nat × (Nat → Int))} {R : List (Nat × Nat)} (h : Kr w m l R w') {r : Option Nat} (g : w'.grownBy w'' r) (hl : ∀ p ∈ l, r ≠ some p.1) (hR : ∀ q ∈ R, r ≠ some q.1) (hr : ∀ b, r = some b → w.heap.size ≤ b) : Kr w m l R w'' := by
  have hc : ∀ b o, b < m → r ≠ some b → w''.cell? ⟨b, o, none⟩ = w'.cell? ⟨b, o, none⟩ ∧ w''.frozen? ⟨b, o, none⟩ = w'.frozen? ⟨b, o, none⟩ := fun b o hb hne => by
    have e := g.block b (Nat.lt_of_lt_of_le hb h.size) (fun e => hne e.symm)
    exact ⟨World.cell?_of_block (a := ⟨b, o, none⟩) e, World.frozen?_of_block (a := ⟨b, o, none⟩) e⟩
  have hb : Below w.heap.size w' w'' := ⟨g.os, g.tape, g.output, g.size, fun j hj => g.block j (Nat.lt_of_lt_of_le hj (Nat.le_trans h.base h.size)) (fun e => by have := hr j e.symm; omega)⟩
  refine ⟨fun p hp => ⟨⟨fun j hj => ?_, fun j hj => ?_⟩, (h.rows p hp).2⟩, fun q hq => ⟨fun j hj => ?_, (h.room q hq).2⟩, h.apart, Nat.le_trans h.size g.size, h.base, h.below.trans hb⟩
  · rw [(hc p.1 j (h.rows p hp).2 (hl p hp)).1]; exact (h.rows p hp).1.cell j hj
  · rw [(hc p.1 j (h.rows p hp).2 (hl p hp)).2]; exact (h.rows p hp).1.free j hj
  · rw [(hc q.1 (0 + j) (h.room q hq).2.1 (hR q hq)).1, (hc q.1 (0 + j) (h.room q hq).2.1 (hR q hq)).2]; exact (h.room q hq).1 j hj
/-- A slice of one's own, among the rows. -/
theorem Kr.own {w w' : World} {m : Nat} {l : List (Nat × IntKind × Nat × (Nat → Int))} {R : List (Nat × Nat)} (h : Kr w m l R w') {g : Nat} {k : IntKind} {n : Nat} {f : Nat → Int} (hg : m ≤ g) (hl : g < w'.heap.size) (hf : Has w' g k n f) : Kr w w'.heap.size ((g, k, n, f) :: l) R w' :=
  ⟨fun p hp => by
    rcases List.mem_cons.1 hp with rfl | hp
    · exact ⟨hf, hl⟩
    · exact ⟨(h.rows p hp).1, Nat.lt_of_lt_of_le (h.rows p hp).2 h.size⟩, fun q hq => ⟨(h.room q hq).1, Nat.lt_of_lt_of_le (h.room q hq).2.1 h.size, (h.room q hq).2.2⟩, fun p hp q hq => by
    rcases List.mem_cons.1 hp with rfl | hp
    · have := (h.room q hq).2.1; simp only; omega
    · exact h.apart p hp q hq, Nat.le_refl _, Nat.le_trans h.base h.size, h.below⟩

section
variable {P : Program}
/-- A type whose values are single numbers. -/
structure One (P : Program) (e : TypeId) (k : IntKind) (bytes : Nat) : Prop where
  info : (P.info? e).map (fun i => (i.zero, i.bytes, i.size)) = some (some (.int k 0), bytes, 1)
theorem run_append_Own {w : World} {base : Nat} {t ty e : TypeId} {k : IntKind} {bytes n : Nat} {f : Nat → Int} {v : Value} (ht : P.underlying t = some (.slice e)) (he : One P e k bytes) (h : Own w base e k n f v)
    (sp : Option Addr) (m c : Nat) (hv : Nat → Int) (hs : ∀ j, j < m → ∃ ad, sp = some ad ∧ w.cell? (ad.add j) = some (.int k (hv j))) (hz : sp = none → c = 0) (h63 : n + m ≤ maxLen) (hb : (n + m) * bytes ≤ 140737488355328) (hbase : base ≤ w.heap.size) :
    ∃ v' w', (Builtin.append_ #[t, t] ty #[v, .slice sp m c]).run P w = .ok v' w' ∧ Own w' base e k (n + m) (app f n hv) v' ∧ w.grownBy w' v.ownBlock ∧ (∀ g, v'.ownBlock = some g → v.ownBlock = some g ∨ g = w.heap.size) := by
  obtain ⟨i, hi, hq⟩ := Option.map_eq_some_iff.1 he.info
  simp only [Prod.mk.injEq] at hq
  obtain ⟨h1, h2, h3⟩ := hq
  cases sp with
  | none =>
    have hm : m = 0 := by
      rcases Nat.eq_zero_or_pos m with h0 | h0
      · exact h0
      · obtain ⟨ad, e, _⟩ := hs 0 h0; cases e
    subst hm
    obtain rfl := hz rfl
    refine ⟨v, w, run_append_owned_none (P := P) (w := w) base t ty e i 1 ht hi v n _ h, h.congr fun j hj => by unfold app; rw [if_pos hj], ⟨rfl, rfl, rfl, Nat.le_refl _, fun _ _ _ => rfl⟩, fun g hg => .inl hg⟩
  | some ad =>
    obtain ⟨v', w', hr, ho, hg, _⟩ := run_append_own (P := P) w base t ty e i (.int k 0) 1 bytes ht hi h1 h3 h2 rfl (by decide) v n _ h ad m c (row k m hv) (by rw [row_length, Nat.mul_one]) (fun j u hu => by
      obtain ⟨hj, rfl⟩ := row_get_some hu
      obtain ⟨ad', e', hc⟩ := hs j hj
      injection e' with e'
      subst e'
      exact hc) (row_one k m hv) h63 hb hbase
    rw [row_app] at ho
    refine ⟨v', w', hr, ho, hg, ?_⟩
    have hnews : ∀ j u, (row k m hv)[j]? = some u → w.cell? (ad.add j) = some u := fun j u hu => by
      obtain ⟨hj, rfl⟩ := row_get_some hu
      obtain ⟨ad', e', hc⟩ := hs j hj
      injection e' with e'
      subst e'
      exact hc
    have hml : (row k m hv).length = m * i.size := by rw [row_length, h3, Nat.mul_one]
    rcases h.2 with ⟨rfl, rfl⟩ | ⟨g, cap, cur, rfl, hbg, hgg, hnc, hcm, hcs, htake⟩
    · by_cases hm : m = 0
      · subst hm
        have hr2 : (Builtin.append_ #[t, t] ty #[.slice none 0 0, .slice (some ad) 0 c]).run P w = .ok (.slice none 0 0) w := by
          simp [Builtin.append_, run_underlying ht, sizeOf, typeInfo, hi, Builtin.lenOf, Builtin.firstCells, loadCells, loadCellsFrom]
        rw [hr] at hr2
        injection hr2 with hv' _
        rw [hv']
        intro g hg'
        cases hg'
      · have hr2 := run_append_nil (P := P) w t ty e i (.int k 0) ht hi h1 ad m c (row k m hv) hml hnews (by omega) (by unfold maxLen at h63; omega) (by rw [h2]; have := hb; simp only [Nat.zero_add] at this; omega)
        rw [hr] at hr2
        injection hr2 with hv' _
        rw [hv']
        intro g hg'
        injection hg' with hg'
        exact .inr hg'.symm
    · by_cases hroom : n + m ≤ cap
      · have hr2 := run_append_room (P := P) w t ty e i ht hi g n cap cur hgg ad m c (row k m hv) hml hnews (row_one k m hv) hroom (by rw [hml, hcs, h3]; omega)
        rw [hr] at hr2
        injection hr2 with hv' _
        rw [hv']
        intro g' hg'
        exact .inl hg'
      · have hr2 := run_append_grow (P := P) w t ty e i (.int k 0) ht hi h1 ⟨g, 0, none⟩ n cap (row k n f) (by rw [row_length, h3, Nat.mul_one]) (World.ownsRow.cells h (g := g) rfl) ad m c (row k m hv) hml hnews (by omega) (by unfold maxLen at h63; omega) (by rw [h2]; exact growslice_fits (by omega) hb)
        rw [hr] at hr2
        injection hr2 with hv' _
        rw [hv']
        intro g' hg'
        injection hg' with hg'
        exact .inr hg'.symm
theorem appendOp {o : Oper} {a : Act} {w w' : World} (s x : Operand) (t : TypeId) (v u r : Value) (ho : o.op = .call { callee := .builtin .append, args := #[s, x], argTypes := #[t, t] }) (hs : a.eval s = v) (hx : a.eval x = u) (hr : (Builtin.append_ #[t, t] o.type #[v, u]).run P w = .ok r w') :
    (execOp a.eval o).run P w = .ok (.value r) w' := by
  unfold execOp
  simp only [ho, resolve, invoke, builtin, Sem.run_bind, Sem.run_pure, Result.andThen_ok, List.map_toArray, List.map_cons, List.map_nil, hs, hx, hr]
end
end Go.Proofs.YteclkiabkdaklaaDoor

namespace Go.Proofs.YteclkiabkdaklaaDoor
open Go.RowKit

theorem Src.none {w : World} {sp : Option Addr} {len : Nat} {z : Nat → Int} (h : Src w sp len z) : sp = none → len = 0 := fun e => by
  rcases Nat.eq_zero_or_pos len with h0 | h0
  · exact h0
  · obtain ⟨ad, he, _⟩ := h 0 h0
    rw [e] at he
    cases he

section
variable {P : Program} {o : Oper} {a : Act}
theorem negI (k : IntKind) (n r : Int) (t : TypeId) (x : Operand) (ho : o.op = .unOp .neg t x) (hx : a.eval x = .int k n) (hr : k.wrap (0 - n) = r) (w : World) : (execOp a.eval o).run P w = .ok (.value (.int k r)) w := by
  unfold execOp
  simp only [ho, hx, Op.unary, Op.intArith, Sem.run_bind, Sem.run_pure, Result.andThen_ok, hr]
/-- The first bytes of a slice, and what stands behind them. -/
theorem cut_hi {t : TypeId} (ht : P.underlying t = some (.slice (P.elem t))) (hsz : ∀ w, (sizeOf (P.elem t)).run P w = .ok 1 w) (sp : Option Addr) (len cap m : Nat) (hm : m ≤ len) (hc : len ≤ cap) :
    ∃ sp', (∀ w, (Instr.sliceAt t (.slice sp len cap) none (some (.int .i64 (m : Int))) none).run P w = .ok (.slice sp' m cap) w) ∧ ∀ w z, Src w sp len z → Src w sp' m z := by
  refine ⟨if cap = 0 then sp else sp.map (·.add (0 * 1)), fun w => ?_, fun w z h j hj => ?_⟩
  · rw [run_sliceAt_slice w t _ _ _ _ ht, run_slice_h w t sp len cap ht .i64 (m : Int) (by omega) (by omega), hsz]
    simp only [Result.andThen, sliced, Int.toNat_natCast, Nat.sub_zero]
  · obtain ⟨ad, rfl, hc'⟩ := h j (by omega)
    rw [if_neg (by omega)]
    exact ⟨ad.add (0 * 1), rfl, by rw [Nat.zero_mul, Addr.add_add, Nat.zero_add]; exact hc'⟩
theorem cut_lo {t : TypeId} (ht : P.underlying t = some (.slice (P.elem t))) (hsz : ∀ w, (sizeOf (P.elem t)).run P w = .ok 1 w) (sp : Option Addr) (len cap m : Nat) (hm : m ≤ len) (hc : len ≤ cap) :
    ∃ sp', (∀ w, (Instr.sliceAt t (.slice sp len cap) (some (.int .i64 (m : Int))) none none).run P w = .ok (.slice sp' (len - m) (cap - m)) w) ∧ ∀ w z, Src w sp len z → Src w sp' (len - m) (fun j => z (m + j)) := by
  refine ⟨if cap = m then sp else sp.map (·.add (m * 1)), fun w => ?_, fun w z h j hj => ?_⟩
  · rw [run_sliceAt_slice w t _ _ _ _ ht, run_slice_l w t sp len cap ht .i64 (m : Int) (by omega) (by omega), hsz]
    simp only [Result.andThen, sliced, Int.toNat_natCast]
  · obtain ⟨ad, rfl, hc'⟩ := h (m + j) (by omega)
    rw [if_neg (by omega)]
    exact ⟨ad.add (m * 1), rfl, by rw [Nat.mul_one, Addr.add_add]; exact hc'⟩
theorem cut_lh {t : TypeId} (ht : P.underlying t = some (.slice (P.elem t))) (hsz : ∀ w, (sizeOf (P.elem t)).run P w = .ok 1 w) (sp : Option Addr) (len cap l h : Nat) (hl : l ≤ h) (hh : h ≤ len) (hc : len ≤ cap) :
    ∃ sp', (∀ w, (Instr.sliceAt t (.slice sp len cap) (some (.int .i64 (l : Int))) (some (.int .i64 (h : Int))) none).run P w = .ok (.slice sp' (h - l) (cap - l)) w) ∧ ∀ w z, Src w sp len z → Src w sp' (h - l) (fun j => z (l + j)) := by
  refine ⟨if cap = l then sp else sp.map (·.add (l * 1)), fun w => ?_, fun w z hs j hj => ?_⟩
  · rw [run_sliceAt_slice w t _ _ _ _ ht, run_slice_lh w t sp len cap ht .i64 .i64 (l : Int) (h : Int) (by omega) (by omega) (by omega), hsz]
    simp only [Result.andThen, sliced, Int.toNat_natCast]
  · obtain ⟨ad, rfl, hc'⟩ := hs (l + j) (by omega)
    rw [if_neg (by omega)]
    exact ⟨ad.add (l * 1), rfl, by rw [Nat.mul_one, Addr.add_add]; exact hc'⟩
theorem cutLHop {w : World} (t : TypeId) (x y z : Operand) (p q r v : Value) (ho : o.op = .slice t x (some y) (some z) none) (hx : a.eval x = p) (hy : a.eval y = q) (hz : a.eval z = r) (hr : (Instr.sliceAt t p (some q) (some r) none).run P w = .ok v w) :
    (execOp a.eval o).run P w = .ok (.value v) w := by
  unfold execOp
  simp only [ho, hx, hy, hz, Option.map_some, Option.map_none, Sem.run_bind, hr, Result.andThen_ok, Sem.run_pure]
end
end Go.Proofs.YteclkiabkdaklaaDoor

namespace Go.Proofs.YteclkiabkdaklaaDoor
open Go.RowKit

theorem made8 (n : Nat) (hn : n ≤ 281474976710656) (w : World) : (Instr.makeSlice 26 (.int .i64 (n : Int)) (.int .i64 (n : Int))).run Tryd.prog w = .ok (.slice (some ⟨w.heap.size, 0, none⟩) n n) (w.alloc (.cells (row .u8 n (fun _ => 0)).toArray 5)) := by
  have h0 : (Tryd.prog.info? 5).map (fun i => (i.zero, i.bytes, i.size)) = some (some (.int .u8 0), 1, 1) := by kernel_rfl
  obtain ⟨i, hi, he⟩ := Option.map_eq_some_iff.1 h0
  simp only [Prod.mk.injEq] at he
  obtain ⟨h1, h2, h3⟩ := he
  rw [run_make w 26 5 i _ Tryd.underlying26 hi h1 .i64 .i64 n n (by omega) (by omega) (by rw [h2]; omega) (by omega), h3]
  simp only [Int.toNat_natCast, Nat.mul_one]
  have e : madeCells (Value.int .u8 0).cells n = (row .u8 n (fun _ => 0)).toArray := by
    refine Array.toList_inj.1 ?_
    unfold madeCells row
    simp [Value.cells, Nat.mod_one]
  rw [e]
theorem makeOp {P : Program} {o : Oper} {a : Act} {w w' : World} (t : TypeId) (x y : Operand) (p q v : Value) (ho : o.op = .makeSlice t x y) (hx : a.eval x = p) (hy : a.eval y = q) (hr : (Instr.makeSlice t p q).run P w = .ok v w') :
    (execOp a.eval o).run P w = .ok (.value v) w' := by
  unfold execOp
  simp only [ho, hx, hy, Sem.run_bind, hr, Result.andThen_ok, Sem.run_pure]
theorem one8 : One Tryd.prog 5 .u8 1 := ⟨by kernel_rfl⟩
theorem idxO (b len cap i : Nat) (hi : i < len) (w : World) {o : Oper} {a : Act} (x y : Operand) (ho : o.op = .indexAddr 26 x y) (hx : a.eval x = .slice (some ⟨b, 0, none⟩) len cap) (hy : a.eval y = .int .i64 (i : Int)) :
    (execOp a.eval o).run Tryd.prog w = .ok (.value (.pointer (some ⟨b, i, none⟩))) w := by
  have h := idxSl (P := Tryd.prog) 26 5 len cap .i64 ⟨b, 0, none⟩ i x y Tryd.underlying26 (fun _ => by kernel_rfl) hi ho hx hy w
  rw [Addr.add_mid, Nat.zero_add] at h
  exact h
end Go.Proofs.YteclkiabkdaklaaDoor

namespace Go.Proofs.YteclkiabkdaklaaDoor
open Go.RowKit

theorem Below.grown {B : Nat} {w w1 w2 : World} (l : Below B w w1) {r : Option Nat} (g : w1.grownBy w2 r) (hB : B ≤ w1.heap.size) (hr : ∀ b, r = some b → B ≤ b) : Below B w w2 :=
  ⟨g.os.trans l.os, g.tape.trans l.tape, g.output.trans l.output, Nat.le_trans l.size g.size, fun j hj => (g.block j (Nat.lt_of_lt_of_le hj hB) (fun e => by have := hr j e.symm; omega)).trans (l.block j hj)⟩
theorem Has.grown {w w' : World} {b : Nat} {k : IntKind} {n : Nat} {f : Nat → Int} (h : Has w b k n f) {r : Option Nat} (g : w.grownBy w' r) (hb : b < w.heap.size) (hne : some b ≠ r) : Has w' b k n f :=
  ⟨fun j hj => by rw [World.cell?_of_block (a := ⟨b, j, none⟩) (g.block b hb hne)]; exact h.cell j hj, fun j hj => by rw [World.frozen?_of_block (a := ⟨b, j, none⟩) (g.block b hb hne)]; exact h.free j hj⟩
/-- A byte more. -/
theorem Own.more8 {w' : World} {base m : Nat} {f : Nat → Int} {s : Value} (h : Own w' base 5 .u8 m f s) (hm : m < 140737488355328) (x : Int) (hx : f m = x) (ty : TypeId) (hb : base ≤ w'.heap.size) :
    ∃ v w'', (Builtin.append_ #[26, 26] ty #[s, .slice (some ⟨w'.heap.size, 0, none⟩) 1 1]).run Tryd.prog (w'.alloc (.cells #[.int .u8 x] 5)) = .ok v w'' ∧ Own w'' base 5 .u8 (m + 1) f v ∧ (w'.alloc (.cells #[.int .u8 x] 5)).grownBy w'' s.ownBlock := by
  have H1 := Has.new w' .u8 1 (fun _ => x) 5 w'.heap.size rfl
  obtain ⟨v, w'', hr, ho, hg, _⟩ := run_append_Own (P := Tryd.prog) (ty := ty) Tryd.underlying26 one8 (h.alloc (.cells (row .u8 1 (fun _ => x)).toArray 5)) (some ⟨w'.heap.size, 0, none⟩) 1 1 (fun _ => x) (fun j hj => ⟨_, rfl, by rw [Addr.add_mid, Nat.zero_add]; exact H1.cell j hj⟩) (fun e => by cases e) (by unfold maxLen; omega) (by omega) (by simp; omega)
  refine ⟨v, w'', hr, ho.congr fun j hj => ?_, hg⟩
  unfold app
  by_cases e : j < m
  · rw [if_pos e]
  · rw [if_neg e, ← hx, show j = m by omega]
def slen : Value → Nat
  | .slice _ n _ => n
  | _ => 0
theorem Own.nilCap {w : World} {base : Nat} {e : TypeId} {k : IntKind} {n : Nat} {f : Nat → Int} {sp : Option Addr} {c : Nat} (h : Own w base e k n f (.slice sp n c)) : sp = none → c = 0 := fun e => by
  rcases h.2 with ⟨hv, _⟩ | ⟨g, cap, cur, hv, _⟩
  · injection hv
  · injection hv with hv _ _
    rw [e] at hv
    cases hv
theorem Own.lower {w : World} {base base' : Nat} {e : TypeId} {k : IntKind} {n : Nat} {f : Nat → Int} {v : Value} (h : Own w base e k n f v) (hb : base' ≤ base) : Own w base' e k n f v := by
  refine ⟨h.1, ?_⟩
  rcases h.2 with h2 | ⟨g, cap, cur, h1, h2, h3⟩
  · exact .inl h2
  · exact .inr ⟨g, cap, cur, h1, Nat.le_trans hb h2, h3⟩
theorem Own.le {w : World} {base : Nat} {e : TypeId} {k : IntKind} {n : Nat} {f : Nat → Int} {sp : Option Addr} {c : Nat} (h : Own w base e k n f (.slice sp n c)) : n ≤ c := by
  rcases h.2 with ⟨hv, h0⟩ | ⟨g, cap, cur, hv, _, _, hc, _⟩
  · omega
  · injection hv with _ _ hc2
    omega
end Go.Proofs.YteclkiabkdaklaaDoor

namespace Go.Proofs.YteclkiabkdaklaaDoor
open Go.RowKit

def padz (len : Nat) (z : Nat → Int) : Nat → Int := fun j => if j < len then z j else 0
theorem padz_in (len : Nat) (z : Nat → Int) (hz : In 256 len z) (n : Nat) : In 256 n (padz len z) := fun j _ => by
  unfold padz
  split
  · exact hz j (by assumption)
  · omega
end Go.Proofs.YteclkiabkdaklaaDoor

namespace Go.Proofs.YteclkiabkdaklaaDoor
open Go.RowKit

theorem one32 : One Tryd.prog 39 .u32 4 := ⟨by kernel_rfl⟩
theorem idxW (b len cap i : Nat) (hi : i < len) (w : World) {o : Oper} {a : Act} (x y : Operand) (ho : o.op = .indexAddr 52 x y) (hx : a.eval x = .slice (some ⟨b, 0, none⟩) len cap) (hy : a.eval y = .int .i64 (i : Int)) :
    (execOp a.eval o).run Tryd.prog w = .ok (.value (.pointer (some ⟨b, i, none⟩))) w := by
  have h := idxSl (P := Tryd.prog) 52 39 len cap .i64 ⟨b, 0, none⟩ i x y Tryd.underlying52 (fun _ => by kernel_rfl) hi ho hx hy w
  rw [Addr.add_mid, Nat.zero_add] at h
  exact h
end Go.Proofs.YteclkiabkdaklaaDoor

namespace Go.Proofs.YteclkiabkdaklaaDoor
open Go.RowKit

theorem zeros_row (k : IntKind) (m : Nat) : Builtin.zeroCells (Value.int k 0).cells m = (row k m (fun _ => 0)).toArray := by
  refine Array.toList_inj.1 ?_
  unfold Builtin.zeroCells row
  simp [Value.cells, Nat.mod_one]

section
variable {P : Program}
theorem run_append_zeros {w : World} {base : Nat} {t u ty e : TypeId} {k : IntKind} {bytes n : Nat} {f : Nat → Int} {v : Value} (ht : P.underlying t = some (.slice e)) (hu : P.underlying u = some (.int .i64)) (he : One P e k bytes) (h : Own w base e k n f v)
    (m : Nat) (hm0 : m < 9223372036854775808) (h63 : n + m ≤ maxLen) (hb : (n + m) * bytes ≤ 140737488355328) (hbase : base ≤ w.heap.size) :
    ∃ v' w', (Builtin.append_ #[t, u] ty #[v, .int .i64 (m : Int)]).run P w = .ok v' w' ∧ Own w' base e k (n + m) (app f n (fun _ => 0)) v' ∧ w.grownBy w' v.ownBlock ∧ (∀ g, v'.ownBlock = some g → v.ownBlock = some g ∨ g = w.heap.size) := by
  obtain ⟨i, hi, hq⟩ := Option.map_eq_some_iff.1 he.info
  simp only [Prod.mk.injEq] at hq
  obtain ⟨h1, h2, h3⟩ := hq
  have hw : IntKind.i64.wrap (m : Int) = (m : Int) := by rw [IntKind.wrap_i64]; omega
  have hasI : ∀ w, (asInt (.int .i64 (m : Int))).run P w = .ok (m : Int) w := fun w => by simp [asInt, asIntOf]
  have hneg : ¬ ((m : Int) < 0) := by omega
  have hbm : m * bytes ≤ 140737488355328 := Nat.le_trans (Nat.mul_le_mul_right _ (Nat.le_add_left _ _)) hb
  have h48 : ¬ (281474976710656 < (m : Int) * (bytes : Int)) := by
    have : ((m * bytes : Nat) : Int) ≤ 140737488355328 := by omega
    rw [Int.natCast_mul] at this
    omega
  have hsmall : n + m ≤ 9223372036854775807 := by simp only [maxLen] at h63; omega
  have h63' : ¬ (9223372036854775807 < ((n : Int) + (m : Int))) := by omega
  have hzc : Builtin.zeroCells (Value.int k 0).cells m = (row k m (fun _ => 0)).toArray := zeros_row k m
  have hlen : (row k n f ++ row k m (fun _ => 0)).length = (n + m) * 1 := by rw [List.length_append, row_length, row_length, Nat.mul_one]
  have hval : row k n f ++ row k m (fun _ => 0) = row k (n + m) (app f n (fun _ => 0)) := row_app k n m f _
  have grown : ∀ (old : Nat), old < n + m → ∀ (rw_ : Option Nat),
      Own (w.drew.alloc (.cells ((row k n f).toArray ++ (row k m (fun _ => 0)).toArray ++ Builtin.zeroCells (Value.int k 0).cells (grownCap w (n + m) old e - (n + m))) e)) base e k (n + m) (app f n (fun _ => 0))
        (.slice (some ⟨w.heap.size, 0, none⟩) (n + m) (grownCap w (n + m) old e)) ∧
      w.grownBy (w.drew.alloc (.cells ((row k n f).toArray ++ (row k m (fun _ => 0)).toArray ++ Builtin.zeroCells (Value.int k 0).cells (grownCap w (n + m) old e - (n + m))) e)) rw_ := by
    intro old ho rw_
    have hge := grownCap_ge w (n + m) old e
    have hcm : grownCap w (n + m) old e ≤ maxLen := grownCap_le_maxLen w (n + m) old e h63
    have hz1 : (Value.int k 0).cells.size = 1 := rfl
    unfold Own
    rw [← hval]
    refine ⟨⟨hlen, .inr ⟨w.heap.size, _, _, rfl, hbase, heap_alloc_new w.drew _, hge, hcm, ?_, ?_⟩⟩, ⟨rfl, rfl, rfl, by simp, fun q hq _ => heap_alloc_old w.drew _ hq⟩⟩
    · simp only [Array.size_append, List.size_toArray, size_zeroCells, hz1, row_length]
      omega
    · simp only [Array.toList_append, List.append_assoc]
      rw [← List.append_assoc, ← hlen]
      exact List.take_left
  rcases h.2 with ⟨rfl, rfl⟩ | ⟨g, cap, cur, rfl, hbg, hg, hnc, hcm, hcs, htake⟩
  · by_cases hm : m = 0
    · subst hm
      refine ⟨.slice none 0 0, w, ?_, h.congr (fun j hj => by omega), ⟨rfl, rfl, rfl, Nat.le_refl _, fun _ _ _ => rfl⟩, fun g hg => .inl hg⟩
      have hasI' : ∀ w, (asInt (.int .i64 0)).run P w = .ok 0 w := hasI
      simp [Builtin.append_, run_underlying ht, run_underlying hu, sizeOf, typeInfo, zeroValue, hi, h1, h2, hasI', IntKind.wrap_i64]
    · have h48' : ¬ (281474976710656 < Builtin.nextslicecap m 0 * bytes) := by rw [nextslicecap_zero (by omega)]; omega
      have hgr := grown 0 (by omega) (Value.ownBlock (.slice none 0 0))
      refine ⟨_, _, ?_, hgr.1, hgr.2, fun g hg => ?_⟩
      · simp only [Nat.zero_add] at h63' ⊢
        simp [Builtin.append_, run_underlying ht, run_underlying hu, sizeOf, typeInfo, zeroValue, hi, h1, h2, h3, hasI, hw, hneg, h48, hm, hzc, h48', Question.forced, run_firstCells_none, newRow, grownCap, row]
        intro hh
        omega
      · injection hg with hg
        exact .inr hg.symm
  · by_cases hroom : n + m ≤ cap
    · have hst := run_storeCells_at P g n e (row k m (fun _ => 0)) 0 cur w hg (by rw [row_length, hcs]; omega) (row_one k m _)
      simp only [Nat.add_zero, row_length] at hst
      rw [Nat.mul_one] at htake hcs
      refine ⟨.slice (some ⟨g, 0, none⟩) (n + m) cap, w.setRow g (cur.toList.take n ++ row k m (fun _ => 0) ++ cur.toList.drop (n + m)).toArray, ?_, ?_, ?_, fun g' hg' => .inl hg'⟩
      · by_cases hm : m = 0
        · subst hm
          have hasI' : ∀ w, (asInt (.int .i64 0)).run P w = .ok 0 w := hasI
          have hst' : (storeCells { block := g, off := n, spot := none } []).run P w = _ := hst
          simp [Builtin.append_, run_underlying ht, run_underlying hu, sizeOf, typeInfo, zeroValue, hi, h1, h2, h3, hasI', IntKind.wrap_i64, hnc, Addr.add_lit, hst']
        · simp [Builtin.append_, run_underlying ht, run_underlying hu, sizeOf, typeInfo, zeroValue, hi, h1, h2, h3, hasI, hw, hneg, h48, hroom, hm, hzc, Addr.add_lit, hst]
      · unfold Own
        rw [← hval]
        refine ⟨hlen, .inr ⟨g, cap, _, rfl, hbg, setRow_heap w g cur _ e _ hg, hroom, hcm, ?_, ?_⟩⟩
        · simp only [List.size_toArray, List.length_append, List.length_take, List.length_drop, Array.length_toList, row_length]
          omega
        · rw [htake, ← hlen]
          exact List.take_left
      · exact ⟨rfl, rfl, rfl, by simp, fun k _ hk => setRow_other w g k _ (fun e => hk (by simp [Value.ownBlock, e]))⟩
    · have hm : m ≠ 0 := by omega
      have h48' : ¬ (281474976710656 < Builtin.nextslicecap (n + m) cap * bytes) := by have := growslice_fits (need := n + m) (old := cap) (by omega) hb; omega
      have hfo := run_firstCells_some (P := P) w.drew 1 n ⟨g, 0, none⟩ n cap (row k n f) (by rw [row_length, Nat.mul_one]) (by simpa using World.ownsRow.cells h (g := g) rfl)
      have hgr := grown cap (by omega) (Value.ownBlock (.slice (some ⟨g, 0, none⟩) n cap))
      refine ⟨_, _, ?_, hgr.1, hgr.2, fun g hg => ?_⟩
      · simp [Builtin.append_, run_underlying ht, run_underlying hu, sizeOf, typeInfo, zeroValue, hi, h1, h2, h3, hasI, hw, hneg, h48, hroom, hm, hzc, h63', h48', Question.forced, hfo, newRow, grownCap]
        congr 2
        apply Array.ext'
        simp [List.append_assoc]
      · injection hg with hg
        exact .inr hg.symm
end
end Go.Proofs.YteclkiabkdaklaaDoor

namespace Go.Proofs.YteclkiabkdaklaaDoor
open Go.RowKit

def vcap : Value → Nat
  | .slice _ _ c => c
  | _ => 0

section
variable {P : Program}
theorem run_append_Room {w : World} {base : Nat} {t ty e : TypeId} {k : IntKind} {bytes n : Nat} {f : Nat → Int} {v : Value} (ht : P.underlying t = some (.slice e)) (he : One P e k bytes) (h : Own w base e k n f v)
    (sp : Option Addr) (m c : Nat) (hv : Nat → Int) (hs : ∀ j, j < m → ∃ ad, sp = some ad ∧ w.cell? (ad.add j) = some (.int k (hv j))) (hz : sp = none → c = 0) (hroom : n + m ≤ vcap v) :
    ∃ v' w', (Builtin.append_ #[t, t] ty #[v, .slice sp m c]).run P w = .ok v' w' ∧ Own w' base e k (n + m) (app f n hv) v' ∧ w.grownBy w' v.ownBlock ∧ vcap v' = vcap v ∧ v'.ownBlock = v.ownBlock := by
  obtain ⟨i, hi, hq⟩ := Option.map_eq_some_iff.1 he.info
  simp only [Prod.mk.injEq] at hq
  obtain ⟨_, _, h3⟩ := hq
  cases sp with
  | none =>
    have hm : m = 0 := by
      rcases Nat.eq_zero_or_pos m with h0 | h0
      · exact h0
      · obtain ⟨ad, e, _⟩ := hs 0 h0; cases e
    subst hm
    obtain rfl := hz rfl
    exact ⟨v, w, run_append_owned_none (P := P) (w := w) base t ty e i 1 ht hi v n _ h, h.congr fun j hj => by unfold app; rw [if_pos hj], ⟨rfl, rfl, rfl, Nat.le_refl _, fun _ _ _ => rfl⟩, rfl, rfl⟩
  | some ad =>
    have hnews : ∀ j u, (row k m hv)[j]? = some u → w.cell? (ad.add j) = some u := fun j u hu => by
      obtain ⟨hj, rfl⟩ := row_get_some hu
      obtain ⟨ad', e', hc⟩ := hs j hj
      injection e' with e'
      subst e'
      exact hc
    have hml : (row k m hv).length = m * i.size := by rw [row_length, h3, Nat.mul_one]
    have hlen : (row k n f ++ row k m hv).length = (n + m) * 1 := by rw [List.length_append, row_length, row_length, Nat.mul_one]
    rcases h.2 with ⟨rfl, rfl⟩ | ⟨g, cap, cur, rfl, hbg, hgg, hnc, hcm, hcs, htake⟩
    · have hm : m = 0 := by simp only [vcap] at hroom; omega
      subst hm
      refine ⟨.slice none 0 0, w, ?_, h.congr fun j hj => absurd hj (Nat.not_lt_zero j), ⟨rfl, rfl, rfl, Nat.le_refl _, fun _ _ _ => rfl⟩, rfl, rfl⟩
      simp [Builtin.append_, run_underlying ht, sizeOf, typeInfo, hi, Builtin.lenOf, Builtin.firstCells, loadCells, loadCellsFrom]
    · have hroom' : n + m ≤ cap := hroom
      have hr2 := run_append_room (P := P) w t ty e i ht hi g n cap cur hgg ad m c (row k m hv) hml hnews (row_one k m hv) hroom' (by rw [hml, hcs, h3]; omega)
      refine ⟨_, _, hr2, ?_, ⟨rfl, rfl, rfl, by simp, fun q _ hq => setRow_other w g q _ (fun e => hq (by simp [Value.ownBlock, e]))⟩, rfl, rfl⟩
      unfold Own
      rw [← row_app]
      rw [Nat.mul_one] at htake hcs
      refine ⟨hlen, .inr ⟨g, cap, _, rfl, hbg, setRow_heap w g cur _ e _ hgg, hroom', hcm, ?_, ?_⟩⟩
      · simp only [List.size_toArray, List.length_append, List.length_take, List.length_drop, Array.length_toList, row_length, h3, Nat.mul_one]
        omega
      · simp only [h3, Nat.mul_one, htake]
        have e2 : n + m = (row k n f ++ row k m hv).length := by rw [hlen, Nat.mul_one]
        rw [e2]
        exact List.take_left
/-- Noughts behind a slice that is full, whoever's it is. -/
theorem run_append_full {w : World} {t u ty e : TypeId} (ht : P.underlying t = some (.slice e)) (hu : P.underlying u = some (.int .i64)) (he : One P e .u8 1) (sp : Option Addr) (len : Nat) (z : Nat → Int) (hs : Src w sp len z) (m : Nat) (hm : m ≤ 281474976710656) (hl : len + m + (len + m) / 4 + 192 ≤ 281474976710656) :
    ∃ sp' cap' w', (Builtin.append_ #[t, u] ty #[.slice sp len len, .int .i64 (m : Int)]).run P w = .ok (.slice sp' (len + m) cap') w' ∧ len + m ≤ cap' ∧ Src w' sp' (len + m) (padz len z) ∧ Below w.heap.size w w' ∧ (sp' = none → cap' = 0) := by
  obtain ⟨i, hi, hq⟩ := Option.map_eq_some_iff.1 he.info
  simp only [Prod.mk.injEq] at hq
  obtain ⟨h1, h2, h3⟩ := hq
  rcases Nat.eq_zero_or_pos m with h0 | h0
  · subst h0
    refine ⟨sp, len, w, ?_, Nat.le_refl _, hs.congr (fun j hj => by unfold padz; rw [if_pos hj]), Below.refl _ _, fun e => hs.none e⟩
    have hasI' : ∀ w, (asInt (.int .i64 0)).run P w = .ok 0 w := fun w => by simp [asInt, asIntOf]
    cases sp with
    | none => simp [Builtin.append_, run_underlying ht, run_underlying hu, sizeOf, typeInfo, hi, h2, hasI', IntKind.wrap_i64]
    | some ad => simp [Builtin.append_, run_underlying ht, run_underlying hu, sizeOf, typeInfo, hi, h2, hasI', IntKind.wrap_i64, storeCells]
  · have hold : (Builtin.firstCells i.size len (.slice sp len len)).run P w.drew = .ok (row .u8 len z).toArray w.drew := by
      cases sp with
      | none =>
        obtain rfl := hs.none rfl
        rfl
      | some ad =>
        rw [h3]
        exact run_firstCells_some (P := P) w.drew 1 len ad len len (row .u8 len z) (by rw [row_length, Nat.mul_one]) (fun j u hj => by
          obtain ⟨hjl, rfl⟩ := row_get_some hj
          obtain ⟨ad', he', hc⟩ := hs j hjl
          injection he' with he'
          subst he'
          exact hc)
    have hr := Lib.run_append_grow_zeros (P := P) w t u ty e i (.int .u8 0) .i64 .i64 ht hu hi h1 sp len len (row .u8 len z) hold m h0 (by rw [h3]; decide) (by omega) (by omega) (by rw [h2]; omega) (by rw [h2]; exact growslice_fits_wide (by omega) (by omega))
    have hge := grownCap_ge w (len + m) len e
    refine ⟨_, _, _, hr, hge, fun j hj => ⟨_, rfl, ?_⟩, (Below.refl _ _).drew.alloc (Nat.le_refl _) _, fun e => by cases e⟩
    rw [Addr.add_mid, Nat.zero_add]
    show (w.drew.alloc _).cell? ⟨w.drew.heap.size, j, none⟩ = _
    rw [World.cell?_alloc_at _ _ _ _ rfl, zeros_row]
    unfold padz
    by_cases ej : j < len
    · rw [if_pos ej]
      rw [Array.append_assoc, Array.getElem?_append_left (by rw [List.size_toArray, row_length]; exact ej)]
      simpa using row_get .u8 len z j ej
    · rw [if_neg ej]
      rw [Array.getElem?_append_left (by rw [Array.size_append, List.size_toArray, List.size_toArray, row_length, row_length]; exact hj), Array.getElem?_append_right (by rw [List.size_toArray, row_length]; omega), List.size_toArray, row_length]
      simpa using row_get .u8 m (fun _ => 0) (j - len) (by omega)
end
section
variable {P : Program} {o : Oper} {a : Act}
/-- A slice with no room behind it. -/
theorem cut_full {t : TypeId} (ht : P.underlying t = some (.slice (P.elem t))) (hsz : ∀ w, (sizeOf (P.elem t)).run P w = .ok 1 w) (sp : Option Addr) (len cap : Nat) (hc : len ≤ cap) :
    ∃ sp', (∀ w, (Instr.sliceAt t (.slice sp len cap) none (some (.int .i64 (len : Int))) (some (.int .i64 (len : Int)))).run P w = .ok (.slice sp' len len) w) ∧ ∀ w z, Src w sp len z → Src w sp' len z := by
  refine ⟨if len = 0 then sp else sp.map (·.add (0 * 1)), fun w => ?_, fun w z h j hj => ?_⟩
  · rw [run_sliceAt_slice w t _ _ _ _ ht, run_slice_hm w t sp len cap ht .i64 .i64 (len : Int) (len : Int) (by omega) (by omega) (by omega), hsz]
    simp only [Result.andThen, sliced, Int.toNat_natCast, Nat.sub_zero]
  · obtain ⟨ad, rfl, hc'⟩ := h j (by omega)
    rw [if_neg (by omega)]
    exact ⟨ad.add (0 * 1), rfl, by rw [Nat.zero_mul, Addr.add_add, Nat.zero_add]; exact hc'⟩
theorem cutHMop {w : World} (t : TypeId) (x y z : Operand) (p q r v : Value) (ho : o.op = .slice t x none (some y) (some z)) (hx : a.eval x = p) (hy : a.eval y = q) (hz : a.eval z = r) (hr : (Instr.sliceAt t p none (some q) (some r)).run P w = .ok v w) :
    (execOp a.eval o).run P w = .ok (.value v) w := by
  unfold execOp
  simp only [ho, hx, hy, hz, Option.map_some, Option.map_none, Sem.run_bind, hr, Result.andThen_ok, Sem.run_pure]
theorem appendNOp {w w' : World} (s x : Operand) (t u : TypeId) (v n r : Value) (ho : o.op = .call { callee := .builtin .append, args := #[s, x], argTypes := #[t, u] }) (hs : a.eval s = v) (hx : a.eval x = n) (hr : (Builtin.append_ #[t, u] o.type #[v, n]).run P w = .ok r w') :
    (execOp a.eval o).run P w = .ok (.value r) w' := by
  unfold execOp
  simp only [ho, resolve, invoke, builtin, Sem.run_bind, Sem.run_pure, Result.andThen_ok, List.map_toArray, List.map_cons, List.map_nil, hs, hx, hr]
end
end Go.Proofs.YteclkiabkdaklaaDoor

namespace Go.Proofs.YteclkiabkdaklaaDoor
open Go.RowKit

/-- How many bytes the first slices have together, and which. -/
def tot (ln : Nat → Nat) : Nat → Nat
  | 0 => 0
  | j + 1 => tot ln j + ln j
def catz (ln : Nat → Nat) (zz : Nat → Nat → Int) : Nat → Nat → Int
  | 0 => fun _ => 0
  | j + 1 => app (catz ln zz j) (tot ln j) (zz j)
theorem tot_mono (ln : Nat → Nat) {i : Nat} : ∀ {j : Nat}, i ≤ j → tot ln i ≤ tot ln j
  | 0, h => by obtain rfl : i = 0 := by omega
               exact Nat.le_refl _
  | j + 1, h => by
    rcases Nat.lt_or_ge j i with h' | h'
    · obtain rfl : i = j + 1 := by omega
      exact Nat.le_refl _
    · have := tot_mono ln h'
      show _ ≤ tot ln j + ln j
      omega
theorem loadSl {P : Program} {o : Oper} {a : Act} {w : World} (ty e : TypeId) (x : Operand) (p : Addr) (v : Value) (ho : o.op = .load ty x) (hx : a.eval x = .pointer (some p)) (hu : P.underlying ty = some (.slice e)) (hc : w.cell? p = some v) : (execOp a.eval o).run P w = .ok (.value v) w := by
  have hagg : (isAgg ty).run P w = .ok false w := by
    unfold isAgg
    rw [Sem.run_bind, run_underlying hu w]
    rfl
  have e : (loadVar ty p).run P w = .ok v w := by simp [loadVar, Sem.run_bind, hagg, hc]
  unfold execOp
  simp only [ho, hx, Instr.loadAt, Instr.sureAddr, Sem.run_bind, Sem.run_pure, Result.andThen_ok, e]
theorem cut_none (g n cap : Nat) (w : World) : (Instr.sliceAt 26 (.slice (some ⟨g, 0, none⟩) n cap) none (some (.int .i64 0)) none).run Tryd.prog w = .ok (.slice (some ⟨g, 0, none⟩) 0 cap) w := by
  rw [run_sliceAt_slice w 26 _ _ _ _ (by kernel_rfl), run_slice_h w 26 _ n cap (by kernel_rfl) .i64 0 (by omega) (by omega), show (sizeOf (Tryd.prog.elem 26)).run Tryd.prog w = .ok 1 w by kernel_rfl]
  simp [Result.andThen, sliced, Addr.add_mid]

set_option maxRecDepth 10000 in
set_option maxHeartbeats 4000000 in
theorem grow_any (n : Nat) (hn : n ≤ 281474976710656) (w : World) :
    Calls Tryd.prog 38 #[.slice none 0 0, .int .i64 (n : Int)] w fun e w' => ∃ v, e = .returned v ∧ Own w' w.heap.size 5 .u8 0 (fun _ => 0) v ∧ n ≤ vcap v ∧ Below w.heap.size w w' := by
  have h0 : ¬ (n : Int) < 0 := by omega
  go_enter Tryd.func38, Tryd.ntmps38
  go_upto_region 3 with fail
  clear h0
  refine wp_region_list ?_
  refine pureL (.int .i64 (n : Int)) rfl (fun _ => by kernel_rfl) ?_
  simp only [Act.put, List.setIfInBounds_toArray, List.set_cons_zero, List.set_cons_succ]
  refine pureL (.slice none 0 0) rfl (fun _ => by kernel_rfl) ?_
  simp only [Act.put, List.setIfInBounds_toArray, List.set_cons_zero, List.set_cons_succ]
  refine pureL (.int .i64 0) rfl (fun _ => by kernel_rfl) ?_
  simp only [Act.put, List.setIfInBounds_toArray, List.set_cons_zero, List.set_cons_succ]
  refine pureL (.slice none 0 0) rfl (fun _ => by kernel_rfl) ?_
  simp only [Act.put, List.setIfInBounds_toArray, List.set_cons_zero, List.set_cons_succ]
  refine pureL (.int .i64 0) rfl (fun _ => by kernel_rfl) ?_
  simp only [Act.put, List.setIfInBounds_toArray, List.set_cons_zero, List.set_cons_succ]
  refine pureL (.int .i64 0) rfl (fun _ => by kernel_rfl) ?_
  simp only [Act.put, List.setIfInBounds_toArray, List.set_cons_zero, List.set_cons_succ]
  refine pureL (.int .i64 (n : Int)) rfl (fun w => subI .i64 _ _ _ _ _ _ _ rfl rfl rfl (by rw [IntKind.wrap_i64]; omega) w) ?_
  simp only [Act.put, List.setIfInBounds_toArray, List.set_cons_zero, List.set_cons_succ]
  refine pureL (.int .i64 (n : Int)) rfl (fun _ => by kernel_rfl) ?_
  simp only [Act.put, List.setIfInBounds_toArray, List.set_cons_zero, List.set_cons_succ]
  show Exit.then _ _ _ _ _
  rcases Nat.eq_zero_or_pos n with hz | hz
  · subst hz
    go_wp2
    go_ret
    exact ⟨.slice none 0 0, rfl, World.ownsRow_nil w _ _ 1, Nat.le_refl _, Below.refl _ _⟩
  · have g1 : (0 : Int) < (n : Int) := by omega
    go_upto_region 5 with fail
    refine wp_region_list ?_
    refine pureL (.slice none 0 0) rfl (fun _ => by kernel_rfl) ?_
    simp only [Act.put, List.setIfInBounds_toArray, List.set_cons_zero, List.set_cons_succ]
    refine pureL (.slice none 0 0) rfl (fun _ => by kernel_rfl) ?_
    simp only [Act.put, List.setIfInBounds_toArray, List.set_cons_zero, List.set_cons_succ]
    refine pureL (.int .i64 0) rfl (fun _ => by kernel_rfl) ?_
    simp only [Act.put, List.setIfInBounds_toArray, List.set_cons_zero, List.set_cons_succ]
    refine pureL (.slice none 0 0) rfl (fun _ => by kernel_rfl) ?_
    simp only [Act.put, List.setIfInBounds_toArray, List.set_cons_zero, List.set_cons_succ]
    refine pureL (.int .i64 (n : Int)) rfl (fun _ => by kernel_rfl) ?_
    simp only [Act.put, List.setIfInBounds_toArray, List.set_cons_zero, List.set_cons_succ]
    have h1 : (Tryd.prog.info? 5).map (fun i => (i.zero, i.bytes, i.size)) = some (some (.int .u8 0), 1, 1) := by kernel_rfl
    obtain ⟨i, hi, he⟩ := Option.map_eq_some_iff.1 h1
    simp only [Prod.mk.injEq] at he
    obtain ⟨e1, e2, e3⟩ := he
    have hr : ∀ ty, _ := fun ty => Lib.run_append_nil_zeros (P := Tryd.prog) w 26 3 ty 5 i (.int .u8 0) .i64 .i64 Tryd.underlying26 Tryd.underlying3 hi e1 n (by omega) (by rw [e3]; decide) (by omega) (by rw [e2]; omega)
    refine actL _ rfl (appendNOp _ _ 26 3 _ _ _ rfl rfl rfl (hr _)) ?_
    clear hr
    have hge := grownCap_ge w n 0 5
    have hle := grownCap_le_maxLen w n 0 5 (by unfold maxLen; omega)
    have hz1 : (Value.int .u8 0).cells.size = 1 := rfl
    have hsz : (Builtin.zeroCells (Value.int .u8 0).cells n ++ Builtin.zeroCells (Value.int .u8 0).cells (grownCap w n 0 5 - n)).size = grownCap w n 0 5 * 1 := by
      rw [Array.size_append, size_zeroCells, size_zeroCells, hz1]
      omega
    have O : Own (w.drew.alloc (.cells (Builtin.zeroCells (Value.int .u8 0).cells n ++ Builtin.zeroCells (Value.int .u8 0).cells (grownCap w n 0 5 - n)) 5)) w.heap.size 5 .u8 0 (fun _ => 0) (.slice (some ⟨w.heap.size, 0, none⟩) 0 (grownCap w n 0 5)) :=
      ⟨rfl, .inr ⟨w.heap.size, _, _, rfl, Nat.le_refl _, heap_alloc_new w.drew _, Nat.zero_le _, hle, hsz, by rw [Nat.zero_mul, List.take_zero]; rfl⟩⟩
    have hB : Below w.heap.size w (w.drew.alloc (.cells (Builtin.zeroCells (Value.int .u8 0).cells n ++ Builtin.zeroCells (Value.int .u8 0).cells (grownCap w n 0 5 - n)) 5)) := (Below.refl _ _).drew.alloc (Nat.le_refl _) _
    generalize (w.drew.alloc (.cells (Builtin.zeroCells (Value.int .u8 0).cells n ++ Builtin.zeroCells (Value.int .u8 0).cells (grownCap w n 0 5 - n)) 5)) = w1 at O hB ⊢
    clear hle hsz hz1 h1 hi e1 e2 e3
    generalize grownCap w n 0 5 = cp at O hge ⊢
    generalize hg : w.heap.size = g at O hB ⊢
    simp only [Act.put, List.setIfInBounds_toArray, List.set_cons_zero, List.set_cons_succ]
    refine pureL (.slice none 0 0) rfl (fun _ => by kernel_rfl) ?_
    simp only [Act.put, List.setIfInBounds_toArray, List.set_cons_zero, List.set_cons_succ]
    refine pureL (.int .i64 0) rfl (fun _ => by kernel_rfl) ?_
    simp only [Act.put, List.setIfInBounds_toArray, List.set_cons_zero, List.set_cons_succ]
    refine pureL (.slice (some ⟨g, 0, none⟩) 0 cp) rfl (fun w' => cutHi _ _ _ _ _ _ rfl rfl rfl (cut_none g n cp w')) ?_
    simp only [Act.put, List.setIfInBounds_toArray, List.set_cons_zero, List.set_cons_succ]
    refine pureL (.slice (some ⟨g, 0, none⟩) 0 cp) rfl (fun _ => by kernel_rfl) ?_
    simp only [Act.put, List.setIfInBounds_toArray, List.set_cons_zero]
    subst hg
    show Exit.then _ _ _ _ _
    go_wp2
    go_ret
    exact ⟨_, rfl, O, hge, hB⟩

/-- The slices that stand one behind the other. -/
structure CatIn (w : World) (p : Addr) (c : Nat) (sp : Nat → Option Addr) (ln cp : Nat → Nat) (zz : Nat → Nat → Int) : Prop where
  cell : ∀ j, j < c → w.cell? (p.add j) = some (.slice (sp j) (ln j) (cp j))
  src : ∀ j, j < c → Src w (sp j) (ln j) (zz j)
  nil : ∀ j, j < c → sp j = none → cp j = 0
theorem CatIn.below {w w' : World} {p : Addr} {c : Nat} {sp : Nat → Option Addr} {ln cp : Nat → Nat} {zz : Nat → Nat → Int} (h : CatIn w p c sp ln cp zz) (l : Below w.heap.size w w') : CatIn w' p c sp ln cp zz :=
  ⟨fun j hj => by rw [l.cell (World.block_lt_of_cell? w _ (h.cell j hj))]; exact h.cell j hj, fun j hj => (h.src j hj).below l (Nat.le_refl _), h.nil⟩
/-- What is joined so far. -/
structure CatI (w : World) (ln : Nat → Nat) (zz : Nat → Nat → Int) (c j : Nat) (s : Value) (w' : World) : Prop where
  own : Own w' w.heap.size 5 .u8 (tot ln j) (catz ln zz j) s
  room : tot ln c ≤ vcap s
  below : Below w.heap.size w w'

set_option maxRecDepth 10000 in
set_option maxHeartbeats 4000000 in
theorem concat_any (p : Addr) (c c' : Nat) (sp : Nat → Option Addr) (ln cp : Nat → Nat) (zz : Nat → Nat → Int) (hc : c < 1000000) (ht : tot ln c ≤ 281474976710656) (w : World) (hin : CatIn w p c sp ln cp zz) :
    Calls Tryd.prog 23 #[.slice (some p) c c'] w fun e w' => ∃ v, e = .returned v ∧ Own w' w.heap.size 5 .u8 (tot ln c) (catz ln zz c) v ∧ Below w.heap.size w w' := by
  go_enter Tryd.func23, Tryd.ntmps23
  go_wp2
  go_loopw [3, 11] (fun s i w' => ∃ j : Nat, j ≤ c ∧ s = .int .i64 ((tot ln j : Nat) : Int) ∧ i = .int .i64 (j : Int) ∧ w = w') (fun _ i _ => c - (intOf i).toNat)
  case atStart => exact ⟨0, Nat.zero_le _, rfl, rfl, rfl⟩
  case round =>
    obtain ⟨j, hj, rfl, rfl, rfl⟩ := hrel
    by_cases hlt : j < c
    · have g1 : (j : Int) < (c : Int) := by omega
      have hm : tot ln j + ln j ≤ tot ln c := tot_mono ln (show j + 1 ≤ c by omega)
      go_upto_region 4 with fail
      refine wp_region_list ?_
      refine pureL (.pointer (some (p.add j))) rfl (fun w => idxSl 68 26 c c' .i64 p j _ _ Tryd.underlying68 (fun _ => by kernel_rfl) hlt rfl rfl rfl w) ?_
      simp only [Act.put, List.setIfInBounds_toArray, List.set_cons_zero, List.set_cons_succ]
      refine readL (.slice (sp j) (ln j) (cp j)) rfl (loadSl 26 5 _ (p.add j) _ rfl rfl Tryd.underlying26 (hin.cell j hlt)) ?_
      simp only [Act.put, List.setIfInBounds_toArray, List.set_cons_zero, List.set_cons_succ]
      refine pureL (.slice (sp j) (ln j) (cp j)) rfl (fun _ => by kernel_rfl) ?_
      simp only [Act.put, List.setIfInBounds_toArray, List.set_cons_zero, List.set_cons_succ]
      show Exit.then _ _ _ _ _
      go_upto_region 5 with fail
      refine wp_region_list ?_
      refine pureL (.int .i64 ((tot ln j : Nat) : Int)) rfl (fun _ => by kernel_rfl) ?_
      simp only [Act.put, List.setIfInBounds_toArray, List.set_cons_zero, List.set_cons_succ]
      refine pureL (.slice (sp j) (ln j) (cp j)) rfl (fun _ => by kernel_rfl) ?_
      simp only [Act.put, List.setIfInBounds_toArray, List.set_cons_zero, List.set_cons_succ]
      refine pureL (.int .i64 ((ln j : Nat) : Int)) rfl (fun w => lenS _ 26 5 (sp j) (ln j) (cp j) rfl Tryd.underlying26 rfl w) ?_
      simp only [Act.put, List.setIfInBounds_toArray, List.set_cons_zero, List.set_cons_succ]
      refine pureL (.int .i64 ((tot ln (j + 1) : Nat) : Int)) rfl (fun w => addI .i64 _ _ _ _ _ _ _ rfl rfl rfl (by rw [IntKind.wrap_i64]; show _ = ((tot ln j + ln j : Nat) : Int); omega) w) ?_
      simp only [Act.put, List.setIfInBounds_toArray, List.set_cons_zero, List.set_cons_succ]
      refine pureL (.int .i64 ((tot ln (j + 1) : Nat) : Int)) rfl (fun _ => by kernel_rfl) ?_
      simp only [Act.put, List.setIfInBounds_toArray, List.set_cons_zero, List.set_cons_succ]
      show Exit.then _ _ _ _ _
      have g2 : ¬ ((tot ln (j + 1) : Nat) : Int) < 0 := by omega
      clear hm
      go_wp2
      go_roundw
      case rel => exact ⟨j + 1, by omega, rfl, by go_num, trivial⟩
      case measure => simp [intOf]; omega
    · obtain rfl : j = c := by omega
      have g1 : ¬ (j : Int) < (j : Int) := by omega
      clear hlt hj
      go_upto_region 9 with fail
      refine wp_region_list ?_
      refine pureL (.int .i64 ((tot ln j : Nat) : Int)) rfl (fun _ => by kernel_rfl) ?_
      simp only [Act.put, List.setIfInBounds_toArray, List.set_cons_zero, List.set_cons_succ]
      refine callL rfl (fun _ => by kernel_rfl) (grow_any (tot ln j) ht _) ?_
      rintro e w1 ⟨v, rfl, O, hro, hB⟩
      refine ⟨_, rfl, ?_⟩
      simp only [Act.put, List.setIfInBounds_toArray, List.set_cons_zero, List.set_cons_succ]
      refine pureL v rfl (fun _ => by kernel_rfl) ?_
      simp only [Act.put, List.setIfInBounds_toArray, List.set_cons_zero, List.set_cons_succ]
      have HI : CatI w ln zz j 0 v w1 := ⟨O, hro, hB⟩
      clear O hro hB
      show Exit.then _ _ _ _ _
      go_wp2
      go_loopw [6, 27] (fun s i w' => ∃ q : Nat, q ≤ j ∧ i = .int .i64 (q : Int) ∧ CatI w ln zz j q s w') (fun _ i _ => j - (intOf i).toNat)
      case atStart => exact ⟨0, Nat.zero_le _, rfl, HI⟩
      case round =>
        clear HI
        obtain ⟨q, hq, rfl, HI⟩ := hrel
        by_cases hlt : q < j
        · have g2 : (q : Int) < (j : Int) := by omega
          have hm : tot ln q + ln q ≤ tot ln j := tot_mono ln (show q + 1 ≤ j by omega)
          go_upto_region 12 with fail
          refine wp_region_list ?_
          refine pureL (.pointer (some (p.add q))) rfl (fun w => idxSl 68 26 j c' .i64 p q _ _ Tryd.underlying68 (fun _ => by kernel_rfl) hlt rfl rfl rfl w) ?_
          simp only [Act.put, List.setIfInBounds_toArray, List.set_cons_zero, List.set_cons_succ]
          refine readL (.slice (sp q) (ln q) (cp q)) rfl (loadSl 26 5 _ (p.add q) _ rfl rfl Tryd.underlying26 ((hin.below HI.below).cell q hlt)) ?_
          simp only [Act.put, List.setIfInBounds_toArray, List.set_cons_zero, List.set_cons_succ]
          refine pureL (.slice (sp q) (ln q) (cp q)) rfl (fun _ => by kernel_rfl) ?_
          simp only [Act.put, List.setIfInBounds_toArray, List.set_cons_zero, List.set_cons_succ]
          show Exit.then _ _ _ _ _
          go_upto_region 13 with fail
          refine wp_region_list ?_
          refine pureL u6 rfl (fun _ => by kernel_rfl) ?_
          simp only [Act.put, List.setIfInBounds_toArray, List.set_cons_zero, List.set_cons_succ]
          refine pureL (.slice (sp q) (ln q) (cp q)) rfl (fun _ => by kernel_rfl) ?_
          simp only [Act.put, List.setIfInBounds_toArray, List.set_cons_zero, List.set_cons_succ]
          obtain ⟨v', w2, hr, O, hg, hv, _⟩ := run_append_Room (P := Tryd.prog) (ty := 26) Tryd.underlying26 one8 HI.own (sp q) (ln q) (cp q) (zz q) ((hin.below HI.below).src q hlt) (hin.nil q hlt) (Nat.le_trans hm HI.room)
          refine actL _ rfl (appendOp _ _ 26 _ _ _ rfl rfl rfl hr) ?_
          simp only [Act.put, List.setIfInBounds_toArray, List.set_cons_zero, List.set_cons_succ]
          refine pureL v' rfl (fun _ => by kernel_rfl) ?_
          simp only [Act.put, List.setIfInBounds_toArray, List.set_cons_zero, List.set_cons_succ]
          have HS := show Hid _ from (show CatI w ln zz j (q + 1) v' w2 from ⟨O, by rw [hv]; exact HI.room, Below.grown HI.below hg HI.below.size (fun b hb => (World.ownsRow.lt HI.own b hb).1)⟩)
          clear O hg hv hr HI hm
          show Exit.inBlock _ _ _ _ _
          go_wp2
          go_roundw
          case rel => first | exact ⟨q + 1, by omega, by go_num, HS.out⟩ | ((repeat apply Exists.intro); refine ⟨⟨q + 1, by omega, ?_, HS.out⟩, rfl⟩ <;> first | rfl | go_num)
          case measure => simp [intOf]; omega
        · obtain rfl : q = j := by omega
          have g2 : ¬ (q : Int) < (q : Int) := by omega
          have HS := show Hid _ from HI
          clear HI hlt hq
          go_wp2
          go_ret
          exact ⟨_, rfl, HS.out.own, HS.out.below⟩
end Go.Proofs.YteclkiabkdaklaaDoor
