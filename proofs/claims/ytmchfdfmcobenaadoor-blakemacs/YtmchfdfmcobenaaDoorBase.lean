/- Plain facts on rows of integers, on blocks that hold them, and on the numbers that such rows stand for; no program stands in them. -/
import Derived.WalkKit
import Derived.WalkSpells
import Derived.Deep.RegionHeld3
import Derived.RowKit3
namespace Go.Proofs.YtmchfdfmcobenaaDoor
open Go.RowKit

/-- A row of n integers of one kind. -/
def row (k : IntKind) (n : Nat) (f : Nat → Int) : List Value := (List.range n).map fun j => .int k (f j)

theorem row_length (k : IntKind) (n : Nat) (f : Nat → Int) : (row k n f).length = n := by simp [row]
theorem row_get (k : IntKind) (n : Nat) (f : Nat → Int) (j : Nat) (h : j < n) : (row k n f)[j]? = some (.int k (f j)) := by simp [row, h]
theorem row_get_some {k : IntKind} {n : Nat} {f : Nat → Int} {j : Nat} {v : Value} (h : (row k n f)[j]? = some v) : j < n ∧ v = .int k (f j) := by
  have hj : j < n := by
    have := (List.getElem?_eq_some_iff.1 h).1
    rw [row_length] at this; exact this
  rw [row_get k n f j hj] at h
  exact ⟨hj, (Option.some.inj h).symm⟩
theorem row_congr (k : IntKind) (n : Nat) {f g : Nat → Int} (h : ∀ j, j < n → f j = g j) : row k n f = row k n g := by
  unfold row
  refine List.map_congr_left fun j hj => ?_
  rw [h j (List.mem_range.1 hj)]
theorem row_one (k : IntKind) (n : Nat) (f : Nat → Int) : ∀ v ∈ row k n f, v.oneCell' = true := by
  intro v hv
  obtain ⟨j, _, rfl⟩ := List.mem_map.1 hv
  rfl

/-- Block b holds such a row, and it may be written. -/
structure Has (w : World) (b : Nat) (k : IntKind) (n : Nat) (f : Nat → Int) : Prop where
  cell : ∀ j, j < n → w.cell? ⟨b, j, none⟩ = some (.int k (f j))
  free : ∀ j, j < n → w.frozen? ⟨b, j, none⟩ = false

def upd (f : Nat → Int) (i : Nat) (x : Int) : Nat → Int := fun j => if j = i then x else f j
theorem upd_same (f : Nat → Int) (i : Nat) (x : Int) : upd f i x i = x := by simp [upd]
theorem upd_other (f : Nat → Int) (i : Nat) (x : Int) (j : Nat) (h : j ≠ i) : upd f i x j = f j := by simp [upd, h]

theorem Has.drew {w : World} {b : Nat} {k : IntKind} {n : Nat} {f : Nat → Int} (h : Has w b k n f) : Has w.drew b k n f := ⟨h.cell, h.free⟩
theorem Has.congr {w : World} {b : Nat} {k : IntKind} {n : Nat} {f g : Nat → Int} (h : Has w b k n f) (e : ∀ j, j < n → f j = g j) : Has w b k n g :=
  ⟨fun j hj => by rw [← e j hj]; exact h.cell j hj, h.free⟩
theorem Has.new (w : World) (k : IntKind) (n : Nat) (f : Nat → Int) (t : TypeId) (b : Nat) (hb : b = w.heap.size) : Has (w.alloc (.cells (row k n f).toArray t)) b k n f :=
  ⟨fun j hj => by rw [World.cell?_alloc_at _ _ _ _ hb]; simpa using row_get k n f j hj, fun j _ => by rw [World.frozen?_alloc_at _ _ _ _ hb]⟩
theorem Has.alloc {w : World} {b : Nat} {k : IntKind} {n : Nat} {f : Nat → Int} (h : Has w b k n f) (o : Obj) (hb : b < w.heap.size) : Has (w.alloc o) b k n f :=
  ⟨fun j hj => by rw [World.cell?_alloc_past _ _ _ hb]; exact h.cell j hj, fun j hj => by rw [World.frozen?_alloc_past _ _ _ hb]; exact h.free j hj⟩
theorem Has.below {w w' : World} {b : Nat} {k : IntKind} {n : Nat} {f : Nat → Int} (h : Has w b k n f) {B : Nat} (hl : Below B w w') (hb : b < B) : Has w' b k n f :=
  ⟨fun j hj => by rw [hl.cell (p := ⟨b, j, none⟩) hb]; exact h.cell j hj, fun j hj => by rw [hl.frozen (p := ⟨b, j, none⟩) hb]; exact h.free j hj⟩
theorem Has.set {w : World} {b : Nat} {k : IntKind} {n : Nat} {f : Nat → Int} (h : Has w b k n f) (i : Nat) (hi : i < n) (x : Int) : Has (w.setCell ⟨b, i, none⟩ (.int k x)) b k n (upd f i x) :=
  ⟨fun j hj => by
    by_cases e : j = i
    · subst e; rw [upd_same, World.cell?_setCell_same _ _ _ (h.cell j hj)]
    · rw [upd_other _ _ _ _ e, World.cell?_setCell_other _ _ _ _ (by intro h'; exact e (by injection h' with _ h2; exact h2.symm))]; exact h.cell j hj,
   fun j hj => by rw [World.frozen?_setCell]; exact h.free j hj⟩
theorem Has.set_other {w : World} {b : Nat} {k : IntKind} {n : Nat} {f : Nat → Int} (h : Has w b k n f) (p : Addr) (v : Value) (hp : p.block ≠ b) : Has (w.setCell p v) b k n f :=
  ⟨fun j hj => by rw [World.cell?_setCell_other _ _ _ _ (by intro h'; exact hp (by rw [h']))]; exact h.cell j hj, fun j hj => by rw [World.frozen?_setCell]; exact h.free j hj⟩
theorem Has.range {w : World} {b : Nat} {k : IntKind} {n : Nat} {f : Nat → Int} (h : Has w b k n f) : w.rangeAt b 0 (row k n f) := fun j v hv => by
  obtain ⟨hj, rfl⟩ := row_get_some hv
  rw [Nat.zero_add]; exact h.cell j hj
theorem Has.there {w : World} {b : Nat} {k : IntKind} {n : Nat} {f : Nat → Int} (h : Has w b k n f) : w.there b 0 n := fun j hj => by
  rw [Nat.zero_add, h.cell j hj]; exact ⟨rfl, h.free j hj⟩
theorem Has.all {w : World} {b : Nat} {n : Nat} (ht : w.there b 0 n) (k : IntKind) (g : Nat → Int) : Has (w.setCells b 0 (row k n g)) b k n g :=
  ⟨fun j hj => by
    have := World.rangeAt_setCells_same w b 0 (row k n g) (by rw [row_length]; exact ht) j _ (row_get k n g j hj)
    rw [Nat.zero_add] at this; exact this,
   fun j hj => by rw [World.frozen?_setCells]; have := (ht j hj).2; rw [Nat.zero_add] at this; exact this⟩

/-- A function whose one result is a row that lies in a variable. -/
theorem results_row {P : Program} {fn : Func} {tmps : Array Value} {w : World} {a : Tmp} {ty : TypeId} {b : Nat} {cs : List Value} {d : TypeDesc} (hr : fn.results = #[.cell a ty])
    (ht : tmps.getD a undef = .pointer (some ⟨b, 0, none⟩)) (hc : w.rangeAt b 0 cs) (hu : P.underlying ty = some d) (hd : d.isRow = true) (hi : (P.info? ty).map (·.size) = some cs.length) :
    (results fn tmps).run P w = .ok (.agg cs.toArray) w := by
  have hl := run_loadVar_mid (P := P) w b 0 ty cs d hc hu hd hi
  rw [Array.getD_eq_getD_getElem?] at ht
  simp [results, hr, ht, asAddr, hl]

/-- A function whose results are such a row and a plain value. -/
theorem results_row_tmp {P : Program} {fn : Func} {tmps : Array Value} {w : World} {a t : Tmp} {ty : TypeId} {b : Nat} {cs : List Value} {d : TypeDesc} {v : Value} (hr : fn.results = #[.cell a ty, .tmp t])
    (ht : tmps.getD a undef = .pointer (some ⟨b, 0, none⟩)) (hv : tmps.getD t undef = v) (hc : w.rangeAt b 0 cs) (hu : P.underlying ty = some d) (hd : d.isRow = true) (hi : (P.info? ty).map (·.size) = some cs.length) :
    (results fn tmps).run P w = .ok (.tuple #[.agg cs.toArray, v]) w := by
  have hl := run_loadVar_mid (P := P) w b 0 ty cs d hc hu hd hi
  rw [Array.getD_eq_getD_getElem?] at ht hv
  simp [results, hr, ht, hv, asAddr, hl]

theorem below_setAll {B : Nat} {w w' : World} (h : Below B w w') (b : Nat) (hb : B ≤ b) : ∀ (o : Nat) (vs : List Value), Below B w (w'.setCells b o vs)
  | _, [] => h
  | o, v :: vs => by
    rw [World.setCells]
    exact below_setAll (h.setCell (by simpa using hb) v) b hb (o + 1) vs

theorem size_setAll (b : Nat) : ∀ (o : Nat) (vs : List Value) (w : World), (w.setCells b o vs).heap.size = w.heap.size
  | _, [], _ => rfl
  | o, v :: vs, w => by rw [World.setCells, size_setAll b (o + 1) vs]; simp
theorem Has.setAll_other {w : World} {b : Nat} {k : IntKind} {n : Nat} {f : Nat → Int} (h : Has w b k n f) (b' : Nat) (hb : b' ≠ b) : ∀ (o : Nat) (vs : List Value), Has (w.setCells b' o vs) b k n f
  | _, [] => h
  | o, v :: vs => by
    rw [World.setCells]
    exact Has.setAll_other (h.set_other _ v hb) b' hb (o + 1) vs

/-- The world has k blocks more at least, and those that stood are as they were. -/
structure Fr (w : World) (k : Nat) (w' : World) : Prop where
  below : Below w.heap.size w w'
  size : w.heap.size + k ≤ w'.heap.size
theorem Fr.refl (w : World) : Fr w 0 w := ⟨Below.refl _ _, by omega⟩
theorem Fr.alloc {w w' : World} {k : Nat} (h : Fr w k w') (o : Obj) : Fr w (k + 1) (w'.alloc o) := ⟨h.below.alloc (by have := h.size; omega) _, by have := h.size; simp; omega⟩
theorem Fr.drew {w w' : World} {k : Nat} (h : Fr w k w') : Fr w k w'.drew := ⟨h.below.drew, h.size⟩
theorem Fr.set {w w' : World} {k : Nat} (h : Fr w k w') (p : Addr) (v : Value) (hp : w.heap.size ≤ p.block) : Fr w k (w'.setCell p v) := ⟨h.below.setCell hp v, by have := h.size; simp; omega⟩
theorem Fr.setAll {w w' : World} {k : Nat} (h : Fr w k w') (b : Nat) (hb : w.heap.size ≤ b) (vs : List Value) : Fr w k (w'.setCells b 0 vs) := ⟨below_setAll h.below b hb 0 vs, by rw [size_setAll]; exact h.size⟩
theorem Fr.call {w w' w'' : World} {k : Nat} (h : Fr w k w') (l : Below w'.heap.size w' w'') : Fr w k w'' :=
  ⟨h.below.trans (l.mono (by have := h.size; omega)), by have := h.size; have := l.size; omega⟩
theorem Has.call {w w' w'' : World} {k' : Nat} {b : Nat} {k : IntKind} {n : Nat} {f : Nat → Int} (h : Has w' b k n f) (g : Fr w k' w') (l : Below w'.heap.size w' w'') (hb : b < w.heap.size + k') : Has w'' b k n f :=
  h.below l (by have := g.size; omega)

/-- Each of the first n is from 0 to below M. -/
def In (M : Int) (n : Nat) (f : Nat → Int) : Prop := ∀ j, j < n → 0 ≤ f j ∧ f j < M

theorem In.upd {M : Int} {n : Nat} {f : Nat → Int} (h : In M n f) (i : Nat) (x : Int) (h0 : 0 ≤ x) (h1 : x < M) : In M n (upd f i x) := fun j hj => by
  by_cases e : j = i
  · subst e; rw [upd_same]; exact ⟨h0, h1⟩
  · rw [upd_other _ _ _ _ e]; exact h j hj

/-- The number of a row, its digits to the base M, the lowest first. -/
def val (M : Int) (f : Nat → Int) : Nat → Int
  | 0 => 0
  | n + 1 => val M f n + M ^ n * f n

theorem val_congr (M : Int) {f g : Nat → Int} : ∀ n, (∀ j, j < n → f j = g j) → val M f n = val M g n
  | 0, _ => rfl
  | n + 1, h => by
    simp only [val]
    rw [val_congr M n (fun j hj => h j (by omega)), h n (by omega)]

theorem val_upd (M : Int) (f : Nat → Int) (i : Nat) (x : Int) (n : Nat) (h : n ≤ i) : val M (upd f i x) n = val M f n :=
  val_congr M n fun j hj => upd_other _ _ _ _ (by omega)

theorem pow_nonneg (M : Int) (h : 0 < M) : ∀ n : Nat, 0 < M ^ n
  | 0 => by simp
  | n + 1 => by rw [Int.pow_succ]; exact Int.mul_pos (pow_nonneg M h n) h

theorem val_in (M : Int) (hM : 0 < M) (f : Nat → Int) : ∀ n, In M n f → 0 ≤ val M f n ∧ val M f n < M ^ n
  | 0, _ => by simp [val]
  | n + 1, h => by
    have ih := val_in M hM f n (fun j hj => h j (by omega))
    have hn := h n (by omega)
    have hp := pow_nonneg M hM n
    simp only [val]
    rw [Int.pow_succ]
    have h1 : 0 ≤ M ^ n * f n := Int.mul_nonneg (by omega) hn.1
    have h2 : M ^ n * (f n + 1) ≤ M ^ n * M := Int.mul_le_mul_of_nonneg_left (by omega) (by omega)
    rw [Int.mul_add, Int.mul_one] at h2
    omega

/-- A number tells its digits. -/
theorem val_inj (M : Int) (hM : 0 < M) (f g : Nat → Int) : ∀ n, In M n f → In M n g → val M f n = val M g n → ∀ j, j < n → f j = g j
  | 0, _, _, _ => fun j hj => by omega
  | n + 1, hf, hg, h => by
    have bf := val_in M hM f n (fun j hj => hf j (by omega))
    have bg := val_in M hM g n (fun j hj => hg j (by omega))
    have hp := pow_nonneg M hM n
    simp only [val] at h
    have e : f n = g n := by
      by_cases hlt : f n < g n
      · have : M ^ n * (f n + 1) ≤ M ^ n * g n := Int.mul_le_mul_of_nonneg_left (by omega) (by omega)
        rw [Int.mul_add, Int.mul_one] at this; omega
      · by_cases hgt : g n < f n
        · have : M ^ n * (g n + 1) ≤ M ^ n * f n := Int.mul_le_mul_of_nonneg_left (by omega) (by omega)
          rw [Int.mul_add, Int.mul_one] at this; omega
        · omega
    have e2 : val M f n = val M g n := by rw [e] at h; omega
    intro j hj
    by_cases hjn : j = n
    · subst hjn; exact e
    · exact val_inj M hM f g n (fun j hj => hf j (by omega)) (fun j hj => hg j (by omega)) e2 j (by omega)

end Go.Proofs.YtmchfdfmcobenaaDoor
