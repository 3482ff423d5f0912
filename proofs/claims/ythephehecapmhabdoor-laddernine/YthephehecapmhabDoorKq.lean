/- Blocks that hold rows of bytes through calls, blocks that are room for such rows, and what the exported functions of the layer below answer, as numbers modulo 2^255 - 19. -/
import Derived.Test.YthephehecapmhabDoorPair
import Derived.Test.YthephehecapmhabDoorSquare
import Derived.Test.YthephehecapmhabDoorFz
namespace Go.Proofs.YthephehecapmhabDoor
open Go.RowKit

theorem size_new (w : World) (o : Obj) : (w.alloc o).heap.size = w.heap.size + 1 := by simp
/-- The number of a key, modulo 2^255 - 19. -/
def kz (f : Nat → Int) : Fin QN := fz (val 256 f 32)
/-- A value that is a key, with this number. -/
def Kz (x : Fin QN) (v : Value) : Prop := ∃ f : Nat → Int, v = (.agg (row .u8 32 (f)).toArray) ∧ In 256 32 f ∧ kz f = x

/-- Four keys in a row. -/
def glue (a b c d : Nat → Int) : Nat → Int := fun j => if j < 32 then a j else if j < 64 then b (j - 32) else if j < 96 then c (j - 64) else d (j - 96)
theorem glue0 (a b c d : Nat → Int) : row .u8 32 (fun j => glue a b c d (0 + j)) = row .u8 32 a := row_congr _ _ fun j hj => by unfold glue; rw [if_pos (by omega), Nat.zero_add]
theorem glue1 (a b c d : Nat → Int) : row .u8 32 (fun j => glue a b c d (32 + j)) = row .u8 32 b := row_congr _ _ fun j hj => by unfold glue; rw [if_neg (by omega), if_pos (by omega), Nat.add_sub_cancel_left]
theorem glue2 (a b c d : Nat → Int) : row .u8 32 (fun j => glue a b c d (64 + j)) = row .u8 32 c := row_congr _ _ fun j hj => by unfold glue; rw [if_neg (by omega), if_neg (by omega), if_pos (by omega), Nat.add_sub_cancel_left]
theorem glue3 (a b c d : Nat → Int) : row .u8 32 (fun j => glue a b c d (96 + j)) = row .u8 32 d := row_congr _ _ fun j hj => by unfold glue; rw [if_neg (by omega), if_neg (by omega), if_neg (by omega), Nat.add_sub_cancel_left]
theorem Has.from {w : World} {b n : Nat} {f : Nat → Int} (h : Has w b .u8 n f) (o : Nat) (ho : o + 32 ≤ n) : w.rangeAt b o (row .u8 32 (fun j => f (o + j))) := fun j v hv => by
  obtain ⟨hj, rfl⟩ := row_get_some hv
  exact h.cell (o + j) (by omega)

theorem rung_info (f : Nat → Int) : (Tryd.prog.info? 33).map (·.size) = some (row .u8 128 f).length := by rw [row_length]; kernel_rfl
theorem rung_info' (f : Nat → Int) : (Tryd.prog.info? 33).map (·.size) = some (row .u8 128 f).toArray.size := by rw [List.size_toArray]; exact rung_info f
theorem rung_zero (w : World) (t : TypeId) (b : Nat) (hb : b = w.heap.size) : Has (w.alloc (.cells #[.int .u8 0, .int .u8 0, .int .u8 0, .int .u8 0, .int .u8 0, .int .u8 0, .int .u8 0, .int .u8 0, .int .u8 0, .int .u8 0, .int .u8 0, .int .u8 0, .int .u8 0, .int .u8 0, .int .u8 0, .int .u8 0, .int .u8 0, .int .u8 0, .int .u8 0, .int .u8 0, .int .u8 0, .int .u8 0, .int .u8 0, .int .u8 0, .int .u8 0, .int .u8 0, .int .u8 0, .int .u8 0, .int .u8 0, .int .u8 0, .int .u8 0, .int .u8 0, .int .u8 0, .int .u8 0, .int .u8 0, .int .u8 0, .int .u8 0, .int .u8 0, .int .u8 0, .int .u8 0, .int .u8 0, .int .u8 0, .int .u8 0, .int .u8 0, .int .u8 0, .int .u8 0, .int .u8 0, .int .u8 0, .int .u8 0, .int .u8 0, .int .u8 0, .int .u8 0, .int .u8 0, .int .u8 0, .int .u8 0, .int .u8 0, .int .u8 0, .int .u8 0, .int .u8 0, .int .u8 0, .int .u8 0, .int .u8 0, .int .u8 0, .int .u8 0, .int .u8 0, .int .u8 0, .int .u8 0, .int .u8 0, .int .u8 0, .int .u8 0, .int .u8 0, .int .u8 0, .int .u8 0, .int .u8 0, .int .u8 0, .int .u8 0, .int .u8 0, .int .u8 0, .int .u8 0, .int .u8 0, .int .u8 0, .int .u8 0, .int .u8 0, .int .u8 0, .int .u8 0, .int .u8 0, .int .u8 0, .int .u8 0, .int .u8 0, .int .u8 0, .int .u8 0, .int .u8 0, .int .u8 0, .int .u8 0, .int .u8 0, .int .u8 0, .int .u8 0, .int .u8 0, .int .u8 0, .int .u8 0, .int .u8 0, .int .u8 0, .int .u8 0, .int .u8 0, .int .u8 0, .int .u8 0, .int .u8 0, .int .u8 0, .int .u8 0, .int .u8 0, .int .u8 0, .int .u8 0, .int .u8 0, .int .u8 0, .int .u8 0, .int .u8 0, .int .u8 0, .int .u8 0, .int .u8 0, .int .u8 0, .int .u8 0, .int .u8 0, .int .u8 0, .int .u8 0, .int .u8 0, .int .u8 0, .int .u8 0, .int .u8 0] t)) b .u8 128 (fun _ => 0) := Has.new w .u8 128 (fun _ => 0) t b hb
theorem room_of {w : World} {b n : Nat} {f : Nat → Int} (h : w.there b 0 n) : w.there b 0 (row .u8 n f).toArray.size := by rw [List.size_toArray, row_length]; exact h

/-- The rows that the blocks of l hold, the rooms R, all below m; what stood in w stands. -/
structure Kq (w : World) (m : Nat) (l : List (Nat × Nat × (Nat → Int))) (R : List (Nat × Nat)) (w' : World) : Prop where
  rows : ∀ p ∈ l, Has w' p.1 .u8 p.2.1 p.2.2 ∧ p.1 < m
  room : ∀ q ∈ R, w'.there q.1 0 q.2 ∧ q.1 < m ∧ w.heap.size ≤ q.1
  apart : ∀ p ∈ l, ∀ q ∈ R, p.1 ≠ q.1
  size : m ≤ w'.heap.size
  base : w.heap.size ≤ m
  below : Below w.heap.size w w'
section
variable {w w' w'' : World} {m : Nat} {l : List (Nat × Nat × (Nat → Int))} {R : List (Nat × Nat)}
theorem Kq.init (w : World) : Kq w w.heap.size [] [] w := ⟨fun _ h => (by cases h), fun _ h => (by cases h), fun _ h => (by cases h), Nat.le_refl _, Nat.le_refl _, Below.refl _ _⟩
theorem Kq.drew (h : Kq w m l R w') : Kq w m l R w'.drew := ⟨fun p hp => ⟨(h.rows p hp).1.drew, (h.rows p hp).2⟩, h.room, h.apart, h.size, h.base, h.below.drew⟩
theorem Kq.call (h : Kq w m l R w') (b : Below w'.heap.size w' w'') : Kq w m l R w'' :=
  ⟨fun p hp => ⟨(h.rows p hp).1.below b (Nat.lt_of_lt_of_le (h.rows p hp).2 h.size), (h.rows p hp).2⟩,
   fun q hq => ⟨there_below (h.room q hq).1 b (Nat.lt_of_lt_of_le (h.room q hq).2.1 h.size), (h.room q hq).2⟩, h.apart, Nat.le_trans h.size b.size, h.base, h.below.trans (b.mono (Nat.le_trans h.base h.size))⟩
/-- A row in a new block. -/
theorem Kq.box (h : Kq w m l R w') (n : Nat) (f : Nat → Int) (t : TypeId) (b : Nat) (hb : b = w'.heap.size) : Kq w (b + 1) ((b, n, f) :: l) R (w'.alloc (.cells (row .u8 n f).toArray t)) := by
  have hc := h.call ((Below.refl w'.heap.size w').alloc (Nat.le_refl _) (.cells (row .u8 n f).toArray t))
  refine ⟨fun p hp => ?_, fun q hq => ⟨(hc.room q hq).1, by have := (hc.room q hq).2.1; have := h.size; omega, (hc.room q hq).2.2⟩, fun p hp q hq => ?_, by simp; omega, by have := h.base; have := h.size; omega, hc.below⟩
  · rcases List.mem_cons.1 hp with rfl | hp
    · exact ⟨Has.new w' .u8 n f t b hb, by simp⟩
    · exact ⟨(hc.rows p hp).1, by have := (hc.rows p hp).2; have := h.size; omega⟩
  · rcases List.mem_cons.1 hp with rfl | hp
    · have := (h.room q hq).2.1; have := h.size; simp only; omega
    · exact h.apart p hp q hq
/-- Room in a new block. -/
theorem Kq.make (h : Kq w m l R w') (n : Nat) (c : Array Value) (t : TypeId) (b : Nat) (hb : b = w'.heap.size) (hn : (w'.alloc (.cells c t)).there b 0 n) : Kq w (b + 1) l ((b, n) :: R) (w'.alloc (.cells c t)) := by
  have hc := h.call ((Below.refl w'.heap.size w').alloc (Nat.le_refl _) (.cells c t))
  refine ⟨fun p hp => ⟨(hc.rows p hp).1, by have := (hc.rows p hp).2; have := h.size; omega⟩, fun q hq => ?_, fun p hp q hq => ?_, by simp; omega, by have := h.base; have := h.size; omega, hc.below⟩
  · rcases List.mem_cons.1 hq with rfl | hq
    · exact ⟨hn, by simp, by have := h.base; have := h.size; simp only; omega⟩
    · exact ⟨(hc.room q hq).1, by have := (hc.room q hq).2.1; have := h.size; omega, (hc.room q hq).2.2⟩
  · rcases List.mem_cons.1 hq with rfl | hq
    · have := (h.rows p hp).2; have := h.size; simp only; omega
    · exact h.apart p hp q hq
/-- What is stored at m or beyond, or in a room, changes no row. -/
theorem Kq.past (h : Kq w m l R w') (b : Nat) (hb : m ≤ b) (vs : List Value) : Kq w m l R (w'.setCells b 0 vs) :=
  ⟨fun p hp => ⟨(h.rows p hp).1.setAll_other _ (by have := (h.rows p hp).2; omega) 0 _, (h.rows p hp).2⟩, fun q hq => ⟨World.there_setCells (h.room q hq).1 _ _ _, (h.room q hq).2⟩, h.apart, by rw [size_setAll]; exact h.size, h.base,
   below_setAll h.below _ (Nat.le_trans h.base hb) 0 _⟩
theorem Kq.fill (h : Kq w m l R w') (b n : Nat) (hb : (b, n) ∈ R) (vs : List Value) : Kq w m l R (w'.setCells b 0 vs) :=
  ⟨fun p hp => ⟨(h.rows p hp).1.setAll_other _ (fun e => h.apart p hp _ hb e.symm) 0 _, (h.rows p hp).2⟩, fun q hq => ⟨World.there_setCells (h.room q hq).1 _ _ _, (h.room q hq).2⟩, h.apart, by rw [size_setAll]; exact h.size, h.base,
   below_setAll h.below _ (h.room _ hb).2.2 0 _⟩
theorem Kq.get (h : Kq w m l R w') (b n : Nat) (f : Nat → Int) (hp : (b, n, f) ∈ l) : Has w' b .u8 n f := (h.rows _ hp).1
theorem Kq.whole (h : Kq w m l R w') (b : Nat) (f : Nat → Int) (hp : (b, 32, f) ∈ l) : w'.rangeAt b 0 (row .u8 32 f) := (h.get b 32 f hp).range
theorem Kq.part0 (h : Kq w m l R w') (b : Nat) (a e c d : Nat → Int) (hp : (b, 128, glue a e c d) ∈ l) : w'.rangeAt b 0 (row .u8 32 a) := by have := (h.get _ _ _ hp).from 0 (by omega); rwa [glue0] at this
theorem Kq.part1 (h : Kq w m l R w') (b : Nat) (a e c d : Nat → Int) (hp : (b, 128, glue a e c d) ∈ l) : w'.rangeAt b 32 (row .u8 32 e) := by have := (h.get _ _ _ hp).from 32 (by omega); rwa [glue1] at this
theorem Kq.part2 (h : Kq w m l R w') (b : Nat) (a e c d : Nat → Int) (hp : (b, 128, glue a e c d) ∈ l) : w'.rangeAt b 64 (row .u8 32 c) := by have := (h.get _ _ _ hp).from 64 (by omega); rwa [glue2] at this
theorem Kq.part3 (h : Kq w m l R w') (b : Nat) (a e c d : Nat → Int) (hp : (b, 128, glue a e c d) ∈ l) : w'.rangeAt b 96 (row .u8 32 d) := by have := (h.get _ _ _ hp).from 96 (by omega); rwa [glue3] at this
theorem Kq.roomy (h : Kq w m l R w') (b n : Nat) (f : Nat → Int) (hb : (b, n) ∈ R) : w'.there b 0 (row .u8 n f).toArray.size := room_of (h.room _ hb).1
/-- A new block that was stored to. -/
theorem Kq.fresh (h : Kq w m l R w') (n : Nat) (f : Nat → Int) (c : Array Value) (t : TypeId) (hn : (w'.alloc (.cells c t)).there w'.heap.size 0 n) :
    Kq w (w'.heap.size + 1) ((w'.heap.size, n, f) :: l) R ((w'.alloc (.cells c t)).setCells w'.heap.size 0 (row .u8 n f)) := by
  have hk := h.make n c t w'.heap.size rfl hn
  have hc := hk.fill w'.heap.size n List.mem_cons_self (row .u8 n f)
  refine ⟨fun p hp => ?_, fun q hq => hc.room q (List.mem_cons_of_mem _ hq), fun p hp q hq => ?_, hc.size, hc.base, hc.below⟩
  · rcases List.mem_cons.1 hp with rfl | hp
    · exact ⟨Has.all hn .u8 f, by simp⟩
    · exact hc.rows p hp
  · rcases List.mem_cons.1 hp with rfl | hp
    · have := (h.room q hq).2.1; have := h.size; simp only; omega
    · exact h.apart p hp q hq
theorem Kq.poke (h : Kq w m l R w') (b n : Nat) (hb : (b, n) ∈ R) (o : Nat) (vs : List Value) : Kq w m l R (w'.setCells b o vs) :=
  ⟨fun p hp => ⟨(h.rows p hp).1.setAll_other _ (fun e => h.apart p hp _ hb e.symm) o _, (h.rows p hp).2⟩, fun q hq => ⟨World.there_setCells (h.room q hq).1 _ _ _, (h.room q hq).2⟩, h.apart, by rw [size_setAll]; exact h.size, h.base,
   below_setAll h.below _ (h.room _ hb).2.2 o _⟩
/-- A row is given up: its block is room. -/
theorem Kq.loose (h : Kq w m l R w') (l' : List (Nat × Nat × (Nat → Int))) (b n : Nat) (f : Nat → Int) (hp : (b, n, f) ∈ l) (hl : ∀ p ∈ l', p ∈ l) (hne : ∀ p ∈ l', p.1 ≠ b) (hlo : w.heap.size ≤ b) : Kq w m l' ((b, n) :: R) w' :=
  ⟨fun p hp => h.rows p (hl p hp), fun q hq => by
    rcases List.mem_cons.1 hq with rfl | hq
    · exact ⟨(h.get _ _ _ hp).there, (h.rows _ hp).2, hlo⟩
    · exact h.room q hq, fun p hp' q hq => by
    rcases List.mem_cons.1 hq with rfl | hq
    · exact hne p hp'
    · exact h.apart p (hl p hp') q hq, h.size, h.base, h.below⟩
/-- A room holds a row. -/
theorem Kq.settle (h : Kq w m l R w') (R' : List (Nat × Nat)) (b n : Nat) (f : Nat → Int) (hb : (b, n) ∈ R) (hR : ∀ q ∈ R', q ∈ R) (hne : ∀ q ∈ R', q.1 ≠ b) (hf : Has w' b .u8 n f) : Kq w m ((b, n, f) :: l) R' w' :=
  ⟨fun p hp => by
    rcases List.mem_cons.1 hp with rfl | hp
    · exact ⟨hf, (h.room _ hb).2.1⟩
    · exact h.rows p hp, fun q hq => h.room q (hR q hq), fun p hp q hq => by
    rcases List.mem_cons.1 hp with rfl | hp
    · exact (hne q hq).symm
    · exact h.apart p hp q (hR q hq), h.size, h.base, h.below⟩
theorem Kq.sub (h : Kq w m l R w') (l' : List (Nat × Nat × (Nat → Int))) (hl : ∀ p ∈ l', p ∈ l) : Kq w m l' R w' :=
  ⟨fun p hp => h.rows p (hl p hp), h.room, fun p hp q hq => h.apart p (hl p hp) q hq, h.size, h.base, h.below⟩
/-- A row is written anew. -/
theorem Kq.set (h : Kq w m l R w') (l' : List (Nat × Nat × (Nat → Int))) (b : Nat) (f g : Nat → Int) (hp : (b, 32, f) ∈ l) (hl : ∀ p ∈ l', p ∈ l) (hne : ∀ p ∈ l', p.1 ≠ b) (hlo : w.heap.size ≤ b) : Kq w m ((b, 32, g) :: l') R (w'.setCells b 0 (row .u8 32 g)) :=
  ((h.loose l' b 32 f hp hl hne hlo).fill b 32 List.mem_cons_self _).settle R b 32 g List.mem_cons_self (fun _ hq => List.mem_cons_of_mem _ hq) (fun q hq => (h.apart _ hp q hq).symm) (Has.all (h.get _ _ _ hp).there .u8 g)
/-- What was made since is forgotten. -/
theorem Kq.back (h : Kq w m l R w') (l' : List (Nat × Nat × (Nat → Int))) (m0 : Nat) (hl : ∀ p ∈ l', p ∈ l) (hm : ∀ p ∈ l', p.1 < m0) (hr : ∀ q ∈ R, q.1 < m0) (h0 : w.heap.size ≤ m0) (h1 : m0 ≤ m) : Kq w m0 l' R w' :=
  ⟨fun p hp => ⟨(h.rows p (hl p hp)).1, hm p hp⟩, fun q hq => ⟨(h.room q hq).1, hr q hq, (h.room q hq).2.2⟩, fun p hp q hq => h.apart p (hl p hp) q hq, Nat.le_trans h1 h.size, h0, h.below⟩
/-- Two new blocks that were stored to. -/
theorem Kq.two (h : Kq w m l R w') {B1 B2 : Nat} (b1 : Fb 32 m B1 w') (b2 : Fb 32 m B2 w') (ne : B1 ≠ B2) (f g : Nat → Int) :
    Kq w w'.heap.size ((B2, 32, g) :: (B1, 32, f) :: l) R ((w'.setCells B1 0 (row .u8 32 f)).setCells B2 0 (row .u8 32 g)) := by
  have hc := (h.past B1 b1.lo (row .u8 32 f)).past B2 b2.lo (row .u8 32 g)
  have i1 := b1.hi
  have i2 := b2.hi
  have j1 := b1.lo
  have j2 := b2.lo
  refine ⟨fun p hp => ?_, fun q hq => ⟨(hc.room q hq).1, Nat.lt_of_lt_of_le (hc.room q hq).2.1 h.size, (hc.room q hq).2.2⟩, fun p hp q hq => ?_, by rw [size_setAll, size_setAll]; exact Nat.le_refl _, Nat.le_trans h.base h.size, hc.below⟩
  · rcases List.mem_cons.1 hp with rfl | hp
    · exact ⟨Has.all (World.there_setCells b2.th _ _ _) .u8 g, i2⟩
    · rcases List.mem_cons.1 hp with rfl | hp
      · exact ⟨(Has.all b1.th .u8 f).setAll_other _ (by simpa using ne.symm) 0 _, i1⟩
      · exact ⟨(hc.rows p hp).1, Nat.lt_of_lt_of_le (h.rows p hp).2 h.size⟩
  · have := (h.room q hq).2.1
    rcases List.mem_cons.1 hp with rfl | hp
    · simp only; omega
    · rcases List.mem_cons.1 hp with rfl | hp
      · simp only; omega
      · exact h.apart p hp q hq
end

section
variable {P : Program} {ops : Array Oper} {Q : Exit → Act → World → Prop} {md : Region.Mode} {S : World → Prop}
/-- A row is loaded from within a block, and may be loaded first. -/
theorem rowAtH {i : Nat} {oi : Oper} (dst : Option Tmp) (hdst : oi.dst = dst) {fuel : Nat} {listed : Array Bool} {a : Act} {w : World} (n : Nat) (f : Nat → Int) (b o : Nat) (ty : TypeId) (x : Operand) (d : TypeDesc) (hi : ops[i]? = some oi)
    (ho : oi.op = .load ty x) (hx : a.eval x = .pointer (some ⟨b, o, none⟩)) (hw : Region.wanted oi (yielded ops a.tmps) = true)
    (hs : Region.noSelect ops = true) (hf : Region.free md ops listed i = true) (hr : (Region.ready md ops listed).contains i = true)
    (hQ : ∀ c a w, Q (.panic c) (a.put dst (.agg (row .u8 n f).toArray)) w → Q (.panic c) a w)
    (hu : P.underlying ty = some d) (hd : d.isRow = true) (hz : (P.info? ty).map (·.size) = some (row .u8 n f).length)
    (hS : S w) (hh : ∀ w, S w → w.rangeAt b o (row .u8 n f))
    (h : wpAnyH P md ops Q S fuel (listed.setIfInBounds i true) (a.put dst (.agg (row .u8 n f).toArray)) w) : wpAnyH P md ops Q S (fuel + 1) listed a w := by
  subst hdst
  exact wpAnyH_take hi hs hf hr hQ (yieldsIf_load_mid hw ty x ho b o hx (row .u8 n f) d hh hu hd hz) hS h
/-- The one operation that may come up loads a row. -/
theorem rowOneH {i : Nat} {oi : Oper} (dst : Option Tmp) (hdst : oi.dst = dst) {fuel : Nat} {listed : Array Bool} {a : Act} {w : World} (n : Nat) (f : Nat → Int) (b o : Nat) (ty : TypeId) (x : Operand) (d : TypeDesc) (hr : Region.ready md ops listed = [i]) (hi : ops[i]? = some oi)
    (ho : oi.op = .load ty x) (hx : a.eval x = .pointer (some ⟨b, o, none⟩)) (hw : Region.wanted oi (yielded ops a.tmps) = true)
    (hu : P.underlying ty = some d) (hd : d.isRow = true) (hz : (P.info? ty).map (·.size) = some (row .u8 n f).length)
    (hS : S w) (hh : w.rangeAt b o (row .u8 n f))
    (h : wpAnyH P md ops Q S fuel (listed.setIfInBounds i true) (a.put dst (.agg (row .u8 n f).toArray)) w) : wpAnyH P md ops Q S (fuel + 1) listed a w := by
  subst hdst
  refine wpAnyH_all hr (by simp) fun j hj => ?_
  obtain rfl := List.mem_singleton.1 hj
  unfold wpOp
  simp only [hi, hw, if_true]
  exact .inl (wp_load_mid ty x ho b o hx (row .u8 n f) d hh hu hd hz ⟨hS, h⟩)
theorem rowAtL {o' : Oper} {rest : List Oper} {a : Act} {w : World} (n : Nat) (f : Nat → Int) (b o : Nat) (ty : TypeId) (x : Operand) (d : TypeDesc) (hw : Region.wanted o' (yielded ops a.tmps) = true)
    (ho : o'.op = .load ty x) (hx : a.eval x = .pointer (some ⟨b, o, none⟩)) (hu : P.underlying ty = some d) (hd : d.isRow = true) (hz : (P.info? ty).map (·.size) = some (row .u8 n f).length) (hh : w.rangeAt b o (row .u8 n f))
    (h : wpList P ops Q rest (a.put o'.dst (.agg (row .u8 n f).toArray)) w) : wpList P ops Q (o' :: rest) a w := by
  unfold wpList
  rw [if_pos hw]
  exact .inl (wp_load_mid ty x ho b o hx (row .u8 n f) d hh hu hd hz h)
end

/-! The layer below, in numbers modulo 2^255 - 19. -/
theorem kz_add {f a b : Nat → Int} (h : val 256 f 32 = (val 256 a 32 + val 256 b 32) % Q) : kz f = kz a + kz b := by unfold kz; rw [h, fz_mod, fz_add]
theorem kz_sub {f a b : Nat → Int} (h : val 256 f 32 = (val 256 a 32 - val 256 b 32) % Q) : kz f = kz a - kz b := by unfold kz; rw [h, fz_mod, fz_sub]
theorem kz_mul {f a b : Nat → Int} (h : val 256 f 32 = (val 256 a 32 * val 256 b 32) % Q) : kz f = kz a * kz b := by unfold kz; rw [h, fz_mod, fz_mul]
theorem kz_inv {f a : Nat → Int} (h : val 256 f 32 = val 256 a 32 ^ E % Q) : kz f = inz (kz a) := by unfold kz; rw [h, fz_mod, inz_fz]
theorem kz_canon {f a : Nat → Int} (h : val 256 f 32 = val 256 a 32 % Q) : kz f = kz a := by unfold kz; rw [h, fz_mod]
/-- What a contract in these words says of an answer. -/
def Ans (x : Fin QN) (w : World) (e : Ending) (w' : World) : Prop := ∃ f : Nat → Int, e = .returned (.agg (row .u8 32 (f)).toArray) ∧ (In 256 32 f ∧ kz f = x) ∧ Below w.heap.size w w'
theorem Ans.ks {x : Fin QN} {w : World} {e : Ending} {w' : World} (h : Ans x w e w') : ∃ v, e = .returned v ∧ Kz x v ∧ Below w.heap.size w w' := by
  obtain ⟨f, he, hf, l⟩ := h
  exact ⟨_, he, ⟨f, rfl, hf⟩, l⟩
theorem addz (a b : Nat → Int) (ha : In 256 32 a) (hb : In 256 32 b) (w : World) (hg : Glob w) : Calls Tryd.prog 20 #[(.agg (row .u8 32 (a)).toArray), (.agg (row .u8 32 (b)).toArray)] w (Ans (kz a + kz b) w) :=
  (add_any a b ha hb w hg).mono fun _ _ ⟨f, he, hf, l⟩ => ⟨f, he, ⟨hf.1, kz_add hf.2⟩, l⟩
theorem subz (a b : Nat → Int) (ha : In 256 32 a) (hb : In 256 32 b) (w : World) (hg : Glob w) : Calls Tryd.prog 21 #[(.agg (row .u8 32 (a)).toArray), (.agg (row .u8 32 (b)).toArray)] w (Ans (kz a - kz b) w) :=
  (sub_any a b ha hb w hg).mono fun _ _ ⟨f, he, hf, l⟩ => ⟨f, he, ⟨hf.1, kz_sub hf.2⟩, l⟩
theorem mulz (a b : Nat → Int) (ha : In 256 32 a) (hb : In 256 32 b) (w : World) (hg : Glob w) : Calls Tryd.prog 15 #[(.agg (row .u8 32 (a)).toArray), (.agg (row .u8 32 (b)).toArray)] w (Ans (kz a * kz b) w) :=
  (mul_any a b ha hb w hg).mono fun _ _ ⟨f, he, hf, l⟩ => ⟨f, he, ⟨hf.1, kz_mul hf.2⟩, l⟩
theorem sqz (a : Nat → Int) (ha : In 256 32 a) (w : World) (hg : Glob w) : Calls Tryd.prog 22 #[(.agg (row .u8 32 (a)).toArray)] w (Ans (kz a * kz a) w) :=
  (square_any a ha w hg).mono fun _ _ ⟨f, he, hf, l⟩ => ⟨f, he, ⟨hf.1, kz_mul hf.2⟩, l⟩
theorem invz (a : Nat → Int) (ha : In 256 32 a) (w : World) (hg : Glob w) : Calls Tryd.prog 16 #[(.agg (row .u8 32 (a)).toArray)] w (Ans (inz (kz a)) w) :=
  (invert_any a ha w hg).mono fun _ _ ⟨f, he, hf, l⟩ => ⟨f, he, ⟨hf.1, kz_inv hf.2⟩, l⟩
end Go.Proofs.YthephehecapmhabDoor
