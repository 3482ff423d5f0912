/- Slices of numbers that a call has made for itself, and what is appended to them; no program stands in this. -/
import Derived.Test.YtmchfdfmcobenaaDoorAr
import Derived.Laws.AppendOwn
import Derived.Laws.OwnMore
namespace Go.Proofs.YtmchfdfmcobenaaDoor
open Go.RowKit

/-- v is a slice of n numbers, made since block 'base'. -/
def Own (w : World) (base : Nat) (e : TypeId) (k : IntKind) (n : Nat) (f : Nat → Int) (v : Value) : Prop := w.ownsRow base e 1 v n (row k n f)

/-- One row behind another. -/
def app (f : Nat → Int) (n : Nat) (h : Nat → Int) : Nat → Int := fun j => if j < n then f j else h (j - n)
theorem row_app (k : IntKind) (n m : Nat) (f h : Nat → Int) : row k n f ++ row k m h = row k (n + m) (app f n h) := by
  unfold row
  rw [List.range_add, List.map_append, List.map_map]
  congr 1
  · refine List.map_congr_left fun j hj => ?_
    unfold app; rw [if_pos (List.mem_range.1 hj)]
  · refine List.map_congr_left fun j hj => ?_
    simp [app]
    omega
theorem Own.congr {w : World} {base : Nat} {e : TypeId} {k : IntKind} {n : Nat} {f g : Nat → Int} {v : Value} (h : Own w base e k n f v) (he : ∀ j, j < n → f j = g j) : Own w base e k n g v := by
  unfold Own at *
  rw [← row_congr k n he]; exact h
theorem grown_of_below {w w' : World} (l : Below w.heap.size w w') : w.grownBy w' none := ⟨l.os, l.tape, l.output, l.size, fun j hj _ => l.block j hj⟩
theorem Own.below {w w' : World} {base : Nat} {e : TypeId} {k : IntKind} {n : Nat} {f : Nat → Int} {v : Value} (h : Own w base e k n f v) (l : Below w.heap.size w w') : Own w' base e k n f v :=
  World.ownsRow.kept h (grown_of_below l) (by cases hv : v.ownBlock <;> simp)
theorem Own.grown {w w' : World} {base : Nat} {e : TypeId} {k : IntKind} {n : Nat} {f : Nat → Int} {v : Value} (h : Own w base e k n f v) {r : Option Nat} (l : w.grownBy w' r) (hr : ∀ g, r = some g → g < base) : Own w' base e k n f v := by
  refine World.ownsRow.kept h l ?_
  cases hv : v.ownBlock with
  | none => exact .inl rfl
  | some g =>
    refine .inr fun e => ?_
    have h1 := (World.ownsRow.lt h g hv).1
    have h2 := hr g e.symm
    omega
theorem Own.drew {w : World} {base : Nat} {e : TypeId} {k : IntKind} {n : Nat} {f : Nat → Int} {v : Value} (h : Own w base e k n f v) : Own w.drew base e k n f v := h.below (Below.refl _ _).drew
theorem Own.alloc {w : World} {base : Nat} {e : TypeId} {k : IntKind} {n : Nat} {f : Nat → Int} {v : Value} (h : Own w base e k n f v) (o : Obj) : Own (w.alloc o) base e k n f v := World.ownsRow.alloc h o
theorem Own.lit (w : World) (base : Nat) (e : TypeId) (k : IntKind) (n : Nat) (f : Nat → Int) (hb : base ≤ w.heap.size) (hn : n ≤ maxLen) : Own (w.alloc (.cells (row k n f).toArray e)) base e k n f (.slice (some ⟨w.heap.size, 0, none⟩) n n) :=
  ⟨by rw [row_length, Nat.mul_one], .inr ⟨w.heap.size, n, _, rfl, hb, heap_alloc_new w _, Nat.le_refl _, hn, by rw [List.size_toArray, row_length, Nat.mul_one], by rw [Nat.mul_one]; exact List.take_of_length_le (by rw [row_length]; exact Nat.le_refl _)⟩⟩
/-- What such a slice is. -/
theorem Own.has {w : World} {base : Nat} {e : TypeId} {k : IntKind} {n : Nat} {f : Nat → Int} {v : Value} (h : Own w base e k n f v) (hn : 0 < n) : ∃ g cap, v = .slice (some ⟨g, 0, none⟩) n cap ∧ base ≤ g ∧ g < w.heap.size ∧ Has w g k n f := by
  have hc := h
  rcases h.2 with ⟨rfl, h0⟩ | ⟨g, cap, cur, rfl, hb, hg, _⟩
  · omega
  · refine ⟨g, cap, rfl, hb, (Array.getElem?_eq_some_iff.1 hg).1, fun j hj => ?_, fun j _ => ?_⟩
    · have := World.ownsRow.cells hc (g := g) rfl j _ (row_get k n f j hj)
      rw [Addr.add_mid, Nat.zero_add] at this
      exact this
    · unfold World.frozen?
      rw [hg]
      simp
theorem Own.isSlice {w : World} {base : Nat} {e : TypeId} {k : IntKind} {n : Nat} {f : Nat → Int} {v : Value} (h : Own w base e k n f v) : ∃ sp cap, v = .slice sp n cap ∧ (sp = none → n = 0) ∧ ∀ j, j < n → ∃ ad, sp = some ad ∧ w.cell? (ad.add j) = some (.int k (f j)) := by
  rcases Nat.eq_zero_or_pos n with h0 | h0
  · subst h0
    rcases h.2 with ⟨rfl, _⟩ | ⟨g, cap, cur, rfl, _⟩
    · exact ⟨_, _, rfl, fun _ => rfl, fun j hj => by omega⟩
    · exact ⟨_, _, rfl, fun _ => rfl, fun j hj => by omega⟩
  · obtain ⟨g, cap, rfl, _, _, hh⟩ := h.has h0
    exact ⟨_, _, rfl, fun e => (by cases e), fun j hj => ⟨_, rfl, by rw [Addr.add_mid, Nat.zero_add]; exact hh.cell j hj⟩⟩
theorem Own.bytes {w : World} {base : Nat} {e : TypeId} {n : Nat} {f : Nat → Int} {v : Value} (h : Own w base e .u8 n f v) : ∃ sp cap, v = .slice sp n cap ∧ n ≤ cap ∧ Src w sp n f := by
  obtain ⟨sp, cap, rfl, _, hs⟩ := h.isSlice
  refine ⟨sp, cap, rfl, ?_, hs⟩
  rcases h.2 with ⟨hv, h0⟩ | ⟨g, cap', cur, hv, _, _, hnc, _⟩
  · omega
  · injection hv with _ _ hc
    omega
theorem Kr.grown {w w' w'' : World} {m : Nat} {l : List (Nat × IntKind × Nat × (Nat → Int))} {R : List (Nat × Nat)} (h : Kr w m l R w') {r : Option Nat} (g : w'.grownBy w'' r) (hr : ∀ b, r = some b → m ≤ b) : Kr w m l R w'' := by
  have hb : Below m w' w'' := ⟨g.os, g.tape, g.output, g.size, fun j hj => g.block j (Nat.lt_of_lt_of_le hj h.size) (fun e => by have := hr j e.symm; omega)⟩
  exact ⟨fun p hp => ⟨(h.rows p hp).1.below hb (h.rows p hp).2, (h.rows p hp).2⟩, fun q hq => ⟨there_below (h.room q hq).1 hb (h.room q hq).2.1, (h.room q hq).2⟩, h.apart, Nat.le_trans h.size g.size, h.base, h.below.trans (hb.mono h.base)⟩
theorem Kr.grown' {w w' w'' : World} {m : Nat} {l : List (Nat × IntKind × Nat × (Nat → Int))} {R : List (Nat × Nat)} (h : Kr w m l R w') {r : Option Nat} (g : w'.grownBy w'' r) (hl : ∀ p ∈ l, r ≠ some p.1) (hR : ∀ q ∈ R, r ≠ some q.1) (hr : ∀ b, r = some b → w.heap.size ≤ b) : Kr w m l R w'' := by
  have hc : ∀ b o, b < m → r ≠ some b → w''.cell? ⟨b, o, none⟩ = w'.cell? ⟨b, o, none⟩ ∧ w''.frozen? ⟨b, o, none⟩ = w'.frozen? ⟨b, o, none⟩ := fun b o hb hne => by
    have e := g.block b (Nat.lt_of_lt_of_le hb h.size) (fun e => hne e.symm)
    exact ⟨World.cell?_of_block (a := ⟨b, o, none⟩) e, World.frozen?_of_block (a := ⟨b, o, none⟩) e⟩
  have hb : Below w.heap.size w' w'' := ⟨g.os, g.tape, g.output, g.size, fun j hj => g.block j (Nat.lt_of_lt_of_le hj (Nat.le_trans h.base h.size)) (fun e => by have := hr j e.symm; omega)⟩
  refine ⟨fun p hp => ⟨⟨fun j hj => ?_, fun j hj => ?_⟩, (h.rows p hp).2⟩, fun q hq => ⟨fun j hj => ?_, (h.room q hq).2⟩, h.apart, Nat.le_trans h.size g.size, h.base, h.below.trans hb⟩
  · rw [(hc p.1 j (h.rows p hp).2 (hl p hp)).1]; exact (h.rows p hp).1.cell j hj
  · rw [(hc p.1 j (h.rows p hp).2 (hl p hp)).2]; exact (h.rows p hp).1.free j hj
  · rw [(hc q.1 (0 + j) (h.room q hq).2.1 (hR q hq)).1, (hc q.1 (0 + j) (h.room q hq).2.1 (hR q hq)).2]; exact (h.room q hq).1 j hj
/-- A slice of one's own, among the rows. -/
theorem Kr.own {w w' : World} {m : Nat} {l : List (Nat × IntKind × Nat × (Nat → Int))} {R : List (Nat × Nat)} (h : Kr w m l R w') {g : Nat} {k : IntKind} {n : Nat} {f : Nat → Int} (hg : m ≤ g) (hl : g < w'.heap.size) (hf : Has w' g k n f) : Kr w w'.heap.size ((g, k, n, f) :: l) R w' :=
  ⟨fun p hp => by
    rcases List.mem_cons.1 hp with rfl | hp
    · exact ⟨hf, hl⟩
    · exact ⟨(h.rows p hp).1, Nat.lt_of_lt_of_le (h.rows p hp).2 h.size⟩, fun q hq => ⟨(h.room q hq).1, Nat.lt_of_lt_of_le (h.room q hq).2.1 h.size, (h.room q hq).2.2⟩, fun p hp q hq => by
    rcases List.mem_cons.1 hp with rfl | hp
    · have := (h.room q hq).2.1; simp only; omega
    · exact h.apart p hp q hq, Nat.le_refl _, Nat.le_trans h.base h.size, h.below⟩

section
variable {P : Program}
/-- A type whose values are single numbers. -/
structure One (P : Program) (e : TypeId) (k : IntKind) (bytes : Nat) : Prop where
  info : (P.info? e).map (fun i => (i.zero, i.bytes, i.size)) = some (some (.int k 0), bytes, 1)
theorem run_append_Own {w : World} {base : Nat} {t ty e : TypeId} {k : IntKind} {bytes n : Nat} {f : Nat → Int} {v : Value} (ht : P.underlying t = some (.slice e)) (he : One P e k bytes) (h : Own w base e k n f v)
    (sp : Option Addr) (m c : Nat) (hv : Nat → Int) (hs : ∀ j, j < m → ∃ ad, sp = some ad ∧ w.cell? (ad.add j) = some (.int k (hv j))) (hz : sp = none → c = 0) (h63 : n + m ≤ maxLen) (hb : (n + m) * bytes ≤ 140737488355328) (hbase : base ≤ w.heap.size) :
    ∃ v' w', (Builtin.append_ #[t, t] ty #[v, .slice sp m c]).run P w = .ok v' w' ∧ Own w' base e k (n + m) (app f n hv) v' ∧ w.grownBy w' v.ownBlock ∧ (∀ g, v'.ownBlock = some g → v.ownBlock = some g ∨ g = w.heap.size) := by
  obtain ⟨i, hi, hq⟩ := Option.map_eq_some_iff.1 he.info
  simp only [Prod.mk.injEq] at hq
  obtain ⟨h1, h2, h3⟩ := hq
  cases sp with
  | none =>
    have hm : m = 0 := by
      rcases Nat.eq_zero_or_pos m with h0 | h0
      · exact h0
      · obtain ⟨ad, e, _⟩ := hs 0 h0; cases e
    subst hm
    obtain rfl := hz rfl
    refine ⟨v, w, run_append_owned_none (P := P) (w := w) base t ty e i 1 ht hi v n _ h, h.congr fun j hj => by unfold app; rw [if_pos hj], ⟨rfl, rfl, rfl, Nat.le_refl _, fun _ _ _ => rfl⟩, fun g hg => .inl hg⟩
  | some ad =>
    obtain ⟨v', w', hr, ho, hg, _⟩ := run_append_own (P := P) w base t ty e i (.int k 0) 1 bytes ht hi h1 h3 h2 rfl (by decide) v n _ h ad m c (row k m hv) (by rw [row_length, Nat.mul_one]) (fun j u hu => by
      obtain ⟨hj, rfl⟩ := row_get_some hu
      obtain ⟨ad', e', hc⟩ := hs j hj
      injection e' with e'
      subst e'
      exact hc) (row_one k m hv) h63 hb hbase
    rw [row_app] at ho
    refine ⟨v', w', hr, ho, hg, ?_⟩
    have hnews : ∀ j u, (row k m hv)[j]? = some u → w.cell? (ad.add j) = some u := fun j u hu => by
      obtain ⟨hj, rfl⟩ := row_get_some hu
      obtain ⟨ad', e', hc⟩ := hs j hj
      injection e' with e'
      subst e'
      exact hc
    have hml : (row k m hv).length = m * i.size := by rw [row_length, h3, Nat.mul_one]
    rcases h.2 with ⟨rfl, rfl⟩ | ⟨g, cap, cur, rfl, hbg, hgg, hnc, hcm, hcs, htake⟩
    · by_cases hm : m = 0
      · subst hm
        have hr2 : (Builtin.append_ #[t, t] ty #[.slice none 0 0, .slice (some ad) 0 c]).run P w = .ok (.slice none 0 0) w := by
          simp [Builtin.append_, run_underlying ht, sizeOf, typeInfo, hi, Builtin.lenOf, Builtin.firstCells, loadCells, loadCellsFrom]
        rw [hr] at hr2
        injection hr2 with hv' _
        rw [hv']
        intro g hg'
        cases hg'
      · have hr2 := run_append_nil (P := P) w t ty e i (.int k 0) ht hi h1 ad m c (row k m hv) hml hnews (by omega) (by unfold maxLen at h63; omega) (by rw [h2]; have := hb; simp only [Nat.zero_add] at this; omega)
        rw [hr] at hr2
        injection hr2 with hv' _
        rw [hv']
        intro g hg'
        injection hg' with hg'
        exact .inr hg'.symm
    · by_cases hroom : n + m ≤ cap
      · have hr2 := run_append_room (P := P) w t ty e i ht hi g n cap cur hgg ad m c (row k m hv) hml hnews (row_one k m hv) hroom (by rw [hml, hcs, h3]; omega)
        rw [hr] at hr2
        injection hr2 with hv' _
        rw [hv']
        intro g' hg'
        exact .inl hg'
      · have hr2 := run_append_grow (P := P) w t ty e i (.int k 0) ht hi h1 ⟨g, 0, none⟩ n cap (row k n f) (by rw [row_length, h3, Nat.mul_one]) (World.ownsRow.cells h (g := g) rfl) ad m c (row k m hv) hml hnews (by omega) (by unfold maxLen at h63; omega) (by rw [h2]; exact growslice_fits (by omega) hb)
        rw [hr] at hr2
        injection hr2 with hv' _
        rw [hv']
        intro g' hg'
        injection hg' with hg'
        exact .inr hg'.symm
theorem appendOp {o : Oper} {a : Act} {w w' : World} (s x : Operand) (t : TypeId) (v u r : Value) (ho : o.op = .call { callee := .builtin .append, args := #[s, x], argTypes := #[t, t] }) (hs : a.eval s = v) (hx : a.eval x = u) (hr : (Builtin.append_ #[t, t] o.type #[v, u]).run P w = .ok r w') :
    (execOp a.eval o).run P w = .ok (.value r) w' := by
  unfold execOp
  simp only [ho, resolve, invoke, builtin, Sem.run_bind, Sem.run_pure, Result.andThen_ok, List.map_toArray, List.map_cons, List.map_nil, hs, hx, hr]
end
end Go.Proofs.YtmchfdfmcobenaaDoor
