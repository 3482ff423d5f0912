/- Texts of My Ob Oc Od Yb Yd Pd Id Zr, joined. -/
import Derived.Test.YtgfpflcoknpbdaaGreatDoorP12SymmetricPlays
import Derived.Test.YtgfpflcoknpbdaaGreatDoorP11SymmetricPlays
import Derived.Test.YtgfpflcoknpbdaaGreatDoorP3SymmetricPlays
import Derived.Test.YtgfpflcoknpbdaaGreatDoorP6SymmetricPlays
import Derived.Test.YtgfpflcoknpbdaaGreatDoorP5SymmetricPlays
import Derived.Test.YtgfpflcoknpbdaaGreatDoorP9SymmetricPlays
import Derived.Test.YtgfpflcoknpbdaaGreatDoorP1SymmetricPlays
import Derived.Lib.AppendZerosOnto
import Derived.Deep.DeepAppendWide
set_option maxRecDepth 20000
set_option maxHeartbeats 64000000
namespace Go.Proofs.YtgfpflcoknpbdaaGreatDoor
open Go.RowKit
section
def i64 (n : Int) : Prop := -9223372036854775808 ≤ n ∧ n < 9223372036854775808
structure Off (X : List Nat) (w w' : World) : Prop where
  size : w.heap.size ≤ w'.heap.size
  blk : ∀ b, b < w.heap.size → b ∉ X → w'.heap[b]? = w.heap[b]?
section
variable {X Y : List Nat} {w w1 w2 : World}
theorem Off.refl (X : List Nat) (w : World) : Off X w w := ⟨Nat.le_refl _, fun _ _ _ => rfl⟩
theorem Off.trans (h : Off X w w1) (g : Off X w1 w2) : Off X w w2 := ⟨Nat.le_trans h.size g.size, fun b hb hX => (g.blk b (Nat.lt_of_lt_of_le hb h.size) hX).trans (h.blk b hb hX)⟩
theorem Off.mono (h : Off X w w1) (hX : ∀ b ∈ X, b ∈ Y) : Off Y w w1 := ⟨h.size, fun b hb hY => h.blk b hb fun e => hY (hX b e)⟩
theorem Off.of_below (l : Below w.heap.size w w1) : Off X w w1 := ⟨l.size, fun b hb _ => l.block b hb⟩
theorem Off.below (h : Off X w w1) (l : Below w1.heap.size w1 w2) : Off X w w2 := h.trans (.of_below l)
theorem Off.set (h : Off X w w1) {b : Nat} (hb : b ∈ X) (j : Nat) (v : Value) : Off X w (w1.setCell ⟨b, j, none⟩ v) :=
  h.trans ⟨by simp, fun c _ hX => by
    have : c ≠ b := fun e => hX (e ▸ hb)
    simp [World.setCell, Array.getElem?_modify, Ne.symm this]⟩
theorem Off.grown (h : Off X w w1) {r : Option Nat} (g : w1.grownBy w2 r) (hr : ∀ b, r = some b → b ∈ X ∨ w.heap.size ≤ b) : Off X w w2 :=
  ⟨Nat.le_trans h.size g.size, fun b hb hX => by
    rw [g.block b (Nat.lt_of_lt_of_le hb h.size) (fun e => by
      rcases hr b e.symm with h' | h'
      · exact hX h'
      · omega)]
    exact h.blk b hb hX⟩
theorem Off.cell (h : Off X w w1) {p : Addr} {v : Value} (hc : w.cell? p = some v) (hX : p.block ∉ X) : w1.cell? p = some v := by
  rw [World.cell?_of_block (h.blk p.block (World.block_lt_of_cell? w p hc) hX)]
  exact hc
end
def SrcA (X : List Nat) (w : World) (sp : Option Addr) (n : Nat) (z : Nat → Int) : Prop := Src w sp n z ∧ ∀ ad, sp = some ad → 0 < n → ad.block ∉ X
theorem add_block (p : Addr) (j : Nat) : (p.add j).block = p.block := by unfold Addr.add; split <;> rfl
theorem SrcA.off {X : List Nat} {w w' : World} {sp : Option Addr} {n : Nat} {z : Nat → Int} (h : SrcA X w sp n z) (o : Off X w w') : SrcA X w' sp n z :=
  ⟨fun j hj => by
    obtain ⟨ad, rfl, hc⟩ := h.1 j hj
    exact ⟨ad, rfl, o.cell hc (by rw [add_block]; exact h.2 ad rfl (by omega))⟩, h.2⟩
theorem SrcA.less {X Y : List Nat} {w : World} {sp : Option Addr} {n : Nat} {z : Nat → Int} (h : SrcA X w sp n z) (hY : ∀ b ∈ Y, b ∈ X) : SrcA Y w sp n z := ⟨h.1, fun ad e hn hm => h.2 ad e hn (hY _ hm)⟩
theorem SrcA.of_old {X : List Nat} {w : World} {sp : Option Addr} {n : Nat} {z : Nat → Int} (h : Src w sp n z) (hX : ∀ b ∈ X, w.heap.size ≤ b) : SrcA X w sp n z :=
  ⟨h, fun ad e hn hm => by
    obtain ⟨ad', e', hc⟩ := h 0 hn
    rw [e] at e'
    injection e' with e'
    subst e'
    have := World.block_lt_of_cell? w _ hc
    rw [add_block] at this
    have := hX _ hm
    omega⟩
theorem SrcA.of_own {X : List Nat} {w : World} {base : Nat} {e : TypeId} {n : Nat} {z : Nat → Int} {sp : Option Addr} {c : Nat} (h : Own w base e .u8 n z (.slice sp n c)) (hX : ∀ b ∈ X, b < base) : SrcA X w sp n z :=
  ⟨h.src, fun ad e' _ hm => by
    subst e'
    have h1 := (World.ownsRow.lt h ad.block rfl).1
    have h2 := hX ad.block hm
    omega⟩
theorem ownsRow_off {X : List Nat} {w w' : World} {base size n : Nat} {e : TypeId} {v : Value} {xs : List Value} (h : w.ownsRow base e size v n xs) (o : Off X w w') (hX : ∀ b ∈ X, v.ownBlock ≠ some b) : w'.ownsRow base e size v n xs := by
  refine ⟨h.1, ?_⟩
  rcases h.2 with h0 | ⟨g, cap, cur, hv, hb, hg, h5, h6, h7, h8⟩
  · exact .inl h0
  · refine .inr ⟨g, cap, cur, hv, hb, ?_, h5, h6, h7, h8⟩
    have hlt : g < w.heap.size := by
      rcases Nat.lt_or_ge g w.heap.size with h' | h'
      · exact h'
      · rw [Array.getElem?_eq_none h'] at hg; cases hg
    rw [o.blk g hlt (fun hm => hX g hm (by rw [hv]; rfl))]
    exact hg
section
variable {P : Program}
end
end
theorem Mm.setAll {w0 w : World} {l : List (Nat × List Value)} {b : Nat} {cs : List Value} (h : Mm w0 ((b, cs) :: l) w) (ds : List Value) (hd : ds.length = cs.length) : Mm w0 ((b, ds) :: l) (w.setCells b 0 ds) := by
  have hb := h.rows _ mS
  have hne := (List.pairwise_cons.1 h.apart).1
  have hall : ∀ j, j < ds.length → (w.cell? ⟨b, 0 + j, none⟩).isSome = true := fun j hj => by rw [Nat.zero_add]; exact h.isSome mS j (by omega)
  refine ⟨fun p hp => ?_, List.pairwise_cons.2 ⟨hne, (List.pairwise_cons.1 h.apart).2⟩, below_setAll h.below b hb.2.1 0 ds⟩
  rcases List.mem_cons.1 hp with rfl | hp
  · refine ⟨fun j hj => ⟨?_, by rw [World.frozen?_setCells]; exact (hb.1 j (by have hj' : j < ds.length := hj; show j < cs.length; omega)).2⟩, hb.2.1, by rw [size_setAll]; exact hb.2.2⟩
    simp only at hj ⊢
    have e := World.cell?_setCells_in b ds 0 w hall j hj
    rw [Nat.zero_add] at e
    rw [e, List.getElem?_eq_getElem hj]
  · have h2 := h.rows p (mT _ hp)
    refine ⟨fun j hj => ⟨?_, by rw [World.frozen?_setCells]; exact (h2.1 j hj).2⟩, h2.2.1, by rw [size_setAll]; exact h2.2.2⟩
    rw [World.cell?_setCells_out b ds 0 w ⟨p.1, j, none⟩ (fun e _ => absurd e.symm (hne p hp))]
    exact (h2.1 j hj).1
theorem Off.setAll {X : List Nat} {w w1 : World} (h : Off X w w1) {b : Nat} (hb : b ∈ X) : ∀ (o : Nat) (vs : List Value), Off X w (w1.setCells b o vs)
  | _, [] => h
  | o, v :: vs => (h.set hb o v).setAll hb (o + 1) vs
section
theorem storeP {P : Program} {o : Oper} {a : Act} {w : World} (cs : List Value) (b off : Nat) (ty : TypeId) (x y : Operand) (ho : o.op = .store ty x y) (hx : a.eval x = .pointer (some ⟨b, off, none⟩)) (hy : a.eval y = .agg cs.toArray) (ht : w.there b off cs.toArray.size) (hz : (P.info? ty).map (·.size) = some cs.toArray.size) (h1 : ∀ u ∈ cs, u.oneCell' = true) :
    (execOp a.eval o).run P w = .ok .skip (w.setCells b off cs) := by
  unfold execOp
  simp only [ho, hx, hy]
  have e := run_storeAt_mid (P := P) w b off ty cs.toArray ht hz (all_oneCell_toArray h1)
  simp only [Sem.run_bind, e, Result.andThen_ok, Sem.run_pure]
def setL (cs : List Value) : Nat → List Value → List Value
  | _, [] => cs
  | o, v :: vs => setL (cs.set o v) (o + 1) vs
section
variable {w0 w : World} {l : List (Nat × List Value)} {b : Nat} {cs : List Value}
theorem Mm.thereP (h : Mm w0 l w) (hp : (b, cs) ∈ l) (o n : Nat) (hn : o + n ≤ cs.length) : w.there b o n := fun j hj => ⟨h.isSome hp (o + j) (by omega), h.free hp (o + j) (by omega)⟩
theorem Mm.setPartG : ∀ (ds : List Value) (o : Nat) (cs : List Value) (w : World), o + ds.length ≤ cs.length → Mm w0 ((b, cs) :: l) w → Mm w0 ((b, setL cs o ds) :: l) (w.setCells b o ds)
  | [], _, _, _, _, h => h
  | v :: vs, o, cs, w, hl, h => by
    rw [List.length_cons] at hl
    exact Mm.setPartG vs (o + 1) (cs.set o v) _ (by rw [List.length_set]; omega) (h.set o (by omega) v)
theorem Mm.setPart (h : Mm w0 ((b, cs) :: l) w) (ds : List Value) (o : Nat) (hl : o + ds.length ≤ cs.length) : Mm w0 ((b, setL cs o ds) :: l) (w.setCells b o ds) := Mm.setPartG ds o cs w hl h
theorem Mm.perm {l' : List (Nat × List Value)} (h : Mm w0 l w) (hp : l.Perm l') : Mm w0 l' w :=
  ⟨fun p hq => h.rows p (hp.mem_iff.2 hq), hp.pairwise h.apart (fun e => Ne.symm e), h.below⟩
theorem Mm.rot3 {p q r : Nat × List Value} (h : Mm w0 (p :: q :: r :: l) w) : Mm w0 (r :: p :: q :: l) w :=
  h.perm (((List.Perm.swap r q l).cons p).trans (List.Perm.swap r p (q :: l)))
theorem Mm.rot4 {p q r s : Nat × List Value} (h : Mm w0 (p :: q :: r :: s :: l) w) : Mm w0 (s :: p :: q :: r :: l) w :=
  h.perm ((((List.Perm.swap s r l).cons q).trans (List.Perm.swap s q (r :: l))).cons p |>.trans (List.Perm.swap s p (q :: r :: l)))
end
theorem Mm.drop2 {w0 w : World} {l : List (Nat × List Value)} {p q : Nat × List Value} (h : Mm w0 (p :: q :: l) w) : Mm w0 (p :: l) w := h.sub _ (List.cons_sublist_cons.2 (List.sublist_cons_self q l))
theorem Off.and1 {X : List Nat} {w w1 w2 : World} {b : Nat} (h : Off X w w1) (g : Off [b] w1 w2) (hb : b ∈ X ∨ w.heap.size ≤ b) : Off X w w2 :=
  ⟨Nat.le_trans h.size g.size, fun c hc hX => (g.blk c (Nat.lt_of_lt_of_le hc h.size) (fun e => by
    obtain rfl := List.mem_singleton.1 e
    rcases hb with h' | h'
    · exact hX h'
    · omega)).trans (h.blk c hc hX)⟩
theorem Own.off1 {w w' : World} {base : Nat} {e : TypeId} {k : IntKind} {n : Nat} {f : Nat → Int} {v : Value} {b : Nat} (h : Own w base e k n f v) (o : Off [b] w w') (hb : b < base) : Own w' base e k n f v :=
  ownsRow_off h o (fun x hx e => by
    obtain rfl := List.mem_singleton.1 hx
    have h1 := (World.ownsRow.lt h _ e).1
    omega)
theorem retCell {P : Program} {fn : Func} {tmps : Array Value} {w : World} (t : Tmp) (ty : TypeId) (p : Addr) (cs : List Value) (hr : fn.results = #[.cell t ty]) (ha : tmps.getD t undef = .pointer (some p)) (hagg : ∀ w, (isAgg ty).run P w = .ok true w) (hz : ∀ w, (sizeOf ty).run P w = .ok cs.length w) (hc : ∀ j v, cs[j]? = some v → w.cell? (p.add j) = some v) :
    (results fn tmps).run P w = .ok (.agg cs.toArray) w := by
  have e : (loadVar ty p).run P w = .ok (.agg cs.toArray) w := by simp [loadVar, Sem.run_bind, hagg, hz, run_loadCells_list w p cs hc]
  rw [Array.getD_eq_getD_getElem?] at ha
  simp [results, hr, ha, asAddr, e]
end
theorem Mm.srcRow {w0 w : World} {l : List (Nat × List Value)} (h : Mm w0 l w) {b : Nat} {cs : List Value} (hp : (b, cs) ∈ l) (o n : Nat) (f : Nat → Int) (hd : (cs.drop o).take (row .u8 n f).length = row .u8 n f) : Src w (some ⟨b, o, none⟩) n f := fun j hj => ⟨_, rfl, h.part hp o _ hd j _ (row_get .u8 n f j hj)⟩
def stc (s : Sym) : List Value := row .u8 32 s.h ++ (row .u8 32 s.c ++ (row .u8 32 s.k ++ [.bool s.has, .int .i64 (s.n : Int)]))
theorem row32 (f : Nat → Int) : (row .u8 32 f).length = 32 := row_length _ _ _
theorem stc_len (s : Sym) : (stc s).length = 98 := by unfold stc; simp [row_length]
theorem stc_h (s : Sym) : ((stc s).drop 0).take (row .u8 32 s.h).length = row .u8 32 s.h := by unfold stc; rw [List.drop_zero, List.take_left]
theorem stc_c (s : Sym) : ((stc s).drop 32).take (row .u8 32 s.c).length = row .u8 32 s.c := by unfold stc; rw [List.drop_left' (row32 s.h), List.take_left]
theorem stc_k (s : Sym) : ((stc s).drop 64).take (row .u8 32 s.k).length = row .u8 32 s.k := by
  unfold stc
  rw [← List.append_assoc, List.drop_left' (by rw [List.length_append, row32, row32]), List.take_left]
theorem stc_rest (s : Sym) (j : Nat) : (stc s)[96 + j]? = [Value.bool s.has, .int .i64 (s.n : Int)][j]? := by
  unfold stc
  rw [← List.append_assoc, ← List.append_assoc, List.getElem?_append_right (by simp [row_length])]
  simp [row_length]
theorem setL_left : ∀ (ds a rest : List Value), ds.length = a.length → setL (a ++ rest) 0 ds = ds ++ rest := by
  have key : ∀ (ds pre a rest : List Value), ds.length = a.length → setL (pre ++ (a ++ rest)) pre.length ds = pre ++ (ds ++ rest) := by
    intro ds
    induction ds with
    | nil =>
      intro pre a rest h
      have : a = [] := List.eq_nil_of_length_eq_zero (by simpa using h.symm)
      subst this
      rfl
    | cons d ds ih =>
      intro pre a rest h
      cases a with
      | nil => cases h
      | cons x a =>
        have h2 : ds.length = a.length := by simpa using h
        have e : (pre ++ (x :: a ++ rest)).set pre.length d = (pre ++ [d]) ++ (a ++ rest) := by simp
        show setL ((pre ++ (x :: a ++ rest)).set pre.length d) (pre.length + 1) ds = _
        rw [e]
        have := ih (pre ++ [d]) a rest h2
        rw [List.length_append] at this
        rw [show pre.length + 1 = pre.length + [d].length from rfl, this]
        simp
  intro ds a rest h
  have := key ds [] a rest h
  simpa using this
theorem setL_pre (pre : List Value) : ∀ (ds l : List Value) (o : Nat), setL (pre ++ l) (pre.length + o) ds = pre ++ setL l o ds
  | [], _, _ => rfl
  | d :: ds, l, o => by
    show setL ((pre ++ l).set (pre.length + o) d) (pre.length + o + 1) ds = pre ++ setL (l.set o d) (o + 1) ds
    rw [List.set_append_right _ _ (by omega), Nat.add_sub_cancel_left, Nat.add_assoc, setL_pre pre ds (l.set o d) (o + 1)]
theorem stc_setH (s : Sym) (f : Nat → Int) : setL (stc s) 0 (row .u8 32 f) = stc { s with h := f } := by
  unfold stc
  exact setL_left _ _ _ (by rw [row32, row32])
theorem stc_setC (s : Sym) (f : Nat → Int) : setL (stc s) 32 (row .u8 32 f) = stc { s with c := f } := by
  unfold stc
  have := setL_pre (row .u8 32 s.h) (row .u8 32 f) (row .u8 32 s.c ++ (row .u8 32 s.k ++ [.bool s.has, .int .i64 (s.n : Int)])) 0
  rw [row32] at this
  rw [show (32 : Nat) = 32 + 0 from rfl, this, setL_left _ _ _ (by rw [row32, row32])]
theorem stc_setK (s : Sym) (f : Nat → Int) : setL (stc s) 64 (row .u8 32 f) = stc { s with k := f } := by
  unfold stc
  have := setL_pre (row .u8 32 s.h ++ row .u8 32 s.c) (row .u8 32 f) (row .u8 32 s.k ++ [.bool s.has, .int .i64 (s.n : Int)]) 0
  rw [List.length_append, row32, row32, List.append_assoc] at this
  rw [show (64 : Nat) = 32 + 32 + 0 from rfl, this, setL_left _ _ _ (by rw [row32, row32]), List.append_assoc]
theorem stc_set96 (s : Sym) (b : Bool) : (stc s).set 96 (.bool b) = stc { s with has := b } := by
  unfold stc
  rw [List.set_append_right _ _ (by rw [row32]; omega), row32, List.set_append_right _ _ (by rw [row32]; omega), row32, List.set_append_right _ _ (by rw [row32]; omega), row32]
  rfl
theorem stc_set97 (s : Sym) (n : Nat) : (stc s).set 97 (.int .i64 (n : Int)) = stc { s with n := n } := by
  unfold stc
  rw [List.set_append_right _ _ (by rw [row32]; omega), row32, List.set_append_right _ _ (by rw [row32]; omega), row32, List.set_append_right _ _ (by rw [row32]; omega), row32]
  rfl
theorem rmix_any (w0 w : World) (R : Nat) (l : List (Nat × List Value)) (s : Sym) (hw : In 256 32 s.h) (sp : Option Addr) (cap : Nat) (b : List Int) (hlen : b.length ≤ 140737488351232) (hnil : sp = none → cap = 0) (hb : Byts b) (M : Mm w0 ((R, stc s) :: l) w) (hs : SrcA [R] w sp b.length (bl b)) : Calls Tryz.prog 9 #[.pointer (some ⟨R, 0, none⟩), .slice sp b.length cap] w fun e w' => e = .returned (.tuple #[]) ∧ Mm w0 ((R, stc (smix s b)) :: l) w' ∧ Off [R] w w' := by
  have hRw := M.lt mS
  have hR0 := M.below.size
  have hwz := Nat.le_refl w.heap.size
  have hML0 : ∀ p ∈ l, p.1 < w.heap.size := fun p hp => (M.rows p (mT _ hp)).2.2
  have OF := Off.refl [R] w
  go_enter Tryz.func9, Tryz.ntmps9
  have hML : ∀ p ∈ (R, stc s) :: l, p.1 < w.heap.size := fun p hp => by rcases List.mem_cons.1 hp with rfl | hp; exact hRw; exact hML0 p hp
  go_upto_region 0 with fail
  refine wp_region_list ?_
  refine readL (.pointer (some ⟨R, 0, none⟩)) rfl (by kernel_rfl) ?_
  simp only [aP, lI, l0, lS]
  refine actL (w' := w.alloc (.cells #[] 5)) (.slice (some ⟨w.heap.size, 0, none⟩) 0 0) rfl (by kernel_rfl) ?_
  simp only [aP, lI, l0, lS]
  have O_1 : Own (w.alloc (.cells #[] 5)) w.heap.size 5 .u8 0 (fun _ => 0) (.slice (some ⟨w.heap.size, 0, none⟩) 0 0) := Own.lit w w.heap.size 5 .u8 0 (fun _ => 0) hwz (by unfold maxLen; omega)
  have hlb := (Below.refl w.heap.size w).alloc (Nat.le_refl _) (.cells #[] 5)
  replace hwz := Nat.le_trans hwz hlb.size
  replace M := M.call hlb
  replace OF := OF.below hlb
  clear hlb
  generalize w.alloc (.cells #[] 5) = w1 at M O_1 hwz OF ⊢
  generalize (some ⟨w.heap.size, 0, none⟩ : Option Addr) = p1 at O_1 ⊢
  refine readL (.pointer (some ⟨R, 0, none⟩)) rfl (by kernel_rfl) ?_
  simp only [aP, lI, l0, lS]
  refine readL (.pointer (some ⟨R, 0, none⟩)) rfl (by kernel_rfl) ?_
  simp only [aP, lI, l0, lS]
  refine readL (.pointer (some ⟨R, 0, none⟩)) rfl (by kernel_rfl) ?_
  simp only [aP, lI, l0, lS]
  refine readL (.slice (some ⟨R, 0, none⟩) 32 32) rfl (cutAll 38 _ _ _ rfl rfl (by kernel_rfl)) ?_
  simp only [aP, lI, l0, lS]
  obtain ⟨v, w2, hr, O_2, hgr, _⟩ := run_append_Own (P := Tryz.prog) (ty := 28) Tryz.underlying28 one8 O_1 (some ⟨R, 0, none⟩) 32 32 s.h (M.srcRow mS 0 32 _ (stc_h s)) (fun e => by cases e) (by unfold maxLen; omega) (by omega) hwz
  replace M := M.grown hgr w.heap.size hML (by omega) hwz (fun b hb => (World.ownsRow.lt O_1 b hb).1)
  replace OF := OF.grown hgr (fun b hb => .inr (World.ownsRow.lt O_1 b hb).1)
  replace hwz := Nat.le_trans hwz hgr.size
  refine actL v rfl (appendOp _ _ 28 _ _ _ rfl rfl rfl hr) ?_
  simp only [aP, lI, l0, lS]
  clear hr hgr O_1
  obtain ⟨p2, c2, rfl, _, _⟩ := O_2.bytes
  refine readL (.slice sp b.length cap) rfl (by kernel_rfl) ?_
  simp only [aP, lI, l0, lS]
  obtain ⟨v, w3, hr, O_3, hgr, _⟩ := run_append_Own (P := Tryz.prog) (ty := 28) Tryz.underlying28 one8 O_2 sp b.length cap (bl b) (hs.off OF).1 hnil (by unfold maxLen; omega) (by omega) hwz
  replace M := M.grown hgr w.heap.size hML (by omega) hwz (fun b hb => (World.ownsRow.lt O_2 b hb).1)
  replace OF := OF.grown hgr (fun b hb => .inr (World.ownsRow.lt O_2 b hb).1)
  replace hwz := Nat.le_trans hwz hgr.size
  refine actL v rfl (appendOp _ _ 28 _ _ _ rfl rfl rfl hr) ?_
  simp only [aP, lI, l0, lS]
  clear hr hgr O_2
  obtain ⟨p3, c3, rfl, _, _⟩ := O_3.bytes
  have hzz : In 256 (0 + 32 + b.length) (app (app (fun _ => 0) 0 s.h) (0 + 32) (bl b)) := fun j hj => by
    show 0 ≤ app (app (fun _ => 0) 0 s.h) (0 + 32) (bl b) j ∧ app (app (fun _ => 0) 0 s.h) (0 + 32) (bl b) j < 256
    unfold app
    split
    · rw [if_neg (by omega)]; exact hw (j - 0) (by omega)
    · exact hb.bl (j - (0 + 32)) (by omega)
  have hzf : bhash (0 + 32 + b.length) (app (app (fun _ => 0) 0 s.h) (0 + 32) (bl b)) = bhash (32 + b.length) (app s.h 32 (bl b)) := by
    rw [show 0 + 32 + b.length = 32 + b.length by omega]
    exact bhash_congr _ _ _ fun j hj => by
      unfold app
      rw [show 0 + 32 = 32 from rfl]
      split
      · rw [if_neg (by omega), Nat.sub_zero]
      · rfl
  refine callL rfl (fun _ => by kernel_rfl) (refHash_any p3 _ c3 (by omega) O_3.nilCap (app (app (fun _ => 0) 0 s.h) (0 + 32) (bl b)) hzz _ O_3.src) ?_
  rintro e w4 ⟨rfl, l1⟩
  replace M := M.call l1
  replace OF := OF.below l1
  rw [hzf]
  clear l1 hzf hzz O_3
  refine ⟨_, rfl, ?_⟩
  simp only [aP, lI, l0, lS]
  refine readL (.pointer (some ⟨R, 0, none⟩)) rfl (by kernel_rfl) ?_
  simp only [aP, lI, l0, lS]
  refine readL (.pointer (some ⟨R, 0, none⟩)) rfl (by kernel_rfl) ?_
  simp only [aP, lI, l0, lS]
  refine skipOpL rfl (storeP (row .u8 32 (bhash (32 + b.length) (app s.h 32 (bl b)))) R 0 38 _ _ rfl rfl rfl (M.thereP mS 0 32 (by rw [stc_len]; decide)) (by kernel_rfl) (row_one .u8 32 (bhash (32 + b.length) (app s.h 32 (bl b))))) ?_
  simp only [Act.put]
  replace M := M.setPart (row .u8 32 (bhash (32 + b.length) (app s.h 32 (bl b)))) 0 (by rw [row32, stc_len]; decide)
  rw [stc_setH] at M
  replace OF := OF.and1 ((Off.refl [R] _).setAll (b := R) mS 0 (row .u8 32 (bhash (32 + b.length) (app s.h 32 (bl b))))) (.inl mS)
  generalize w4.setCells R 0 (row .u8 32 (bhash (32 + b.length) (app s.h 32 (bl b)))) = w5 at M OF ⊢
  replace M : Mm w0 ((R, stc (⟨bhash (32 + b.length) (app s.h 32 (bl b)), s.c, s.k, s.has, s.n⟩ : Sym)) :: l) w5 := M
  exact ⟨rfl, .tuple #[], by kernel_rfl, rfl, M, OF⟩
theorem rkey_any (w0 w : World) (R : Nat) (l : List (Nat × List Value)) (s : Sym) (hw : In 256 32 s.c) (sp : Option Addr) (cap : Nat) (b : List Int) (hlen : b.length ≤ 140737488351232) (hnil : sp = none → cap = 0) (hb : Byts b) (M : Mm w0 ((R, stc s) :: l) w) (hs : SrcA [R] w sp b.length (bl b)) : Calls Tryz.prog 11 #[.pointer (some ⟨R, 0, none⟩), .slice sp b.length cap] w fun e w' => e = .returned (.tuple #[]) ∧ Mm w0 ((R, stc (skey s b)) :: l) w' ∧ Off [R] w w' := by
  have hRw := M.lt mS
  have hR0 := M.below.size
  have hwz := Nat.le_refl w.heap.size
  have hML0 : ∀ p ∈ l, p.1 < w.heap.size := fun p hp => (M.rows p (mT _ hp)).2.2
  have OF := Off.refl [R] w
  go_enter Tryz.func11, Tryz.ntmps11
  go_upto_region 0 with fail
  refine wp_region_list ?_
  refine readL (.pointer (some ⟨R, 0, none⟩)) rfl (by kernel_rfl) ?_
  simp only [aP, lI, l0, lS]
  refine readL (.pointer (some ⟨R, 0, none⟩)) rfl (by kernel_rfl) ?_
  simp only [aP, lI, l0, lS]
  refine readL (.pointer (some ⟨R, 0, none⟩)) rfl (by kernel_rfl) ?_
  simp only [aP, lI, l0, lS]
  refine readL (.pointer (some ⟨R, 0, none⟩)) rfl (by kernel_rfl) ?_
  simp only [aP, lI, l0, lS]
  refine readL (.pointer (some ⟨R, 32, none⟩)) rfl (by kernel_rfl) ?_
  simp only [aP, lI, l0, lS]
  refine readL (.agg (row .u8 32 s.c).toArray) rfl (loadN 38 _ ⟨R, 32, none⟩ (row .u8 32 s.c) rfl rfl (fun _ => by kernel_rfl) (fun _ => by rw [row32]; kernel_rfl) (M.part mS 32 _ (stc_c s))) ?_
  simp only [aP, lI, l0, lS]
  refine readL (.slice sp b.length cap) rfl (by kernel_rfl) ?_
  simp only [aP, lI, l0, lS]
  refine callL rfl (fun _ => by kernel_rfl) (krefChain_any s.c hw sp b.length cap (by omega) hnil (bl b) hb.bl _ (hs.off OF).1) ?_
  rintro e w1 ⟨rfl, l1⟩
  replace M := M.call l1
  replace OF := OF.below l1
  clear l1
  refine ⟨_, rfl, ?_⟩
  simp only [aP, lI, l0, lS]
  refine readL (.tuple #[.agg (row .u8 32 (kA s.c b.length (bl b))).toArray, .agg (row .u8 32 (kB s.c b.length (bl b))).toArray]) rfl (by kernel_rfl) ?_
  simp only [aP, lI, l0, lS]
  refine readL (.agg (row .u8 32 (kA s.c b.length (bl b))).toArray) rfl (by kernel_rfl) ?_
  simp only [aP, lI, l0, lS]
  refine readL (.agg (row .u8 32 (kB s.c b.length (bl b))).toArray) rfl (by kernel_rfl) ?_
  simp only [aP, lI, l0, lS]
  refine readL (.pointer (some ⟨R, 0, none⟩)) rfl (by kernel_rfl) ?_
  simp only [aP, lI, l0, lS]
  refine readL (.pointer (some ⟨R, 32, none⟩)) rfl (by kernel_rfl) ?_
  simp only [aP, lI, l0, lS]
  refine skipOpL rfl (storeP (row .u8 32 (kA s.c b.length (bl b))) R 32 38 _ _ rfl rfl rfl (M.thereP mS 32 32 (by rw [stc_len]; decide)) (by kernel_rfl) (row_one .u8 32 (kA s.c b.length (bl b)))) ?_
  simp only [Act.put]
  replace M := M.setPart (row .u8 32 (kA s.c b.length (bl b))) 32 (by rw [row32, stc_len]; decide)
  rw [stc_setC] at M
  replace OF := OF.and1 ((Off.refl [R] _).setAll (b := R) mS 32 (row .u8 32 (kA s.c b.length (bl b)))) (.inl mS)
  generalize w1.setCells R 32 (row .u8 32 (kA s.c b.length (bl b))) = w2 at M OF ⊢
  replace M : Mm w0 ((R, stc (⟨s.h, kA s.c b.length (bl b), s.k, s.has, s.n⟩ : Sym)) :: l) w2 := M
  refine readL (.pointer (some ⟨R, 0, none⟩)) rfl (by kernel_rfl) ?_
  simp only [aP, lI, l0, lS]
  refine readL (.pointer (some ⟨R, 64, none⟩)) rfl (by kernel_rfl) ?_
  simp only [aP, lI, l0, lS]
  refine skipOpL rfl (storeP (row .u8 32 (kB s.c b.length (bl b))) R 64 38 _ _ rfl rfl rfl (M.thereP mS 64 32 (by rw [stc_len]; decide)) (by kernel_rfl) (row_one .u8 32 (kB s.c b.length (bl b)))) ?_
  simp only [Act.put]
  replace M := M.setPart (row .u8 32 (kB s.c b.length (bl b))) 64 (by rw [row32, stc_len]; decide)
  rw [stc_setK] at M
  replace OF := OF.and1 ((Off.refl [R] _).setAll (b := R) mS 64 (row .u8 32 (kB s.c b.length (bl b)))) (.inl mS)
  generalize w2.setCells R 64 (row .u8 32 (kB s.c b.length (bl b))) = w3 at M OF ⊢
  replace M : Mm w0 ((R, stc (⟨s.h, kA s.c b.length (bl b), kB s.c b.length (bl b), s.has, s.n⟩ : Sym)) :: l) w3 := M
  first | show Exit.then _ _ _ _ _ | show Exit.inBlock _ _ _ _ _
  go_upto_region 1 with fail
  refine wp_region_list ?_
  refine readL (.pointer (some ⟨R, 0, none⟩)) rfl (by kernel_rfl) ?_
  simp only [aP, lI, l0, lS]
  refine readL (.pointer (some ⟨R, 0, none⟩)) rfl (by kernel_rfl) ?_
  simp only [aP, lI, l0, lS]
  refine readL (.pointer (some ⟨R, 96, none⟩)) rfl (by kernel_rfl) ?_
  simp only [aP, lI, l0, lS]
  refine skipOpL rfl (storeAny (.bool true) R 96 4 _ _ rfl rfl rfl rfl rfl (M.isSome mS 96 (by rw [stc_len]; decide)) (M.free mS 96 (by rw [stc_len]; decide)) (by kernel_rfl)) ?_
  simp only [Act.put]
  replace M := M.set 96 (by rw [stc_len]; decide) (.bool true)
  rw [stc_set96] at M
  replace OF := OF.and1 ((Off.refl [R] _).set (b := R) mS 96 (.bool true)) (.inl mS)
  generalize w3.setCell ⟨R, 96, none⟩ (.bool true) = w4 at M OF ⊢
  replace M : Mm w0 ((R, stc (⟨s.h, kA s.c b.length (bl b), kB s.c b.length (bl b), true, s.n⟩ : Sym)) :: l) w4 := M
  first | show Exit.then _ _ _ _ _ | show Exit.inBlock _ _ _ _ _
  go_upto_region 2 with fail
  refine wp_region_list ?_
  refine readL (.pointer (some ⟨R, 0, none⟩)) rfl (by kernel_rfl) ?_
  simp only [aP, lI, l0, lS]
  refine readL (.pointer (some ⟨R, 0, none⟩)) rfl (by kernel_rfl) ?_
  simp only [aP, lI, l0, lS]
  refine readL (.pointer (some ⟨R, 97, none⟩)) rfl (by kernel_rfl) ?_
  simp only [aP, lI, l0, lS]
  refine skipOpL rfl (storeAny (.int .i64 0) R 97 3 _ _ rfl rfl rfl rfl rfl (M.isSome mS 97 (by rw [stc_len]; decide)) (M.free mS 97 (by rw [stc_len]; decide)) (by kernel_rfl)) ?_
  simp only [Act.put]
  replace M := M.set 97 (by rw [stc_len]; decide) (.int .i64 0)
  rw [show (.int .i64 0 : Value) = .int .i64 ((0 : Nat) : Int) from rfl, stc_set97] at M
  replace OF := OF.and1 ((Off.refl [R] _).set (b := R) mS 97 (.int .i64 0)) (.inl mS)
  generalize w4.setCell ⟨R, 97, none⟩ (.int .i64 0) = w5 at M OF ⊢
  replace M : Mm w0 ((R, stc (⟨s.h, kA s.c b.length (bl b), kB s.c b.length (bl b), true, 0⟩ : Sym)) :: l) w5 := M
  exact ⟨rfl, .tuple #[], by kernel_rfl, rfl, M, OF⟩
theorem rsplit_any (w0 w : World) (R : Nat) (l : List (Nat × List Value)) (s : Sym) (hw : In 256 32 s.c) (M : Mm w0 ((R, stc s) :: l) w) :
    Calls Tryz.prog 19 #[.pointer (some ⟨R, 0, none⟩)] w fun e w' => e = .returned (.tuple #[.agg (row .u8 32 (kA s.c 0 (bl []))).toArray, .agg (row .u8 32 (kB s.c 0 (bl []))).toArray]) ∧ Below w.heap.size w w' := by
  have hRw := M.lt mS
  have OF := Off.refl [] w
  have hb0 := M.below
  go_enter Tryz.func19, Tryz.ntmps19
  go_upto_region 0 with fail
  refine wp_region_list ?_
  have hz0_ := OF.size
  refine actL (w' := w.alloc (.cells zu8_32 38)) (.pointer (some ⟨w.heap.size, 0, none⟩)) rfl (by kernel_rfl) ?_
  simp only [aP, lI, l0, lS]
  have hlb := (Below.refl w.heap.size w).alloc (Nat.le_refl _) (.cells zu8_32 38)
  replace OF := OF.below hlb
  clear hlb
  have hB_B1 : w0.heap.size ≤ w.heap.size := M.below.size
  replace M := M.box zu8_32 38 w.heap.size rfl
  generalize w.alloc (.cells zu8_32 38) = w1 at M OF ⊢
  generalize eB : w.heap.size = B1 at M hB_B1  ⊢
  have hE_B1 : w.heap.size ≤ B1 := Nat.le_of_eq eB
  have hF_B1 : B1 ≤ w.heap.size := Nat.le_of_eq eB.symm
  clear eB
  replace M : Mm w0 ((B1, [.int .u8 0, .int .u8 0, .int .u8 0, .int .u8 0, .int .u8 0, .int .u8 0, .int .u8 0, .int .u8 0, .int .u8 0, .int .u8 0, .int .u8 0, .int .u8 0, .int .u8 0, .int .u8 0, .int .u8 0, .int .u8 0, .int .u8 0, .int .u8 0, .int .u8 0, .int .u8 0, .int .u8 0, .int .u8 0, .int .u8 0, .int .u8 0, .int .u8 0, .int .u8 0, .int .u8 0, .int .u8 0, .int .u8 0, .int .u8 0, .int .u8 0, .int .u8 0]) :: (R, stc s) :: l) w1 := M
  have hW_B1 : w.heap.size ≤ B1 := by omega
  clear hz0_
  have hz0_ := OF.size
  refine actL (w' := w1.alloc (.cells zu8_32 38)) (.pointer (some ⟨w1.heap.size, 0, none⟩)) rfl (by kernel_rfl) ?_
  simp only [aP, lI, l0, lS]
  have hlb := (Below.refl w1.heap.size w1).alloc (Nat.le_refl _) (.cells zu8_32 38)
  replace OF := OF.below hlb
  clear hlb
  have hB_B2 : w0.heap.size ≤ w1.heap.size := M.below.size
  replace M := M.box zu8_32 38 w1.heap.size rfl
  generalize w1.alloc (.cells zu8_32 38) = w2 at M OF ⊢
  generalize eB : w1.heap.size = B2 at M hB_B2  ⊢
  have hE_B2 : w1.heap.size ≤ B2 := Nat.le_of_eq eB
  have hF_B2 : B2 ≤ w1.heap.size := Nat.le_of_eq eB.symm
  clear eB
  replace M : Mm w0 ((B2, [.int .u8 0, .int .u8 0, .int .u8 0, .int .u8 0, .int .u8 0, .int .u8 0, .int .u8 0, .int .u8 0, .int .u8 0, .int .u8 0, .int .u8 0, .int .u8 0, .int .u8 0, .int .u8 0, .int .u8 0, .int .u8 0, .int .u8 0, .int .u8 0, .int .u8 0, .int .u8 0, .int .u8 0, .int .u8 0, .int .u8 0, .int .u8 0, .int .u8 0, .int .u8 0, .int .u8 0, .int .u8 0, .int .u8 0, .int .u8 0, .int .u8 0, .int .u8 0]) :: (B1, [.int .u8 0, .int .u8 0, .int .u8 0, .int .u8 0, .int .u8 0, .int .u8 0, .int .u8 0, .int .u8 0, .int .u8 0, .int .u8 0, .int .u8 0, .int .u8 0, .int .u8 0, .int .u8 0, .int .u8 0, .int .u8 0, .int .u8 0, .int .u8 0, .int .u8 0, .int .u8 0, .int .u8 0, .int .u8 0, .int .u8 0, .int .u8 0, .int .u8 0, .int .u8 0, .int .u8 0, .int .u8 0, .int .u8 0, .int .u8 0, .int .u8 0, .int .u8 0]) :: (R, stc s) :: l) w2 := M
  have hW_B2 : w.heap.size ≤ B2 := by omega
  clear hz0_
  first | show Exit.then _ _ _ _ _ | show Exit.inBlock _ _ _ _ _
  go_upto_region 1 with fail
  refine wp_region_list ?_
  refine readL (.pointer (some ⟨R, 0, none⟩)) rfl (by kernel_rfl) ?_
  simp only [aP, lI, l0, lS]
  refine readL (.pointer (some ⟨R, 0, none⟩)) rfl (by kernel_rfl) ?_
  simp only [aP, lI, l0, lS]
  refine readL (.pointer (some ⟨R, 32, none⟩)) rfl (by kernel_rfl) ?_
  simp only [aP, lI, l0, lS]
  refine readL (.agg (row .u8 32 s.c).toArray) rfl (loadN 38 _ ⟨R, 32, none⟩ (row .u8 32 s.c) rfl rfl (fun _ => by kernel_rfl) (fun _ => by rw [row32]; kernel_rfl) (M.part (mT _ (mT _ mS)) 32 _ (stc_c s))) ?_
  simp only [aP, lI, l0, lS]
  refine callL rfl (fun _ => by kernel_rfl) (krefChain_any s.c hw none 0 0 (by decide) (fun _ => rfl) (bl []) (fun j hj => absurd hj (Nat.not_lt_zero j)) _ (fun j hj => absurd hj (Nat.not_lt_zero j))) ?_
  rintro e w3 ⟨rfl, l1⟩
  replace M := M.call l1
  replace OF := OF.below l1
  clear l1
  refine ⟨_, rfl, ?_⟩
  simp only [aP, lI, l0, lS]
  refine readL (.agg (row .u8 32 (kA s.c 0 (bl []))).toArray) rfl (by kernel_rfl) ?_
  simp only [aP, lI, l0, lS]
  refine readL (.agg (row .u8 32 (kB s.c 0 (bl []))).toArray) rfl (by kernel_rfl) ?_
  simp only [aP, lI, l0, lS]
  replace M := M.swap
  refine skipOpL rfl (storeP (row .u8 32 (kA s.c 0 (bl []))) B1 0 38 _ _ rfl rfl rfl (M.thereP mS 0 32 (Nat.le_of_ble_eq_true rfl)) (by kernel_rfl) (row_one .u8 32 (kA s.c 0 (bl [])))) ?_
  simp only [Act.put]
  replace M := M.setAll (row .u8 32 (kA s.c 0 (bl []))) (by rw [row32]; rfl)
  replace OF := OF.and1 ((Off.refl [B1] _).setAll (b := B1) mS 0 (row .u8 32 (kA s.c 0 (bl [])))) (.inr (by omega))
  generalize w3.setCells B1 0 (row .u8 32 (kA s.c 0 (bl []))) = w4 at M OF ⊢
  replace M := M.swap
  refine skipOpL rfl (storeP (row .u8 32 (kB s.c 0 (bl []))) B2 0 38 _ _ rfl rfl rfl (M.thereP mS 0 32 (Nat.le_of_ble_eq_true rfl)) (by kernel_rfl) (row_one .u8 32 (kB s.c 0 (bl [])))) ?_
  simp only [Act.put]
  replace M := M.setAll (row .u8 32 (kB s.c 0 (bl []))) (by rw [row32]; rfl)
  replace OF := OF.and1 ((Off.refl [B2] _).setAll (b := B2) mS 0 (row .u8 32 (kB s.c 0 (bl [])))) (.inr (by omega))
  generalize w4.setCells B2 0 (row .u8 32 (kB s.c 0 (bl []))) = w5 at M OF ⊢
  first | show Exit.then _ _ _ _ _ | show Exit.inBlock _ _ _ _ _
  have c1 : w5.rangeAt B1 0 (row .u8 32 (kA s.c 0 (bl []))) := fun j v hv => by rw [Nat.zero_add]; exact M.get (mT _ mS) j v hv
  have c2 : w5.rangeAt B2 0 (row .u8 32 (kB s.c 0 (bl []))) := fun j v hv => by rw [Nat.zero_add]; exact M.get mS j v hv
  have hbel : Below w.heap.size w w5 := ⟨M.below.os.trans hb0.os.symm, M.below.tape.trans hb0.tape.symm, M.below.output.trans hb0.output.symm, OF.size, fun b hb => OF.blk b hb (fun h => by cases h)⟩
  clear M OF
  go_wp2
  refine bodyPost_ret (results_two (a := 2) (b := 3) (ty := 38) (ty' := 38) rfl rfl rfl c1 c2 Tryz.underlying38 Tryz.underlying38 rfl rfl (by kernel_rfl) (by kernel_rfl)) rfl ?_
  exact ⟨rfl, hbel⟩
def snoise : List Int := [78, 111, 105, 115, 101, 95, 73, 75, 95, 50, 53, 53, 49, 57, 95, 67, 104, 97, 67, 104, 97, 80, 111, 108, 121, 95, 66, 76, 65, 75, 69, 50, 115]
def sbeg (f : Nat → Int) : Sym := ⟨f, f, fun _ => 0, false, 0⟩
def snew : Sym := sbeg (bhash 33 (bl snoise))
theorem snoise_in : Byts snoise := by unfold Byts snoise; decide
theorem snew_w : SymW snew := ⟨bhash_in _ _ _, bhash_in _ _ _, fun _ _ => ⟨Int.le_refl _, show (0 : Int) < 256 by decide⟩⟩
theorem stc_one (s : Sym) : ∀ u ∈ stc s, u.oneCell' = true := fun u hu => by
  unfold stc at hu
  rcases List.mem_append.1 hu with h | h
  · exact row_one .u8 32 s.h u h
  rcases List.mem_append.1 h with h | h
  · exact row_one .u8 32 s.c u h
  rcases List.mem_append.1 h with h | h
  · exact row_one .u8 32 s.k u h
  rcases List.mem_cons.1 h with rfl | h
  · rfl
  obtain rfl := List.mem_singleton.1 h
  rfl
theorem rclone_any (w0 w : World) (R : Nat) (l : List (Nat × List Value)) (s : Sym) (M : Mm w0 ((R, stc s) :: l) w) :
    Calls Tryz.prog 14 #[.pointer (some ⟨R, 0, none⟩)] w fun e w' => ∃ Q, e = .returned (.pointer (some ⟨Q, 0, none⟩)) ∧ w.heap.size ≤ Q ∧ Mm w0 ((Q, stc s) :: (R, stc s) :: l) w' ∧ Below w.heap.size w w' := by
  have OF := Off.refl [] w
  have hb0 := M.below
  go_enter Tryz.func14, Tryz.ntmps14
  go_upto_region 0 with fail
  refine wp_region_list ?_
  refine readL (.pointer none) rfl (by kernel_rfl) ?_
  simp only [aP, lI, l0, lS]
  first | show Exit.then _ _ _ _ _ | show Exit.inBlock _ _ _ _ _
  go_upto_region 1 with fail
  refine wp_region_list ?_
  refine readL (.pointer (some ⟨R, 0, none⟩)) rfl (by kernel_rfl) ?_
  simp only [aP, lI, l0, lS]
  refine readL (.pointer (some ⟨R, 0, none⟩)) rfl (by kernel_rfl) ?_
  simp only [aP, lI, l0, lS]
  refine readL (.agg (stc s).toArray) rfl (loadN 43 _ ⟨R, 0, none⟩ (stc s) rfl rfl (fun _ => by kernel_rfl) (fun _ => by rw [stc_len]; kernel_rfl) (M.part mS 0 _ (by rw [List.drop_zero, List.take_length]))) ?_
  simp only [aP, lI, l0, lS]
  have hz0_ := OF.size
  refine actL (w' := w.alloc (.cells #[.int .u8 0, .int .u8 0, .int .u8 0, .int .u8 0, .int .u8 0, .int .u8 0, .int .u8 0, .int .u8 0, .int .u8 0, .int .u8 0, .int .u8 0, .int .u8 0, .int .u8 0, .int .u8 0, .int .u8 0, .int .u8 0, .int .u8 0, .int .u8 0, .int .u8 0, .int .u8 0, .int .u8 0, .int .u8 0, .int .u8 0, .int .u8 0, .int .u8 0, .int .u8 0, .int .u8 0, .int .u8 0, .int .u8 0, .int .u8 0, .int .u8 0, .int .u8 0, .int .u8 0, .int .u8 0, .int .u8 0, .int .u8 0, .int .u8 0, .int .u8 0, .int .u8 0, .int .u8 0, .int .u8 0, .int .u8 0, .int .u8 0, .int .u8 0, .int .u8 0, .int .u8 0, .int .u8 0, .int .u8 0, .int .u8 0, .int .u8 0, .int .u8 0, .int .u8 0, .int .u8 0, .int .u8 0, .int .u8 0, .int .u8 0, .int .u8 0, .int .u8 0, .int .u8 0, .int .u8 0, .int .u8 0, .int .u8 0, .int .u8 0, .int .u8 0, .int .u8 0, .int .u8 0, .int .u8 0, .int .u8 0, .int .u8 0, .int .u8 0, .int .u8 0, .int .u8 0, .int .u8 0, .int .u8 0, .int .u8 0, .int .u8 0, .int .u8 0, .int .u8 0, .int .u8 0, .int .u8 0, .int .u8 0, .int .u8 0, .int .u8 0, .int .u8 0, .int .u8 0, .int .u8 0, .int .u8 0, .int .u8 0, .int .u8 0, .int .u8 0, .int .u8 0, .int .u8 0, .int .u8 0, .int .u8 0, .int .u8 0, .int .u8 0, .bool false, .int .i64 0] 43)) (.pointer (some ⟨w.heap.size, 0, none⟩)) rfl (by kernel_rfl) ?_
  simp only [aP, lI, l0, lS]
  have hlb := (Below.refl w.heap.size w).alloc (Nat.le_refl _) (.cells #[.int .u8 0, .int .u8 0, .int .u8 0, .int .u8 0, .int .u8 0, .int .u8 0, .int .u8 0, .int .u8 0, .int .u8 0, .int .u8 0, .int .u8 0, .int .u8 0, .int .u8 0, .int .u8 0, .int .u8 0, .int .u8 0, .int .u8 0, .int .u8 0, .int .u8 0, .int .u8 0, .int .u8 0, .int .u8 0, .int .u8 0, .int .u8 0, .int .u8 0, .int .u8 0, .int .u8 0, .int .u8 0, .int .u8 0, .int .u8 0, .int .u8 0, .int .u8 0, .int .u8 0, .int .u8 0, .int .u8 0, .int .u8 0, .int .u8 0, .int .u8 0, .int .u8 0, .int .u8 0, .int .u8 0, .int .u8 0, .int .u8 0, .int .u8 0, .int .u8 0, .int .u8 0, .int .u8 0, .int .u8 0, .int .u8 0, .int .u8 0, .int .u8 0, .int .u8 0, .int .u8 0, .int .u8 0, .int .u8 0, .int .u8 0, .int .u8 0, .int .u8 0, .int .u8 0, .int .u8 0, .int .u8 0, .int .u8 0, .int .u8 0, .int .u8 0, .int .u8 0, .int .u8 0, .int .u8 0, .int .u8 0, .int .u8 0, .int .u8 0, .int .u8 0, .int .u8 0, .int .u8 0, .int .u8 0, .int .u8 0, .int .u8 0, .int .u8 0, .int .u8 0, .int .u8 0, .int .u8 0, .int .u8 0, .int .u8 0, .int .u8 0, .int .u8 0, .int .u8 0, .int .u8 0, .int .u8 0, .int .u8 0, .int .u8 0, .int .u8 0, .int .u8 0, .int .u8 0, .int .u8 0, .int .u8 0, .int .u8 0, .int .u8 0, .bool false, .int .i64 0] 43)
  replace OF := OF.below hlb
  clear hlb
  have hB_B1 : w0.heap.size ≤ w.heap.size := M.below.size
  replace M := M.box #[.int .u8 0, .int .u8 0, .int .u8 0, .int .u8 0, .int .u8 0, .int .u8 0, .int .u8 0, .int .u8 0, .int .u8 0, .int .u8 0, .int .u8 0, .int .u8 0, .int .u8 0, .int .u8 0, .int .u8 0, .int .u8 0, .int .u8 0, .int .u8 0, .int .u8 0, .int .u8 0, .int .u8 0, .int .u8 0, .int .u8 0, .int .u8 0, .int .u8 0, .int .u8 0, .int .u8 0, .int .u8 0, .int .u8 0, .int .u8 0, .int .u8 0, .int .u8 0, .int .u8 0, .int .u8 0, .int .u8 0, .int .u8 0, .int .u8 0, .int .u8 0, .int .u8 0, .int .u8 0, .int .u8 0, .int .u8 0, .int .u8 0, .int .u8 0, .int .u8 0, .int .u8 0, .int .u8 0, .int .u8 0, .int .u8 0, .int .u8 0, .int .u8 0, .int .u8 0, .int .u8 0, .int .u8 0, .int .u8 0, .int .u8 0, .int .u8 0, .int .u8 0, .int .u8 0, .int .u8 0, .int .u8 0, .int .u8 0, .int .u8 0, .int .u8 0, .int .u8 0, .int .u8 0, .int .u8 0, .int .u8 0, .int .u8 0, .int .u8 0, .int .u8 0, .int .u8 0, .int .u8 0, .int .u8 0, .int .u8 0, .int .u8 0, .int .u8 0, .int .u8 0, .int .u8 0, .int .u8 0, .int .u8 0, .int .u8 0, .int .u8 0, .int .u8 0, .int .u8 0, .int .u8 0, .int .u8 0, .int .u8 0, .int .u8 0, .int .u8 0, .int .u8 0, .int .u8 0, .int .u8 0, .int .u8 0, .int .u8 0, .int .u8 0, .bool false, .int .i64 0] 43 w.heap.size rfl
  generalize w.alloc (.cells #[.int .u8 0, .int .u8 0, .int .u8 0, .int .u8 0, .int .u8 0, .int .u8 0, .int .u8 0, .int .u8 0, .int .u8 0, .int .u8 0, .int .u8 0, .int .u8 0, .int .u8 0, .int .u8 0, .int .u8 0, .int .u8 0, .int .u8 0, .int .u8 0, .int .u8 0, .int .u8 0, .int .u8 0, .int .u8 0, .int .u8 0, .int .u8 0, .int .u8 0, .int .u8 0, .int .u8 0, .int .u8 0, .int .u8 0, .int .u8 0, .int .u8 0, .int .u8 0, .int .u8 0, .int .u8 0, .int .u8 0, .int .u8 0, .int .u8 0, .int .u8 0, .int .u8 0, .int .u8 0, .int .u8 0, .int .u8 0, .int .u8 0, .int .u8 0, .int .u8 0, .int .u8 0, .int .u8 0, .int .u8 0, .int .u8 0, .int .u8 0, .int .u8 0, .int .u8 0, .int .u8 0, .int .u8 0, .int .u8 0, .int .u8 0, .int .u8 0, .int .u8 0, .int .u8 0, .int .u8 0, .int .u8 0, .int .u8 0, .int .u8 0, .int .u8 0, .int .u8 0, .int .u8 0, .int .u8 0, .int .u8 0, .int .u8 0, .int .u8 0, .int .u8 0, .int .u8 0, .int .u8 0, .int .u8 0, .int .u8 0, .int .u8 0, .int .u8 0, .int .u8 0, .int .u8 0, .int .u8 0, .int .u8 0, .int .u8 0, .int .u8 0, .int .u8 0, .int .u8 0, .int .u8 0, .int .u8 0, .int .u8 0, .int .u8 0, .int .u8 0, .int .u8 0, .int .u8 0, .int .u8 0, .int .u8 0, .int .u8 0, .int .u8 0, .bool false, .int .i64 0] 43) = w1 at M OF ⊢
  generalize eB : w.heap.size = B1 at M hB_B1  ⊢
  have hE_B1 : w.heap.size ≤ B1 := Nat.le_of_eq eB
  have hF_B1 : B1 ≤ w.heap.size := Nat.le_of_eq eB.symm
  clear eB
  replace M : Mm w0 ((B1, [.int .u8 0, .int .u8 0, .int .u8 0, .int .u8 0, .int .u8 0, .int .u8 0, .int .u8 0, .int .u8 0, .int .u8 0, .int .u8 0, .int .u8 0, .int .u8 0, .int .u8 0, .int .u8 0, .int .u8 0, .int .u8 0, .int .u8 0, .int .u8 0, .int .u8 0, .int .u8 0, .int .u8 0, .int .u8 0, .int .u8 0, .int .u8 0, .int .u8 0, .int .u8 0, .int .u8 0, .int .u8 0, .int .u8 0, .int .u8 0, .int .u8 0, .int .u8 0, .int .u8 0, .int .u8 0, .int .u8 0, .int .u8 0, .int .u8 0, .int .u8 0, .int .u8 0, .int .u8 0, .int .u8 0, .int .u8 0, .int .u8 0, .int .u8 0, .int .u8 0, .int .u8 0, .int .u8 0, .int .u8 0, .int .u8 0, .int .u8 0, .int .u8 0, .int .u8 0, .int .u8 0, .int .u8 0, .int .u8 0, .int .u8 0, .int .u8 0, .int .u8 0, .int .u8 0, .int .u8 0, .int .u8 0, .int .u8 0, .int .u8 0, .int .u8 0, .int .u8 0, .int .u8 0, .int .u8 0, .int .u8 0, .int .u8 0, .int .u8 0, .int .u8 0, .int .u8 0, .int .u8 0, .int .u8 0, .int .u8 0, .int .u8 0, .int .u8 0, .int .u8 0, .int .u8 0, .int .u8 0, .int .u8 0, .int .u8 0, .int .u8 0, .int .u8 0, .int .u8 0, .int .u8 0, .int .u8 0, .int .u8 0, .int .u8 0, .int .u8 0, .int .u8 0, .int .u8 0, .int .u8 0, .int .u8 0, .int .u8 0, .int .u8 0, .bool false, .int .i64 0]) :: (R, stc s) :: l) w1 := M
  have hW_B1 : w.heap.size ≤ B1 := by omega
  clear hz0_
  refine skipOpL rfl (storeP (stc s) B1 0 43 _ _ rfl rfl rfl (M.thereP mS 0 98 (Nat.le_of_ble_eq_true rfl)) (by rw [List.size_toArray, stc_len]; kernel_rfl) (stc_one _)) ?_
  simp only [Act.put]
  replace M := M.setAll (stc s) (by rw [stc_len]; rfl)
  replace OF := OF.and1 ((Off.refl [B1] _).setAll mS 0 (stc s)) (.inr (by omega))
  generalize w1.setCells B1 0 (stc s) = w2 at M OF ⊢
  first | show Exit.then _ _ _ _ _ | show Exit.inBlock _ _ _ _ _
  go_upto_region 2 with fail
  refine wp_region_list ?_
  refine readL (.pointer (some ⟨B1, 0, none⟩)) rfl (by kernel_rfl) ?_
  simp only [aP, lI, l0, lS]
  first | show Exit.then _ _ _ _ _ | show Exit.inBlock _ _ _ _ _
  have hbel : Below w.heap.size w w2 := ⟨M.below.os.trans hb0.os.symm, M.below.tape.trans hb0.tape.symm, M.below.output.trans hb0.output.symm, OF.size, fun b hb => OF.blk b hb (fun h => by cases h)⟩
  have HS := show Hid _ from (And.intro hW_B1 (And.intro M hbel))
  clear M OF hbel hW_B1
  go_wp2
  go_ret
  exact ⟨_, rfl, HS.out⟩
theorem rnew_any (w0 w : World) (l : List (Nat × List Value)) (M : Mm w0 l w) :
    Calls Tryz.prog 6 #[] w fun e w' => ∃ Q, e = .returned (.pointer (some ⟨Q, 0, none⟩)) ∧ w.heap.size ≤ Q ∧ Mm w0 ((Q, stc snew) :: l) w' ∧ Below w.heap.size w w' := by
  obtain ⟨f, hf⟩ : ∃ f, f = bhash 33 (bl snoise) := ⟨_, rfl⟩
  rw [show snew = sbeg f by rw [hf]; rfl]
  have OF := Off.refl [] w
  have hb0 := M.below
  go_enter Tryz.func6, Tryz.ntmps6
  go_upto_region 0 with fail
  refine wp_region_list ?_
  refine readL (.pointer none) rfl (by kernel_rfl) ?_
  simp only [aP, lI, l0]
  first | show Exit.then _ _ _ _ _ | show Exit.inBlock _ _ _ _ _
  go_upto_region 1 with fail
  refine wp_region_list ?_
  refine actL (w' := w.alloc (.cells (row .u8 33 (bl snoise)).toArray 5)) (.slice (some ⟨w.heap.size, 0, none⟩) 33 33) rfl (by kernel_rfl) ?_
  simp only [aP, lI, l0, lS]
  refine actL (.slice (some ⟨w.heap.size, 0, none⟩) 33 33) rfl (conv_const 28 5 (row .u8 33 (bl snoise)).toArray 33 33 _ rfl rfl Tryz.underlying28 Tryz.underlying5) ?_
  simp only [aP, lI, l0, lS]
  have hsrc := (has_marked w .u8 33 (bl snoise) 5).src0
  have hlb := (Below.refl w.heap.size w).alloc (Nat.le_refl _) (.cells (row .u8 33 (bl snoise)).toArray 5 ((row .u8 33 (bl snoise)).toArray.size, (row .u8 33 (bl snoise)).toArray.size + 1))
  replace M := M.call hlb
  replace OF := OF.below hlb
  clear hlb
  generalize w.alloc (.cells (row .u8 33 (bl snoise)).toArray 5 ((row .u8 33 (bl snoise)).toArray.size, (row .u8 33 (bl snoise)).toArray.size + 1)) = w1 at M hsrc OF ⊢
  refine callL rfl (fun _ => by kernel_rfl) (refHash_any (some ⟨w.heap.size, 0, none⟩) 33 33 (by decide) (fun e => by cases e) (bl snoise) snoise_in.bl _ hsrc) ?_
  rintro e w2 ⟨rfl, l1⟩
  replace M := M.call l1
  replace OF := OF.below l1
  clear l1 hsrc
  rw [← hf]
  refine ⟨_, rfl, ?_⟩
  simp only [aP, lI, l0, lS]
  have hz0_ := OF.size
  refine actL (w' := w2.alloc (.cells zu8_32 38)) (.pointer (some ⟨w2.heap.size, 0, none⟩)) rfl (by kernel_rfl) ?_
  simp only [aP, lI, l0, lS]
  have hlb := (Below.refl w2.heap.size w2).alloc (Nat.le_refl _) (.cells zu8_32 38)
  replace OF := OF.below hlb
  clear hlb
  have hB_B3 : w0.heap.size ≤ w2.heap.size := M.below.size
  replace M := M.box zu8_32 38 w2.heap.size rfl
  generalize w2.alloc (.cells zu8_32 38) = w3 at M OF ⊢
  generalize eB : w2.heap.size = B3 at M hB_B3  ⊢
  have hE_B3 : w2.heap.size ≤ B3 := Nat.le_of_eq eB
  have hF_B3 : B3 ≤ w2.heap.size := Nat.le_of_eq eB.symm
  clear eB
  replace M : Mm w0 ((B3, [.int .u8 0, .int .u8 0, .int .u8 0, .int .u8 0, .int .u8 0, .int .u8 0, .int .u8 0, .int .u8 0, .int .u8 0, .int .u8 0, .int .u8 0, .int .u8 0, .int .u8 0, .int .u8 0, .int .u8 0, .int .u8 0, .int .u8 0, .int .u8 0, .int .u8 0, .int .u8 0, .int .u8 0, .int .u8 0, .int .u8 0, .int .u8 0, .int .u8 0, .int .u8 0, .int .u8 0, .int .u8 0, .int .u8 0, .int .u8 0, .int .u8 0, .int .u8 0]) :: l) w3 := M
  have hW_B3 : w.heap.size ≤ B3 := by omega
  clear hz0_
  refine skipOpL rfl (storeP (row .u8 32 f) B3 0 38 _ _ rfl rfl rfl (M.thereP mS 0 32 (Nat.le_of_ble_eq_true rfl)) (by rw [List.size_toArray, row32]; kernel_rfl) (row_one .u8 32 _)) ?_
  simp only [Act.put]
  replace M := M.setAll (row .u8 32 f) (by rw [row32]; rfl)
  replace OF := OF.and1 ((Off.refl [B3] _).setAll mS 0 (row .u8 32 f)) (.inr (by omega))
  generalize w3.setCells B3 0 (row .u8 32 f) = w4 at M OF ⊢
  first | show Exit.then _ _ _ _ _ | show Exit.inBlock _ _ _ _ _
  go_upto_region 2 with fail
  refine wp_region_list ?_
  refine readL (.agg (row .u8 32 f).toArray) rfl (loadN 38 _ ⟨B3, 0, none⟩ (row .u8 32 f) rfl rfl (fun _ => by kernel_rfl) (fun _ => by rw [row32]; kernel_rfl) (M.part mS 0 _ (by rw [List.drop_zero, List.take_length]))) ?_
  simp only [aP, lI, l0, lS]
  refine readL (.agg (row .u8 32 f).toArray) rfl (loadN 38 _ ⟨B3, 0, none⟩ (row .u8 32 f) rfl rfl (fun _ => by kernel_rfl) (fun _ => by rw [row32]; kernel_rfl) (M.part mS 0 _ (by rw [List.drop_zero, List.take_length]))) ?_
  simp only [aP, lI, l0, lS]
  refine readL (.agg (stc (sbeg f)).toArray) rfl (by kernel_rfl) ?_
  simp only [aP, lI, l0, lS]
  refine actL (w' := w4.alloc (.cells (stc (sbeg f)).toArray 43)) (.pointer (some ⟨w4.heap.size, 0, none⟩)) rfl (by kernel_rfl) ?_
  simp only [aP, lI, l0, lS]
  have hW_B5 : w.heap.size ≤ w4.heap.size := OF.size
  replace OF := OF.below ((Below.refl w4.heap.size w4).alloc (Nat.le_refl _) (.cells (stc (sbeg f)).toArray 43))
  replace M := M.box (stc (sbeg f)).toArray 43 w4.heap.size rfl
  generalize w4.alloc (.cells (stc (sbeg f)).toArray 43) = w5 at M OF ⊢
  generalize w4.heap.size = B5 at M hW_B5 ⊢
  replace M : Mm w0 ((B5, stc (sbeg f)) :: (B3, row .u8 32 f) :: l) w5 := M
  refine readL (.pointer (some ⟨B5, 0, none⟩)) rfl (by kernel_rfl) ?_
  simp only [aP, lI, l0]
  first | show Exit.then _ _ _ _ _ | show Exit.inBlock _ _ _ _ _
  replace M := M.drop2
  have hbel : Below w.heap.size w w5 := ⟨M.below.os.trans hb0.os.symm, M.below.tape.trans hb0.tape.symm, M.below.output.trans hb0.output.symm, OF.size, fun b hb => OF.blk b hb (fun h => by cases h)⟩
  have HS := show Hid _ from (And.intro hW_B5 (And.intro M hbel))
  clear M OF hbel hW_B5
  go_wp2
  go_ret
  exact ⟨_, rfl, HS.out⟩
section
def SumOK : Prop := ∀ (k : Nat → Int), In 256 32 k → ∀ (sp : Option Addr) (len cap : Nat), len ≤ 281474976710656 → len ≤ cap → ∀ z : Nat → Int, In 256 len z → ∀ w : World, Glob w → Src w sp len z →
    Calls Tryz.prog 52 #[(.agg (row .u8 32 (k)).toArray), .slice sp len cap] w fun e w' => ∃ f : Nat → Int, e = .returned (.agg (row .u8 16 (f)).toArray) ∧ (In 256 16 f ∧ val 256 f 16 = ptag k len z) ∧ Below w.heap.size w w'
def SameOK : Prop := ∀ a b : Nat → Int, In 256 16 a → In 256 16 b → ∀ w : World, Glob w →
    Calls Tryz.prog 43 #[(.agg (row .u8 16 (a)).toArray), (.agg (row .u8 16 (b)).toArray)] w fun e w' => e = .returned (.bool (decide (val 256 a 16 = val 256 b 16))) ∧ Below w.heap.size w w'
section
variable {w w' w'' : World} {m : Nat} {l : List (Nat × IntKind × Nat × (Nat → Int))} {R : List (Nat × Nat)} {sp : Option Addr} {len : Nat} {z : Nat → Int}
end
end
structure AGlob (w : World) : Prop where
  h : HGlob w
  c : Glob w
theorem AGlob.size {w : World} (g : AGlob w) : 7 ≤ w.heap.size := g.h.size
theorem AGlob.below {w w' : World} (g : AGlob w) {B : Nat} (l : Below B w w') (hB : 7 ≤ B) : AGlob w' := ⟨g.h.below l hB, g.c.below l hB⟩
def ASealOK : Prop := ∀ (k n : Nat → Int), In 256 32 k → In 256 12 n → ∀ (bp : Option Addr) (bl bc : Nat), bl ≤ 140737488351232 → bl ≤ bc → (bp = none → bc = 0) → ∀ b : Nat → Int, In 256 bl b → ∀ (sp : Option Addr) (len cap : Nat), len ≤ 140737488351232 → len ≤ cap → (sp = none → cap = 0) → ∀ z : Nat → Int, In 256 len z → ∀ w : World, AGlob w → Src w bp bl b → Src w sp len z →
    Calls Tryz.prog 27 #[(.agg (row .u8 32 (k)).toArray), (.agg (row .u8 12 (n)).toArray), .slice bp bl bc, .slice sp len cap] w fun e w' => ∃ B cap', e = .returned (.slice (some ⟨B, 0, none⟩) (len + 16) cap') ∧ (len + 16 ≤ cap' ∧ w.heap.size ≤ B ∧ B < w'.heap.size ∧ Has w' B .u8 (len + 16) (aout k n bl b len z)) ∧ Below w.heap.size w w'
section
def vcap : Value → Nat
  | .slice _ _ c => c
  | _ => 0
section
variable {P : Program}
theorem run_append_Room {w : World} {base : Nat} {t ty e : TypeId} {k : IntKind} {bytes n : Nat} {f : Nat → Int} {v : Value} (ht : P.underlying t = some (.slice e)) (he : One P e k bytes) (h : Own w base e k n f v)
    (sp : Option Addr) (m c : Nat) (hv : Nat → Int) (hs : ∀ j, j < m → ∃ ad, sp = some ad ∧ w.cell? (ad.add j) = some (.int k (hv j))) (hz : sp = none → c = 0) (hroom : n + m ≤ vcap v) :
    ∃ v' w', (Builtin.append_ #[t, t] ty #[v, .slice sp m c]).run P w = .ok v' w' ∧ Own w' base e k (n + m) (app f n hv) v' ∧ w.grownBy w' v.ownBlock ∧ vcap v' = vcap v ∧ v'.ownBlock = v.ownBlock := by
  obtain ⟨i, hi, hq⟩ := Option.map_eq_some_iff.1 he.info
  simp only [Prod.mk.injEq] at hq
  obtain ⟨_, _, h3⟩ := hq
  cases sp with
  | none =>
    have hm : m = 0 := by
      rcases Nat.eq_zero_or_pos m with h0 | h0
      · exact h0
      · obtain ⟨ad, e, _⟩ := hs 0 h0; cases e
    subst hm
    obtain rfl := hz rfl
    exact ⟨v, w, run_append_owned_none (P := P) (w := w) base t ty e i 1 ht hi v n _ h, h.congr fun j hj => by unfold app; rw [if_pos hj], ⟨rfl, rfl, rfl, Nat.le_refl _, fun _ _ _ => rfl⟩, rfl, rfl⟩
  | some ad =>
    have hnews : ∀ j u, (row k m hv)[j]? = some u → w.cell? (ad.add j) = some u := fun j u hu => by
      obtain ⟨hj, rfl⟩ := row_get_some hu
      obtain ⟨ad', e', hc⟩ := hs j hj
      injection e' with e'
      subst e'
      exact hc
    have hml : (row k m hv).length = m * i.size := by rw [row_length, h3, Nat.mul_one]
    have hlen : (row k n f ++ row k m hv).length = (n + m) * 1 := by rw [List.length_append, row_length, row_length, Nat.mul_one]
    rcases h.2 with ⟨rfl, rfl⟩ | ⟨g, cap, cur, rfl, hbg, hgg, hnc, hcm, hcs, htake⟩
    · have hm : m = 0 := by simp only [vcap] at hroom; omega
      subst hm
      refine ⟨.slice none 0 0, w, ?_, h.congr fun j hj => absurd hj (Nat.not_lt_zero j), ⟨rfl, rfl, rfl, Nat.le_refl _, fun _ _ _ => rfl⟩, rfl, rfl⟩
      simp [Builtin.append_, run_underlying ht, sizeOf, typeInfo, hi, Builtin.lenOf, Builtin.firstCells, loadCells, loadCellsFrom]
    · have hroom' : n + m ≤ cap := hroom
      have hr2 := run_append_room (P := P) w t ty e i ht hi g n cap cur hgg ad m c (row k m hv) hml hnews (row_one k m hv) hroom' (by rw [hml, hcs, h3]; omega)
      refine ⟨_, _, hr2, ?_, ⟨rfl, rfl, rfl, by simp, fun q _ hq => setRow_other w g q _ (fun e => hq (by simp [Value.ownBlock, e]))⟩, rfl, rfl⟩
      unfold Own
      rw [← row_app]
      rw [Nat.mul_one] at htake hcs
      refine ⟨hlen, .inr ⟨g, cap, _, rfl, hbg, setRow_heap w g cur _ e _ hgg, hroom', hcm, ?_, ?_⟩⟩
      · simp only [List.size_toArray, List.length_append, List.length_take, List.length_drop, Array.length_toList, row_length, h3, Nat.mul_one]
        omega
      · simp only [h3, Nat.mul_one, htake]
        have e2 : n + m = (row k n f ++ row k m hv).length := by rw [hlen, Nat.mul_one]
        rw [e2]
        exact List.take_left
theorem run_append_full {w : World} {t u ty e : TypeId} (ht : P.underlying t = some (.slice e)) (hu : P.underlying u = some (.int .i64)) (he : One P e .u8 1) (sp : Option Addr) (len : Nat) (z : Nat → Int) (hs : Src w sp len z) (m : Nat) (hm : m ≤ 281474976710656) (hl : len + m + (len + m) / 4 + 192 ≤ 281474976710656) :
    ∃ sp' cap' w', (Builtin.append_ #[t, u] ty #[.slice sp len len, .int .i64 (m : Int)]).run P w = .ok (.slice sp' (len + m) cap') w' ∧ len + m ≤ cap' ∧ Src w' sp' (len + m) (padz len z) ∧ Below w.heap.size w w' ∧ (sp' = none → cap' = 0) := by
  obtain ⟨i, hi, hq⟩ := Option.map_eq_some_iff.1 he.info
  simp only [Prod.mk.injEq] at hq
  obtain ⟨h1, h2, h3⟩ := hq
  rcases Nat.eq_zero_or_pos m with h0 | h0
  · subst h0
    refine ⟨sp, len, w, ?_, Nat.le_refl _, hs.congr (fun j hj => by unfold padz; rw [if_pos hj]), Below.refl _ _, fun e => hs.none e⟩
    have hasI' : ∀ w, (asInt (.int .i64 0)).run P w = .ok 0 w := fun w => by simp [asInt, asIntOf]
    cases sp with
    | none => simp [Builtin.append_, run_underlying ht, run_underlying hu, sizeOf, typeInfo, hi, h2, hasI', IntKind.wrap_i64]
    | some ad => simp [Builtin.append_, run_underlying ht, run_underlying hu, sizeOf, typeInfo, hi, h2, hasI', IntKind.wrap_i64, storeCells]
  · have hold : (Builtin.firstCells i.size len (.slice sp len len)).run P w.drew = .ok (row .u8 len z).toArray w.drew := by
      cases sp with
      | none =>
        obtain rfl := hs.none rfl
        rfl
      | some ad =>
        rw [h3]
        exact run_firstCells_some (P := P) w.drew 1 len ad len len (row .u8 len z) (by rw [row_length, Nat.mul_one]) (fun j u hj => by
          obtain ⟨hjl, rfl⟩ := row_get_some hj
          obtain ⟨ad', he', hc⟩ := hs j hjl
          injection he' with he'
          subst he'
          exact hc)
    have hr := Lib.run_append_grow_zeros (P := P) w t u ty e i (.int .u8 0) .i64 .i64 ht hu hi h1 sp len len (row .u8 len z) hold m h0 (by rw [h3]; decide) (by omega) (by omega) (by rw [h2]; omega) (by rw [h2]; exact growslice_fits_wide (by omega) (by omega))
    have hge := grownCap_ge w (len + m) len e
    refine ⟨_, _, _, hr, hge, fun j hj => ⟨_, rfl, ?_⟩, (Below.refl _ _).drew.alloc (Nat.le_refl _) _, fun e => by cases e⟩
    rw [Addr.add_mid, Nat.zero_add]
    show (w.drew.alloc _).cell? ⟨w.drew.heap.size, j, none⟩ = _
    rw [World.cell?_alloc_at _ _ _ _ rfl, zeros_row]
    unfold padz
    by_cases ej : j < len
    · rw [if_pos ej]
      rw [Array.append_assoc, Array.getElem?_append_left (by rw [List.size_toArray, row_length]; exact ej)]
      simpa using row_get .u8 len z j ej
    · rw [if_neg ej]
      rw [Array.getElem?_append_left (by rw [Array.size_append, List.size_toArray, List.size_toArray, row_length, row_length]; exact hj), Array.getElem?_append_right (by rw [List.size_toArray, row_length]; omega), List.size_toArray, row_length]
      simpa using row_get .u8 m (fun _ => 0) (j - len) (by omega)
end
section
variable {P : Program} {o : Oper} {a : Act}
theorem cut_full {t : TypeId} (ht : P.underlying t = some (.slice (P.elem t))) (hsz : ∀ w, (sizeOf (P.elem t)).run P w = .ok 1 w) (sp : Option Addr) (len cap : Nat) (hc : len ≤ cap) :
    ∃ sp', (∀ w, (Instr.sliceAt t (.slice sp len cap) none (some (.int .i64 (len : Int))) (some (.int .i64 (len : Int)))).run P w = .ok (.slice sp' len len) w) ∧ ∀ w z, Src w sp len z → Src w sp' len z := by
  refine ⟨if len = 0 then sp else sp.map (·.add (0 * 1)), fun w => ?_, fun w z h j hj => ?_⟩
  · rw [run_sliceAt_slice w t _ _ _ _ ht, run_slice_hm w t sp len cap ht .i64 .i64 (len : Int) (len : Int) (by omega) (by omega) (by omega), hsz]
    simp only [Result.andThen, sliced, Int.toNat_natCast, Nat.sub_zero]
  · obtain ⟨ad, rfl, hc'⟩ := h j (by omega)
    rw [if_neg (by omega)]
    exact ⟨ad.add (0 * 1), rfl, by rw [Nat.zero_mul, Addr.add_add, Nat.zero_add]; exact hc'⟩
theorem cutHMop {w : World} (t : TypeId) (x y z : Operand) (p q r v : Value) (ho : o.op = .slice t x none (some y) (some z)) (hx : a.eval x = p) (hy : a.eval y = q) (hz : a.eval z = r) (hr : (Instr.sliceAt t p none (some q) (some r)).run P w = .ok v w) :
    (execOp a.eval o).run P w = .ok (.value v) w := by
  unfold execOp
  simp only [ho, hx, hy, hz, Option.map_some, Option.map_none, Sem.run_bind, hr, Result.andThen_ok, Sem.run_pure]
theorem appendNOp {w w' : World} (s x : Operand) (t u : TypeId) (v n r : Value) (ho : o.op = .call { callee := .builtin .append, args := #[s, x], argTypes := #[t, u] }) (hs : a.eval s = v) (hx : a.eval x = n) (hr : (Builtin.append_ #[t, u] o.type #[v, n]).run P w = .ok r w') :
    (execOp a.eval o).run P w = .ok (.value r) w' := by
  unfold execOp
  simp only [ho, resolve, invoke, builtin, Sem.run_bind, Sem.run_pure, Result.andThen_ok, List.map_toArray, List.map_cons, List.map_nil, hs, hx, hr]
end
end
end Go.Proofs.YtgfpflcoknpbdaaGreatDoor
