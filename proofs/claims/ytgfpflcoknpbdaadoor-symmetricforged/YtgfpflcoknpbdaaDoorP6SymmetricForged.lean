/- Texts of Sc Lw Ij Om Ba Bp Az Bb Bt Jz Ja Jl Jb Jc Va Qa Oa Ya Mx My Ob Oc Od Yb Yd Pd Id, joined. -/
import Derived.Test.YtgfpflcoknpbdaaDoorP4SymmetricForged
import Derived.Test.YtgfpflcoknpbdaaDoorP5SymmetricForged
import Derived.BigQuiet
import Derived.Deep.Cut
import Derived.Test.YtgfpflcoknpbdaaDoorProg
import Derived.KernelRfl
import Derived.Test.YtgfpflcoknpbdaaDoorP1SymmetricForged
import Derived.Test.YtgfpflcoknpbdaaDoorP3SymmetricForged
import Derived.Lib.ConvBytes
import Derived.Laws.StructEq
import Derived.Laws.Bits128
import Derived.Laws.Cells
set_option maxRecDepth 20000
set_option maxHeartbeats 64000000
namespace Go.Proofs.YtgfpflcoknpbdaaDoor
open Go.RowKit
section
theorem Src.none {w : World} {sp : Option Addr} {len : Nat} {z : Nat → Int} (h : Src w sp len z) : sp = none → len = 0 := fun e => by
  rcases Nat.eq_zero_or_pos len with h0 | h0
  · exact h0
  · obtain ⟨ad, he, _⟩ := h 0 h0
    rw [e] at he
    cases he
section
variable {P : Program} {o : Oper} {a : Act}
theorem cut_hi {t : TypeId} (ht : P.underlying t = some (.slice (P.elem t))) (hsz : ∀ w, (sizeOf (P.elem t)).run P w = .ok 1 w) (sp : Option Addr) (len cap m : Nat) (hm : m ≤ len) (hc : len ≤ cap) :
    ∃ sp', (∀ w, (Instr.sliceAt t (.slice sp len cap) none (some (.int .i64 (m : Int))) none).run P w = .ok (.slice sp' m cap) w) ∧ ∀ w z, Src w sp len z → Src w sp' m z := by
  refine ⟨if cap = 0 then sp else sp.map (·.add (0 * 1)), fun w => ?_, fun w z h j hj => ?_⟩
  · rw [run_sliceAt_slice w t _ _ _ _ ht, run_slice_h w t sp len cap ht .i64 (m : Int) (by omega) (by omega), hsz]
    simp only [Result.andThen, sliced, Int.toNat_natCast, Nat.sub_zero]
  · obtain ⟨ad, rfl, hc'⟩ := h j (by omega)
    rw [if_neg (by omega)]
    exact ⟨ad.add (0 * 1), rfl, by rw [Nat.zero_mul, Addr.add_add, Nat.zero_add]; exact hc'⟩
theorem cut_lo {t : TypeId} (ht : P.underlying t = some (.slice (P.elem t))) (hsz : ∀ w, (sizeOf (P.elem t)).run P w = .ok 1 w) (sp : Option Addr) (len cap m : Nat) (hm : m ≤ len) (hc : len ≤ cap) :
    ∃ sp', (∀ w, (Instr.sliceAt t (.slice sp len cap) (some (.int .i64 (m : Int))) none none).run P w = .ok (.slice sp' (len - m) (cap - m)) w) ∧ ∀ w z, Src w sp len z → Src w sp' (len - m) (fun j => z (m + j)) := by
  refine ⟨if cap = m then sp else sp.map (·.add (m * 1)), fun w => ?_, fun w z h j hj => ?_⟩
  · rw [run_sliceAt_slice w t _ _ _ _ ht, run_slice_l w t sp len cap ht .i64 (m : Int) (by omega) (by omega), hsz]
    simp only [Result.andThen, sliced, Int.toNat_natCast]
  · obtain ⟨ad, rfl, hc'⟩ := h (m + j) (by omega)
    rw [if_neg (by omega)]
    exact ⟨ad.add (m * 1), rfl, by rw [Nat.mul_one, Addr.add_add]; exact hc'⟩
theorem cut_lh {t : TypeId} (ht : P.underlying t = some (.slice (P.elem t))) (hsz : ∀ w, (sizeOf (P.elem t)).run P w = .ok 1 w) (sp : Option Addr) (len cap l h : Nat) (hl : l ≤ h) (hh : h ≤ len) (hc : len ≤ cap) :
    ∃ sp', (∀ w, (Instr.sliceAt t (.slice sp len cap) (some (.int .i64 (l : Int))) (some (.int .i64 (h : Int))) none).run P w = .ok (.slice sp' (h - l) (cap - l)) w) ∧ ∀ w z, Src w sp len z → Src w sp' (h - l) (fun j => z (l + j)) := by
  refine ⟨if cap = l then sp else sp.map (·.add (l * 1)), fun w => ?_, fun w z hs j hj => ?_⟩
  · rw [run_sliceAt_slice w t _ _ _ _ ht, run_slice_lh w t sp len cap ht .i64 .i64 (l : Int) (h : Int) (by omega) (by omega) (by omega), hsz]
    simp only [Result.andThen, sliced, Int.toNat_natCast]
  · obtain ⟨ad, rfl, hc'⟩ := hs (l + j) (by omega)
    rw [if_neg (by omega)]
    exact ⟨ad.add (l * 1), rfl, by rw [Nat.mul_one, Addr.add_add]; exact hc'⟩
theorem cutLHop {w : World} (t : TypeId) (x y z : Operand) (p q r v : Value) (ho : o.op = .slice t x (some y) (some z) none) (hx : a.eval x = p) (hy : a.eval y = q) (hz : a.eval z = r) (hr : (Instr.sliceAt t p (some q) (some r) none).run P w = .ok v w) :
    (execOp a.eval o).run P w = .ok (.value v) w := by
  unfold execOp
  simp only [ho, hx, hy, hz, Option.map_some, Option.map_none, Sem.run_bind, hr, Result.andThen_ok, Sem.run_pure]
end
end
structure Str (w : World) (b : Nat) (k : Nat → Int) (c : Int) (n : Nat → Int) : Prop where
  key : w.rangeAt b 0 (row .u8 32 k)
  ctr : w.cell? ⟨b, 32, none⟩ = some (.int .u32 c)
  non : w.rangeAt b 33 (row .u8 12 n)
  lt : b < w.heap.size
structure HL (w : World) (b : Nat) (k : Nat → Int) (c : Int) (n : Nat → Int) (L : List (Option Addr × Nat × (Nat → Int))) (w' : World) : Prop where
  st : Str w' b k c n
  src : ∀ p ∈ L, Src w' p.1 p.2.1 p.2.2
  below : Below w.heap.size w w'
theorem xor_twice (x y : Int) (hx : 0 ≤ x ∧ x < 256) (hy : 0 ≤ y ∧ y < 256) : bits .xor .u8 (bits .xor .u8 x y) y = x := by
  obtain ⟨x, rfl⟩ := Int.eq_ofNat_of_zero_le hx.1
  obtain ⟨y, rfl⟩ := Int.eq_ofNat_of_zero_le hy.1
  rw [u8_xor_nat x y (by omega) (by omega), u8_xor_nat _ y (Nat.xor_lt_two_pow (n := 8) (by omega) (by omega)) (by omega), Nat.xor_assoc, Nat.xor_self, Nat.xor_zero]
theorem hxor_twice (k : Nat → Int) (c : Int) (n z : Nat → Int) (m : Nat) (hz : In 256 m z) (j : Nat) (hj : j < m) : hxor k c n (hxor k c n z) j = z j :=
  xor_twice _ _ (hz j hj) (hblk_in _ _ _ 64 _ (Nat.mod_lt _ (by decide)))
theorem aout_lo (k n : Nat → Int) (bl : Nat) (b : Nat → Int) (len : Nat) (z : Nat → Int) (j : Nat) (hj : j < len) : aout k n bl b len z j = hxor k 1 n z j := by
  unfold aout app
  rw [if_pos hj]
theorem aout_hi (k n : Nat → Int) (bl : Nat) (b : Nat → Int) (len : Nat) (z : Nat → Int) (j : Nat) : aout k n bl b len z (len + j) = atag k n bl b len (hxor k 1 n z) j := by
  unfold aout app
  rw [if_neg (by omega), show len + j - len = j by omega]
theorem aback_ok (k n : Nat → Int) (bl : Nat) (b : Nat → Int) (len : Nat) (z : Nat → Int) : aok k n bl b (len + 16) (aout k n bl b len z) := by
  refine ⟨by omega, ?_⟩
  rw [show len + 16 - 16 = len by omega, atg_congr k n bl b b len _ (hxor k 1 n z) (fun _ _ => rfl) (fun j hj => aout_lo k n bl b len z j hj), ← atag_val]
  exact val_congr 256 16 fun j _ => (aout_hi k n bl b len z j).symm
theorem aback_text (k n : Nat → Int) (bl : Nat) (b : Nat → Int) (len : Nat) (z : Nat → Int) (hz : In 256 len z) (j : Nat) (hj : j < len) : hxor k 1 n (aout k n bl b len z) j = z j := by
  have e := hxor_twice k 1 n z len hz j hj
  unfold hxor at e ⊢
  rw [aout_lo k n bl b len z j hj]
  exact e
theorem xor_moves (x y : Int) (hx : 0 ≤ x ∧ x < 256) (hy : 0 ≤ y ∧ y < 256) (h : bits .xor .u8 x y = x) : y = 0 := by
  obtain ⟨x, rfl⟩ := Int.eq_ofNat_of_zero_le hx.1
  obtain ⟨y, rfl⟩ := Int.eq_ofNat_of_zero_le hy.1
  rw [u8_xor_nat x y (by omega) (by omega)] at h
  have h2 : x ^^^ y = x := by omega
  have h3 : x ^^^ (x ^^^ y) = x ^^^ x := by rw [h2]
  rw [← Nat.xor_assoc, Nat.xor_self, Nat.zero_xor] at h3
  omega
theorem aturned_ok (k n : Nat → Int) (bl : Nat) (b : Nat → Int) (len : Nat) (z t f : Nat → Int) (ht : In 256 16 t) (hne : ¬ ∀ j, j < 16 → t j = 0) (hlo : ∀ j, j < len → f j = aout k n bl b len z j) (hhi : ∀ j, j < 16 → f (len + j) = bits .xor .u8 (aout k n bl b len z (len + j)) (t j)) (hf : In 256 (len + 16) f) : ¬ aok k n bl b (len + 16) f := fun h => hne fun j hj => by
  have h2 := h.2
  rw [show len + 16 - 16 = len by omega, atg_congr k n bl b b len f (hxor k 1 n z) (fun _ _ => rfl) (fun j hj => by rw [hlo j hj, aout_lo k n bl b len z j hj]), ← atag_val] at h2
  have h3 := val_inj 256 (by decide) _ _ 16 (atag_in _ _ _ _ _ _ _) (fun j hj => hf (len + j) (by omega)) h2 j hj
  rw [hhi j hj, aout_hi] at h3
  exact xor_moves _ _ (atag_in k n bl b len (hxor k 1 n z) 16 j hj) (ht j hj) h3.symm
theorem aturned_E (k n : Nat → Int) (bl : Nat) (b : Nat → Int) (len : Nat) (f : Nat → Int) (h : ¬ aok k n bl b (len + 16) f) : aoE k n bl b (len + 16) f = 70 := by
  unfold aoE
  rw [if_neg (by omega), if_neg h]
theorem Below.grown {B : Nat} {w w1 w2 : World} (l : Below B w w1) {r : Option Nat} (g : w1.grownBy w2 r) (hB : B ≤ w1.heap.size) (hr : ∀ b, r = some b → B ≤ b) : Below B w w2 :=
  ⟨g.os.trans l.os, g.tape.trans l.tape, g.output.trans l.output, Nat.le_trans l.size g.size, fun j hj => (g.block j (Nat.lt_of_lt_of_le hj hB) (fun e => by have := hr j e.symm; omega)).trans (l.block j hj)⟩
def slen : Value → Nat
  | .slice _ n _ => n
  | _ => 0
theorem Own.nilCap {w : World} {base : Nat} {e : TypeId} {k : IntKind} {n : Nat} {f : Nat → Int} {sp : Option Addr} {c : Nat} (h : Own w base e k n f (.slice sp n c)) : sp = none → c = 0 := fun e => by
  rcases h.2 with ⟨hv, _⟩ | ⟨g, cap, cur, hv, _⟩
  · injection hv
  · injection hv with hv _ _
    rw [e] at hv
    cases hv
theorem Own.lower {w : World} {base base' : Nat} {e : TypeId} {k : IntKind} {n : Nat} {f : Nat → Int} {v : Value} (h : Own w base e k n f v) (hb : base' ≤ base) : Own w base' e k n f v := by
  refine ⟨h.1, ?_⟩
  rcases h.2 with h2 | ⟨g, cap, cur, h1, h2, h3⟩
  · exact .inl h2
  · exact .inr ⟨g, cap, cur, h1, Nat.le_trans hb h2, h3⟩
theorem Own.le {w : World} {base : Nat} {e : TypeId} {k : IntKind} {n : Nat} {f : Nat → Int} {sp : Option Addr} {c : Nat} (h : Own w base e k n f (.slice sp n c)) : n ≤ c := by
  rcases h.2 with ⟨hv, h0⟩ | ⟨g, cap, cur, hv, _, _, hc, _⟩
  · omega
  · injection hv with _ _ hc2
    omega
def mA (a b x : Int) : Int := had (had a b) x
def mD (p : Nat) (d a : Int) : Int := hrl p (hxr d a)
def bA1 (a b x : Int) : Int := mA a b x
def bD1 (a b d x : Int) : Int := mD 16 d (bA1 a b x)
def bC1 (a b c d x : Int) : Int := had c (bD1 a b d x)
def bB1 (a b c d x : Int) : Int := mD 20 b (bC1 a b c d x)
def bA (a b c d x y : Int) : Int := mA (bA1 a b x) (bB1 a b c d x) y
def bD (a b c d x y : Int) : Int := mD 24 (bD1 a b d x) (bA a b c d x y)
def bC (a b c d x y : Int) : Int := had (bC1 a b c d x) (bD a b c d x y)
def bB (a b c d x y : Int) : Int := mD 25 (bB1 a b c d x) (bC a b c d x y)
theorem mD_in (p : Nat) (d a : Int) (hd : 0 ≤ d ∧ d < V) (ha : 0 ≤ a ∧ a < V) : 0 ≤ mD p d a ∧ mD p d a < V := hrl_in _ _ (hxr_in _ _ hd ha)
theorem bA_in (a b c d x y : Int) : 0 ≤ bA a b c d x y ∧ bA a b c d x y < V := had_in _ _
theorem bD1_in (a b d x : Int) (hd : 0 ≤ d ∧ d < V) : 0 ≤ bD1 a b d x ∧ bD1 a b d x < V := mD_in _ _ _ hd (had_in _ _)
theorem bB1_in (a b c d x : Int) (hb : 0 ≤ b ∧ b < V) : 0 ≤ bB1 a b c d x ∧ bB1 a b c d x < V := mD_in _ _ _ hb (had_in _ _)
theorem bD_in (a b c d x y : Int) (hd : 0 ≤ d ∧ d < V) : 0 ≤ bD a b c d x y ∧ bD a b c d x y < V := mD_in _ _ _ (bD1_in a b d x hd) (had_in _ _)
theorem bC_in (a b c d x y : Int) : 0 ≤ bC a b c d x y ∧ bC a b c d x y < V := had_in _ _
theorem bB_in (a b c d x y : Int) (hb : 0 ≤ b ∧ b < V) : 0 ≤ bB a b c d x y ∧ bB a b c d x y < V := mD_in _ _ _ (bB1_in a b c d x hb) (had_in _ _)
def bMx (v : Nat → Int) (a b c d : Nat) (x y : Int) : Nat → Int :=
  upd (upd (upd (upd v a (bA (v a) (v b) (v c) (v d) x y)) b (bB (v a) (v b) (v c) (v d) x y)) c (bC (v a) (v b) (v c) (v d) x y)) d (bD (v a) (v b) (v c) (v d) x y)
theorem bMx_in (v : Nat → Int) (a b c d : Nat) (x y : Int) (hb : b < 16) (hd : d < 16) (h : In V 16 v) : In V 16 (bMx v a b c d x y) :=
  (((h.upd _ _ (bA_in _ _ _ _ _ _).1 (bA_in _ _ _ _ _ _).2).upd _ _ (bB_in _ _ _ _ _ _ (h b hb)).1 (bB_in _ _ _ _ _ _ (h b hb)).2).upd _ _ (bC_in _ _ _ _ _ _).1 (bC_in _ _ _ _ _ _).2).upd _ _ (bD_in _ _ _ _ _ _ (h d hd)).1 (bD_in _ _ _ _ _ _ (h d hd)).2
def sgL : List Nat := [0, 1, 2, 3, 4, 5, 6, 7, 8, 9, 10, 11, 12, 13, 14, 15, 14, 10, 4, 8, 9, 15, 13, 6, 1, 12, 0, 2, 11, 7, 5, 3, 11, 8, 12, 0, 5, 2, 15, 13, 10, 14, 3, 6, 7, 1, 9, 4, 7, 9, 3, 1, 13, 12, 11, 14, 2, 6, 5, 10, 4, 0, 15, 8, 9, 0, 5, 7, 2, 4, 10, 15, 14, 1, 11, 12, 6, 8, 3, 13, 2, 12, 6, 10, 0, 11, 8, 3, 4, 13, 7, 5, 15, 14, 1, 9, 12, 5, 1, 15, 14, 13, 4, 10, 0, 7, 6, 3, 9, 2, 8, 11, 13, 11, 7, 14, 12, 1, 3, 9, 5, 0, 15, 4, 8, 6, 2, 10, 6, 15, 14, 9, 11, 3, 0, 8, 12, 2, 13, 7, 1, 4, 10, 5, 10, 2, 8, 4, 7, 6, 1, 5, 15, 11, 9, 14, 3, 12, 13, 0]
def sg (r i : Nat) : Nat := sgL.getD (16 * r + i) 0
theorem sg_lt (r i : Nat) : sg r i < 16 := by
  unfold sg
  rw [List.getD_eq_getElem?_getD]
  cases e : sgL[16 * r + i]? with
  | none => simp
  | some x =>
    have h : ∀ x ∈ sgL, x < 16 := by decide +kernel
    simpa using h x (List.mem_of_getElem? e)
def bAt (m : Nat → Int) (s : Nat → Nat) (v : Nat → Int) (i : Nat) : Nat → Int := bMx v (pA i) (pB i) (pC i) (pD i) (m (s (2 * i))) (m (s (2 * i + 1)))
def bN (m : Nat → Int) (s : Nat → Nat) (v : Nat → Int) : Nat → Nat → Int
  | 0 => v
  | i + 1 => bAt m s (bN m s v i) i
def bR (m : Nat → Int) (v : Nat → Int) : Nat → Nat → Int
  | 0 => v
  | r + 1 => bN m (sg r) (bR m v r) 8
theorem bAt_in (m : Nat → Int) (s : Nat → Nat) (v : Nat → Int) (i : Nat) (h : In V 16 v) : In V 16 (bAt m s v i) := bMx_in _ _ _ _ _ _ _ (by have := pB_lt i; omega) (by have := pD_lt i; omega) h
theorem bN_in (m : Nat → Int) (s : Nat → Nat) (v : Nat → Int) (h : In V 16 v) : ∀ i, In V 16 (bN m s v i)
  | 0 => h
  | i + 1 => bAt_in _ _ _ _ (bN_in m s v h i)
theorem bR_in (m : Nat → Int) (v : Nat → Int) (h : In V 16 v) : ∀ r, In V 16 (bR m v r)
  | 0 => h
  | r + 1 => bN_in _ _ _ (bR_in m v h r) 8
def iv : Nat → Int := bl [1779033703, 3144134277, 1013904242, 2773480762, 1359893119, 2600822924, 528734635, 1541459225]
theorem iv_in : In V 8 iv := fun j hj => by
  match j, hj with
  | 0, _ | 1, _ | 2, _ | 3, _ | 4, _ | 5, _ | 6, _ | 7, _ => decide
def bst (h : Nat → Int) (t : Int) (last : Bool) : Nat → Int := six (h 0) (h 1) (h 2) (h 3) (h 4) (h 5) (h 6) (h 7) (iv 0) (iv 1) (iv 2) (iv 3) (hxr (iv 4) (t % 4294967296)) (hxr (iv 5) (t / 4294967296 % 4294967296)) (if last then 4294967295 - iv 6 else iv 6) (iv 7)
def bpw (z : Nat → Int) : Nat → Int := fun i => w32 z (4 * i)
def bpr (h : Nat → Int) (z : Nat → Int) (t : Int) (last : Bool) : Nat → Int := fun i => hxr (hxr (h i) (bR (bpw z) (bst h t last) 10 i)) (bR (bpw z) (bst h t last) 10 (i + 8))
theorem bst_in (h : Nat → Int) (t : Int) (last : Bool) (hh : In V 8 h) : In V 16 (bst h t last) :=
  six_in _ _ _ _ _ _ _ _ _ _ _ _ _ _ _ _ (hh 0 (by omega)) (hh 1 (by omega)) (hh 2 (by omega)) (hh 3 (by omega)) (hh 4 (by omega)) (hh 5 (by omega)) (hh 6 (by omega)) (hh 7 (by omega)) (iv_in 0 (by omega)) (iv_in 1 (by omega)) (iv_in 2 (by omega)) (iv_in 3 (by omega))
    (hxr_in _ _ (iv_in 4 (by omega)) (by simp only [V]; omega)) (hxr_in _ _ (iv_in 5 (by omega)) (by simp only [V]; omega)) (by have h6 := iv_in 6 (by omega); simp only [V] at h6 ⊢; split <;> omega) (iv_in 7 (by omega))
theorem bpr_in (h z : Nat → Int) (t : Int) (last : Bool) (hh : In V 8 h) : In V 8 (bpr h z t last) := fun j hj =>
  hxr_in _ _ (hxr_in _ _ (hh j hj) (bR_in _ _ (bst_in h t last hh) 10 j (by omega))) (bR_in _ _ (bst_in h t last hh) 10 (j + 8) (by omega))
def btl (kl len : Nat) : Nat := (if kl = 0 then 0 else 64) + len
def btx (kl : Nat) (key : Nat → Int) (len : Nat) (z : Nat → Int) : Nat → Int := fun j =>
  if kl = 0 then (if j < len then z j else 0) else if j < 64 then (if j < kl then key j else 0) else if j < 64 + len then z (j - 64) else 0
def bnb (kl len : Nat) : Nat := if btl kl len = 0 then 1 else (btl kl len + 63) / 64
def bh0 (kl size : Nat) : Nat → Int := upd iv 0 (hxr (hxr (hxr (iv 0) 16842752) (256 * (kl : Int))) (size : Int))
theorem bh0_in (kl size : Nat) (hk : kl ≤ 32) (hs : size ≤ 32) : In V 8 (bh0 kl size) := by
  have h := hxr_in _ _ (hxr_in _ _ (hxr_in _ _ (iv_in 0 (by omega)) (show 0 ≤ (16842752 : Int) ∧ (16842752 : Int) < V by decide)) (show 0 ≤ 256 * (kl : Int) ∧ 256 * (kl : Int) < V by simp only [V]; omega)) (show 0 ≤ (size : Int) ∧ (size : Int) < V by simp only [V]; omega)
  exact iv_in.upd _ _ h.1 h.2
def bH (kl : Nat) (key : Nat → Int) (size len : Nat) (z : Nat → Int) : Nat → Nat → Int
  | 0 => bh0 kl size
  | i + 1 => bpr (bH kl key size len z i) (fun j => btx kl key len z (64 * i + j)) ((min (64 * i + 64) (btl kl len) : Nat) : Int) (decide (i + 1 = bnb kl len))
def bsum (kl : Nat) (key : Nat → Int) (size len : Nat) (z : Nat → Int) : Nat → Int := fun j => b32 (bH kl key size len z (bnb kl len) (j / 4)) (j % 4)
theorem bsum_in (kl : Nat) (key : Nat → Int) (size len : Nat) (z : Nat → Int) (n : Nat) : In 256 n (bsum kl key size len z) := fun j _ => b32_in _ _ (Nat.mod_lt _ (by decide))
def bhash (len : Nat) (z : Nat → Int) : Nat → Int := bsum 0 (fun _ => 0) 32 len z
theorem bshlI {P : Program} {o : Oper} {a : Act} (k yk : IntKind) (n y r : Int) (t t' : TypeId) (x x' : Operand) (ho : o.op = .binOp .shl t x x' t') (hx : a.eval x = .int k n) (hy : a.eval x' = .int yk y) (h0 : 0 ≤ y) (hr : k.wrap (n * 2 ^ min y.toNat k.bits) = r) (w : World) : (execOp a.eval o).run P w = .ok (.value (.int k r)) w := by
  unfold execOp
  simp only [ho, hx, hy, Sem.run_bind, eqGuard_at_int, binOp_shl, shift_shl_any k yk n y h0, Sem.run_pure, Result.andThen_ok, hr]
theorem notI {P : Program} {o : Oper} {a : Act} (k : IntKind) (n r : Int) (t : TypeId) (x : Operand) (ho : o.op = .unOp .xor t x) (hx : a.eval x = .int k n) (hr : bits .xor k (if k.signed then -1 else k.max) n = r) (w : World) : (execOp a.eval o).run P w = .ok (.value (.int k r)) w := by
  unfold execOp
  simp only [ho, hx, unary_xor, intBits_xor, Sem.run_bind, Sem.run_pure, Result.andThen_ok, hr]
theorem bst_of (h : Nat → Int) (t : Int) (f : Nat → Int) (last : Bool) (he : ∀ j, f j = upd (upd (app h 8 iv) 12 (hxr (iv 4) (t % 4294967296))) 13 (hxr (iv 5) (t / 4294967296 % 4294967296)) j) : ∀ j, j < 16 → (if last then upd f 14 (4294967295 - iv 6) else f) j = bst h t last j := fun j hj => by
  have e14 : bst h t last 14 = if last then 4294967295 - iv 6 else iv 6 := rfl
  have hne : j ≠ 14 → f j = bst h t last j := fun e => by
    rw [he j]
    match j, hj, e with
    | 0, _, _ | 1, _, _ | 2, _, _ | 3, _, _ | 4, _, _ | 5, _, _ | 6, _, _ | 7, _, _ | 8, _, _ | 9, _, _ | 10, _, _ | 11, _, _ | 12, _, _ | 13, _, _ | 15, _, _ => rfl
    | 14, _, e => exact absurd rfl e
    | _ + 16, hj, _ => omega
  have h14 : f 14 = iv 6 := he 14
  by_cases e : j = 14
  · subst e
    rw [e14]
    cases last
    · rw [if_neg (by decide), if_neg (by decide)]; exact h14
    · rw [if_pos rfl, if_pos rfl, upd_same]
  · cases last
    · rw [if_neg (by decide)]; exact hne e
    · rw [if_pos rfl, upd_other _ _ _ _ e]; exact hne e
section
theorem zeros_row (k : IntKind) (m : Nat) : Builtin.zeroCells (Value.int k 0).cells m = (row k m (fun _ => 0)).toArray := by
  refine Array.toList_inj.1 ?_
  unfold Builtin.zeroCells row
  simp [Value.cells, Nat.mod_one]
section
variable {P : Program}
end
end
def bkk (kl : Nat) (key : Nat → Int) : Nat → Int := fun j => if kl ≤ 64 then (if j < kl then key j else 0) else if j < 32 then bhash kl key j else 0
def bxx (c : Int) (k : Nat → Int) : Nat → Int := fun j => bits .xor .u8 (k j) c
def bmac (kl : Nat) (key : Nat → Int) (len : Nat) (z : Nat → Int) : Nat → Int := bhash 96 (app (bxx 92 (bkk kl key)) 64 (bhash (64 + len) (app (bxx 54 (bkk kl key)) 64 z)))
theorem bhash_in (len : Nat) (z : Nat → Int) (n : Nat) : In 256 n (bhash len z) := bsum_in _ _ _ _ _ _
theorem bxx_in (c : Int) (hc : 0 ≤ c ∧ c < 256) (k : Nat → Int) (n : Nat) (hk : In 256 n k) : In 256 n (bxx c k) := fun j hj => by
  unfold bxx
  obtain ⟨x, hx⟩ := Int.eq_ofNat_of_zero_le (hk j hj).1
  obtain ⟨y, rfl⟩ := Int.eq_ofNat_of_zero_le hc.1
  have h1 := (hk j hj).2
  rw [hx] at h1 ⊢
  have h : x ^^^ y < 2 ^ 8 := Nat.xor_lt_two_pow (by omega) (by omega)
  rw [u8_xor_nat x y (by omega) (by omega)]
  omega
theorem app_in (n m : Nat) (f g : Nat → Int) (hf : In 256 n f) (hg : In 256 m g) : In 256 (n + m) (app f n g) := fun j hj => by
  unfold app
  split
  · exact hf j (by assumption)
  · exact hg _ (by omega)
def bout (h : Nat → Int) : Nat → Int := fun j => b32 (h (j / 4)) (j % 4)
def nbt (n : Nat) : Nat := if n = 0 then 1 else (n + 63) / 64
def tH (h0 : Nat → Int) (n : Nat) (f : Nat → Int) : Nat → Nat → Int
  | 0 => h0
  | i + 1 => bpr (tH h0 n f i) (fun j => f (64 * i + j)) ((min (64 * i + 64) n : Nat) : Int) (decide (i + 1 = nbt n))
theorem tH_in (h0 : Nat → Int) (n : Nat) (f : Nat → Int) (h : In V 8 h0) : ∀ i, In V 8 (tH h0 n f i)
  | 0 => h
  | i + 1 => bpr_in _ _ _ _ (tH_in h0 n f h i)
theorem bH_tH (kl : Nat) (key : Nat → Int) (size len : Nat) (z : Nat → Int) : ∀ i, bH kl key size len z i = tH (bh0 kl size) (btl kl len) (btx kl key len z) i
  | 0 => rfl
  | i + 1 => by
    unfold bH tH
    rw [bH_tH kl key size len z i]
    rfl
theorem bsum_tH (kl : Nat) (key : Nat → Int) (size len : Nat) (z : Nat → Int) : bsum kl key size len z = bout (tH (bh0 kl size) (btl kl len) (btx kl key len z) (nbt (btl kl len))) := by
  funext j
  unfold bsum bout
  rw [bH_tH]
  rfl
theorem bN_congr (m m' : Nat → Int) (r : Nat) (h : ∀ i, i < 16 → m i = m' i) (v : Nat → Int) : ∀ k, bN m (sg r) v k = bN m' (sg r) v k
  | 0 => rfl
  | k + 1 => by
    unfold bN
    rw [bN_congr m m' r h v k]
    unfold bAt
    rw [h _ (sg_lt r _), h _ (sg_lt r _)]
theorem bR_congr (m m' : Nat → Int) (h : ∀ i, i < 16 → m i = m' i) (v : Nat → Int) : ∀ r, bR m v r = bR m' v r
  | 0 => rfl
  | r + 1 => by
    unfold bR
    rw [bR_congr m m' h v r, bN_congr m m' r h]
theorem bpr_congr (h z z' : Nat → Int) (t : Int) (last : Bool) (e : ∀ j, j < 64 → z j = z' j) : bpr h z t last = bpr h z' t last := by
  funext i
  unfold bpr
  rw [bR_congr (bpw z) (bpw z') (fun i hi => by unfold bpw w32; rw [e _ (by omega), e _ (by omega), e _ (by omega), e _ (by omega)])]
def tx2 (fl : Nat) (y : Nat → Int) (len : Nat) (z : Nat → Int) : Nat → Int := fun j => if j < fl then y j else padz len z (j - fl)
theorem tx2_none (y z : Nat → Int) (j : Nat) : tx2 64 y 0 z (64 * 0 + j) = padz 64 y j := by
  unfold tx2 padz
  rw [Nat.mul_zero, Nat.zero_add]
  by_cases e : j < 64
  · rw [if_pos e, if_pos e]
  · rw [if_neg e, if_neg e, if_neg (Nat.not_lt_zero _)]
theorem bhash_tx2 (fl : Nat) (y : Nat → Int) (len : Nat) (z : Nat → Int) : bhash (fl + len) (app y fl z) = bout (tH (bh0 0 32) (fl + len) (tx2 fl y len z) (nbt (fl + len))) := by
  have e1 : btl 0 (fl + len) = fl + len := Nat.zero_add _
  have e2 : btx 0 (fun _ => 0) (fl + len) (app y fl z) = tx2 fl y len z := by
    funext j
    unfold btx tx2 padz app
    rw [if_pos rfl]
    by_cases e : j < fl
    · rw [if_pos (by omega), if_pos e, if_pos e]
    · rw [if_neg e, if_neg e]
      by_cases e3 : j < fl + len
      · rw [if_pos e3, if_pos (by omega)]
      · rw [if_neg e3, if_neg (by omega)]
  unfold bhash
  rw [bsum_tH, e1, e2]
def z0 : Nat → Int := fun _ => 0
def zs (s : ByteArray) : Nat → Int := fun j => ((s.data.toList.getD j 0).toNat : Int)
theorem bmac_in (kl : Nat) (key : Nat → Int) (len : Nat) (z : Nat → Int) (n : Nat) : In 256 n (bmac kl key len z) := bhash_in _ _ n
def klen : Nat → Nat
  | 0 => 0
  | _ + 1 => 32
def ktx (il : Nat) (inf : Nat → Int) (i : Nat) (t : Nat → Int) : Nat → Int := app (app t (klen i) inf) (klen i + il) (fun _ => ((i + 1 : Nat) : Int))
def kT (k : Nat → Int) (il : Nat) (inf : Nat → Int) : Nat → Nat → Int
  | 0 => fun _ => 0
  | i + 1 => bmac 32 k (klen i + il + 1) (ktx il inf i (kT k il inf i))
theorem kT_in (k : Nat → Int) (il : Nat) (inf : Nat → Int) (n : Nat) : ∀ i, In 256 n (kT k il inf i)
  | 0 => fun _ _ => ⟨Int.le_refl 0, (by decide : (0 : Int) < 256)⟩
  | _ + 1 => bmac_in _ _ _ _ _
section
theorem neq_rows {P : Program} (w : World) (t e : TypeId) (n : Nat) (ht : P.underlying t = some (.array n e)) (he : P.underlying e = some (.int .u8)) (hsz : ∀ w, (sizeOf e).run P w = .ok 1 w) (f g : Nat → Int) (hf : In 256 n f) (hg : In 256 n g) :
    (binOp .neq t (.agg (row .u8 n f).toArray) (.agg (row .u8 n g).toArray)).run P w = .ok (.bool (!decide (val 256 f n = val 256 g n))) w := by
  rw [row_bytes n f hf, row_bytes n g hg, run_neq_struct, run_equalIn_bytes w 9998 t e n ht he hsz _ _ (by simp [bytesOf]) (by simp [bytesOf]), bytesOf_inj n f g hf hg]
  rfl
theorem neqV {P : Program} {o : Oper} {a : Act} (n : Nat) (f g : Nat → Int) (t e t' : TypeId) (x y : Operand) (ho : o.op = .binOp .neq t x y t') (hx : a.eval x = .agg (row .u8 n f).toArray) (hy : a.eval y = .agg (row .u8 n g).toArray)
    (ht : P.underlying t = some (.array n e)) (he : P.underlying e = some (.int .u8)) (hsz : ∀ w, (sizeOf e).run P w = .ok 1 w) (hm : P.eqGuardType P.depth t = false) (hf : In 256 n f) (hg : In 256 n g) (r : Bool) (hr : (!decide (val 256 f n = val 256 g n)) = r) (w : World) :
    (execOp a.eval o).run P w = .ok (.value (.bool r)) w := by
  unfold execOp
  simp only [ho, hx, hy, Sem.run_bind, run_eqGuard_agg w .neq t x y _ _ hm, Result.andThen_ok, neq_rows w t e n ht he hsz f g hf hg, Sem.run_pure, hr]
theorem results_two {P : Program} {fn : Func} {tmps : Array Value} {w : World} {a b : Tmp} {ty ty' : TypeId} {x y : Nat} {cs cs' : List Value} {d d' : TypeDesc} (hr : fn.results = #[.cell a ty, .cell b ty'])
    (ha : tmps.getD a undef = .pointer (some ⟨x, 0, none⟩)) (hb : tmps.getD b undef = .pointer (some ⟨y, 0, none⟩)) (hc : w.rangeAt x 0 cs) (hc' : w.rangeAt y 0 cs') (hu : P.underlying ty = some d) (hu' : P.underlying ty' = some d') (hd : d.isRow = true) (hd' : d'.isRow = true)
    (hi : (P.info? ty).map (·.size) = some cs.length) (hi' : (P.info? ty').map (·.size) = some cs'.length) :
    (results fn tmps).run P w = .ok (.tuple #[.agg cs.toArray, .agg cs'.toArray]) w := by
  have h1 := run_loadVar_mid (P := P) w x 0 ty cs d hc hu hd hi
  have h2 := run_loadVar_mid (P := P) w y 0 ty' cs' d' hc' hu' hd' hi'
  rw [Array.getD_eq_getD_getElem?] at ha hb
  simp [results, hr, ha, hb, asAddr, h1, h2]
section
variable {P : Program} {ops : Array Oper} {Q : Exit → Act → World → Prop} {md : Region.Mode} {S : World → Prop}
end
end
theorem kcutAll (b : Nat) (w : World) : (Instr.sliceAt 36 (.pointer (some ⟨b, 0, none⟩)) none none none).run Tryd.prog w = .ok (.slice (some ⟨b, 0, none⟩) 32 32) w := by kernel_rfl
def kA (k : Nat → Int) (len : Nat) (z : Nat → Int) : Nat → Int := kT (bmac 32 k len z) 0 z0 1
def kB (k : Nat → Int) (len : Nat) (z : Nat → Int) : Nat → Int := kT (bmac 32 k len z) 0 z0 2
def vsz (n : Nat) : Nat := if n < 64 then 1 else if n < 16384 then 2 else if n < 1073741824 then 4 else 8
def tV (z : Nat → Int) : Nat → Int
  | 0 => z 0 % 64
  | i + 1 => tV z i * 256 + z (i + 1)
def tK (b : Int) : Nat := 2 ^ (b / 64).toNat
def tE (len : Nat) (z : Nat → Int) : Int := if len = 0 then 3 else if len < tK (z 0) then 3 else if vsz (tV z (tK (z 0) - 1)).toNat ≠ tK (z 0) then 90 else 0
def tN (len : Nat) (z : Nat → Int) : Int := if tE len z = 0 then tV z (tK (z 0) - 1) else 0
theorem bl_app (a b : List Int) (j : Nat) : bl (a ++ b) j = if j < a.length then bl a j else bl b (j - a.length) := by
  unfold bl
  simp only [List.getD_eq_getElem?_getD, List.getElem?_append]
  split <;> rfl
def Byts (b : List Int) : Prop := ∀ x ∈ b, 0 ≤ x ∧ x < 256
theorem Byts.bl {b : List Int} (h : Byts b) : In 256 b.length (bl b) := fun j hj => by
  unfold Go.Proofs.YtgfpflcoknpbdaaDoor.bl
  rw [List.getD_eq_getElem?_getD, List.getElem?_eq_getElem hj]
  exact h _ (List.getElem_mem hj)
theorem bl_ext {a b : List Int} (hl : a.length = b.length) (h : ∀ j, j < a.length → bl a j = bl b j) : a = b := by
  apply List.ext_getElem hl
  intro j h1 h2
  have := h j h1
  unfold bl at this
  rw [List.getD_eq_getElem?_getD, List.getD_eq_getElem?_getD, List.getElem?_eq_getElem h1, List.getElem?_eq_getElem h2] at this
  exact this
theorem bl_take (b : List Int) (n j : Nat) (h : j < n) : bl (b.take n) j = bl b j := by
  unfold bl
  simp [h]
def nm (b : List Int) : Except Int (Int × List Int) := if tE b.length (bl b) = 0 then .ok (tN b.length (bl b), b.drop (tK (bl b 0))) else .error (tE b.length (bl b))
def MX : Int := 4611686018427387903
def rd : Nat → Int → List Int → Except Int (List (Int × Int) × List Int)
  | 0, _, b => .ok ([], b)
  | n + 1, last, b => match nm b with
    | .error e => .error e
    | .ok (g, b1) => match nm b1 with
      | .error e => .error e
      | .ok (l, b2) => if MX - last < g ∨ MX - last - g < l then .error 100 else match rd n (last + g + l) b2 with
        | .error e => .error e
        | .ok (rs, b3) => .ok ((last + g, last + g + l) :: rs, b3)
def tx (b : List Int) : Except Int (List Int × List Int) := match nm b with
  | .error e => .error e
  | .ok (n, r) => if 128 < n then .error 2 else if (r.length : Int) < n then .error 3 else .ok (r.take n.toNat, r.drop n.toNat)
structure Frm where
  kind : Int
  pos : Int
  lim : Int
  rg : List (Int × Int)
  byt : List Int
  tok : List Int
def z8 : List Int := [0, 0, 0, 0, 0, 0, 0, 0]
def fp (k : Int) (b : List Int) : Except Int (Frm × List Int) :=
  if k = 3 ∨ k = 4 then (if b.length < 8 then .error 3 else .ok (⟨k, 0, 0, [], [], b.take 8⟩, b.drop 8))
  else match nm b with
    | .error e => .error e
    | .ok (a, b1) =>
      if k = 1 then (match tx b1 with
        | .error e => .error e
        | .ok (t, b2) => .ok (⟨k, a, 0, [], t, z8⟩, b2))
      else if k = 2 ∨ k = 7 then (match nm b1 with
        | .error e => .error e
        | .ok (l, b2) => match nm b2 with
          | .error e => .error e
          | .ok (n, b3) => if 8 < n then .error 100 else match rd n.toNat (if k = 2 then a else 0) b3 with
            | .error e => .error e
            | .ok (rs, b4) => .ok (⟨k, a, l, rs, [], z8⟩, b4))
      else .ok (⟨k, a, 0, [], [], z8⟩, b1)
abbrev OwnL (w : World) (base : Nat) (l : List Int) (v : Value) : Prop := Own w base 5 .u8 l.length (bl l) v
theorem bl_app' (a b : List Int) (j : Nat) : app (bl a) a.length (bl b) j = bl (a ++ b) j := by
  rw [bl_app]
  rfl
theorem OwnL.app {w : World} {base : Nat} {a b : List Int} {v : Value} (h : Own w base 5 .u8 (a.length + b.length) (app (bl a) a.length (bl b)) v) : OwnL w base (a ++ b) v := by
  unfold OwnL
  rw [List.length_append]
  exact h.congr fun j _ => bl_app' a b j
theorem bl_range (n : Nat) (f : Nat → Int) (j : Nat) (h : j < n) : bl ((List.range n).map f) j = f j := by
  unfold bl
  simp [List.getD_eq_getElem?_getD, h]
structure Sym where
  h : Nat → Int
  c : Nat → Int
  k : Nat → Int
  has : Bool
  n : Nat
structure SymW (s : Sym) : Prop where
  h : In 256 32 s.h
  c : In 256 32 s.c
  k : In 256 32 s.k
def smix (s : Sym) (b : List Int) : Sym := { s with h := bhash (32 + b.length) (app s.h 32 (bl b)) }
def skey (s : Sym) (b : List Int) : Sym := { s with c := kA s.c b.length (bl b), k := kB s.c b.length (bl b), has := true, n := 0 }
def snz (n : Nat) : Nat → Int := fun j => if j < 4 then 0 else dig n (j - 4)
theorem snz_in (n : Nat) : In 256 12 (snz n) := fun j _ => by
  unfold snz
  split
  · exact ⟨Int.le_refl _, show (0 : Int) < 256 by decide⟩
  · exact dig_in n (j - 4 + 1) _ (by omega)
def sout (s : Sym) (t : List Int) : List Int := if s.has = true then (List.range (t.length + 16)).map (aout s.k (snz s.n) 32 s.h t.length (bl t)) else t
def snext (s : Sym) : Sym := if s.has = true then { s with n := s.n + 1 } else s
def sseal (s : Sym) (t : List Int) : Sym := smix (snext s) (sout s t)
def soE (s : Sym) (b : List Int) : Int := if s.has = true then aoE s.k (snz s.n) 32 s.h b.length (bl b) else 0
def soT (s : Sym) (b : List Int) : List Int := if s.has = true then (List.range (aoL s.k (snz s.n) 32 s.h b.length (bl b))).map (hxor s.k 1 (snz s.n) (bl b)) else b
def sopen (s : Sym) (b : List Int) : Sym := if soE s b = 0 then smix (snext s) b else s
theorem aok_congr {k n : Nat → Int} {m : Nat} {b : Nat → Int} {len : Nat} {z y : Nat → Int} (h : ∀ j, j < len → z j = y j) : aok k n m b len z ↔ aok k n m b len y := by
  unfold aok
  constructor
  · rintro ⟨h1, h2⟩
    refine ⟨h1, ?_⟩
    rw [atg_congr k n m b b (len - 16) y z (fun _ _ => rfl) (fun j hj => (h j (by omega)).symm), h2]
    exact val_congr 256 16 fun j hj => h _ (by omega)
  · rintro ⟨h1, h2⟩
    refine ⟨h1, ?_⟩
    rw [atg_congr k n m b b (len - 16) z y (fun _ _ => rfl) (fun j hj => h j (by omega)), h2]
    exact val_congr 256 16 fun j hj => (h _ (by omega)).symm
theorem sout_length (s : Sym) (t : List Int) : (sout s t).length = if s.has = true then t.length + 16 else t.length := by
  unfold sout
  split
  · rw [List.length_map, List.length_range]
  · rfl
theorem sout_bl {s : Sym} (hs : s.has = true) (t : List Int) (j : Nat) (hj : j < t.length + 16) : bl (sout s t) j = aout s.k (snz s.n) 32 s.h t.length (bl t) j := by
  unfold sout
  rw [if_pos hs, bl_range _ _ _ hj]
theorem sout_byts {s : Sym} {t : List Int} (ht : Byts t) : Byts (sout s t) := by
  unfold sout
  split
  · intro x hx
    obtain ⟨j, hj, rfl⟩ := List.mem_map.1 hx
    exact aout_in s.k (snz s.n) 32 s.h t.length (bl t) ht.bl j (List.mem_range.1 hj)
  · exact ht
theorem soE_back (s : Sym) (t : List Int) : soE s (sout s t) = 0 := by
  unfold soE
  split
  · rename_i hs
    have hl : (sout s t).length = t.length + 16 := by rw [sout_length, if_pos hs]
    have hc := (aok_congr (k := s.k) (n := snz s.n) (m := 32) (b := s.h) (len := t.length + 16) (fun j hj => sout_bl hs t j hj)).2 (aback_ok s.k (snz s.n) 32 s.h t.length (bl t))
    rw [hl]
    unfold aoE
    rw [if_neg (by omega), if_pos hc]
  · rfl
theorem soT_back (s : Sym) (t : List Int) (ht : Byts t) : soT s (sout s t) = t := by
  unfold soT
  by_cases hs : s.has = true
  · rw [if_pos hs]
    have hl : (sout s t).length = t.length + 16 := by rw [sout_length, if_pos hs]
    have hc := (aok_congr (k := s.k) (n := snz s.n) (m := 32) (b := s.h) (len := t.length + 16) (fun j hj => sout_bl hs t j hj)).2 (aback_ok s.k (snz s.n) 32 s.h t.length (bl t))
    have hL : aoL s.k (snz s.n) 32 s.h (sout s t).length (bl (sout s t)) = t.length := by
      rw [hl]
      unfold aoL
      rw [if_pos hc]
      omega
    rw [hL]
    refine bl_ext (by rw [List.length_map, List.length_range]) fun j hj => ?_
    rw [List.length_map, List.length_range] at hj
    rw [bl_range _ _ _ hj]
    have h1 := aback_text s.k (snz s.n) 32 s.h t.length (bl t) ht.bl j hj
    have h2 : hxor s.k 1 (snz s.n) (bl (sout s t)) j = hxor s.k 1 (snz s.n) (aout s.k (snz s.n) 32 s.h t.length (bl t)) j := by
      unfold hxor
      rw [sout_bl hs t j (by omega)]
    rw [h2, h1]
  · rw [if_neg hs]
    unfold sout
    rw [if_neg hs]
theorem sopen_back (s : Sym) (t : List Int) : sopen s (sout s t) = sseal s t := by
  unfold sopen sseal
  rw [if_pos (soE_back s t)]
theorem smix_w {s : Sym} (h : SymW s) (b : List Int) : SymW (smix s b) := ⟨bhash_in _ _ _, h.c, h.k⟩
theorem kA_in (k : Nat → Int) (len : Nat) (z : Nat → Int) : In 256 32 (kA k len z) := kT_in _ _ _ _ _
theorem kB_in (k : Nat → Int) (len : Nat) (z : Nat → Int) : In 256 32 (kB k len z) := kT_in _ _ _ _ _
theorem skey_w {s : Sym} (h : SymW s) (b : List Int) : SymW (skey s b) := ⟨h.h, kA_in _ _ _, kB_in _ _ _⟩
theorem soE_turned {s : Sym} (hs : s.has = true) (t f : List Int) (hl : f.length = t.length + 16) (bt : Nat → Int) (hbt : In 256 16 bt) (hne : ¬ ∀ j, j < 16 → bt j = 0) (hlo : ∀ j, j < t.length → bl f j = bl (sout s t) j) (hhi : ∀ j, j < 16 → bl f (t.length + j) = bits .xor .u8 (bl (sout s t) (t.length + j)) (bt j)) (hf : Byts f) : soE s f = 70 := by
  have hfi : In 256 (t.length + 16) (bl f) := by have := hf.bl; rw [hl] at this; exact this
  have hno := aturned_ok s.k (snz s.n) 32 s.h t.length (bl t) bt (bl f) hbt hne (fun j hj => by rw [hlo j hj, sout_bl hs t j (by omega)]) (fun j hj => by rw [hhi j hj, sout_bl hs t _ (by omega)]) hfi
  unfold soE
  rw [if_pos hs, hl, aturned_E _ _ _ _ _ _ hno]
theorem sopen_turned {s : Sym} {f : List Int} (h : soE s f ≠ 0) : sopen s f = s := by unfold sopen; rw [if_neg h]
section
section
variable {P : Program} {ops : Array Oper} {Q : Exit → Act → World → Prop} {md : Region.Mode} {S : World → Prop}
theorem storeAny {o : Oper} {a : Act} {w : World} (v : Value) (b j : Nat) (ty : TypeId) (x y : Operand) (ho : o.op = .store ty x y) (hx : a.eval x = .pointer (some ⟨b, j, none⟩)) (hy : a.eval y = v) (hv : v.cells = #[v]) (h1 : v.oneCell' = true)
    (hc : (w.cell? ⟨b, j, none⟩).isSome = true) (hf : w.frozen? ⟨b, j, none⟩ = false) (hz : (P.info? ty).map (·.size) = some 1) : (execOp a.eval o).run P w = .ok .skip (w.setCell ⟨b, j, none⟩ v) := by
  have h0 : ∀ k : Nat, k < [v].length → k = 0 := fun k hk => by simpa using hk
  have hst := run_storeCells_cells (P := P) b j [v] 0 w (fun k hk => by rw [h0 k hk]; simpa using hc) (fun k hk => by rw [h0 k hk]; simpa using hf) (fun u hu => by simp at hu; subst hu; exact h1)
  cases hq : P.info? ty with
  | none => simp [hq] at hz
  | some i =>
    have hs : i.size = 1 := by simp [hq] at hz; omega
    simp only [Nat.add_zero] at hst
    have e : (storeVar ty ⟨b, j, none⟩ v).run P w = .ok () (w.setCell ⟨b, j, none⟩ v) := by
      simp [storeVar, sizeOf, typeInfo, hq, hv, hs, hst, World.setCells]
    unfold execOp
    simp only [ho, hx, hy, Instr.storeAt, Instr.sureAddr, Sem.run_bind, Sem.run_pure, Result.andThen_ok, e]
theorem skipOpL {o : Oper} {rest : List Oper} {a : Act} {w w' : World} (hw : Region.wanted o (yielded ops a.tmps) = true) (he : (execOp a.eval o).run P w = .ok .skip w') (h : wpList P ops Q rest (a.put o.dst undef) w') : wpList P ops Q (o :: rest) a w := by
  unfold wpList
  rw [if_pos hw]
  refine .inl ?_
  unfold Oper.wp
  rw [he]
  exact h
theorem load1 {o : Oper} {a : Act} {w : World} (ty : TypeId) (x : Operand) (p : Addr) (v : Value) (ho : o.op = .load ty x) (hx : a.eval x = .pointer (some p)) (hagg : ∀ w, (isAgg ty).run P w = .ok false w) (hc : w.cell? p = some v) : (execOp a.eval o).run P w = .ok (.value v) w := by
  have e : (loadVar ty p).run P w = .ok v w := by simp [loadVar, Sem.run_bind, hagg, hc]
  unfold execOp
  simp only [ho, hx, Instr.loadAt, Instr.sureAddr, Sem.run_bind, Sem.run_pure, Result.andThen_ok, e]
theorem loadN {o : Oper} {a : Act} {w : World} (ty : TypeId) (x : Operand) (p : Addr) (cs : List Value) (ho : o.op = .load ty x) (hx : a.eval x = .pointer (some p)) (hagg : ∀ w, (isAgg ty).run P w = .ok true w) (hz : ∀ w, (sizeOf ty).run P w = .ok cs.length w)
    (hc : ∀ j v, cs[j]? = some v → w.cell? (p.add j) = some v) : (execOp a.eval o).run P w = .ok (.value (.agg cs.toArray)) w := by
  have e : (loadVar ty p).run P w = .ok (.agg cs.toArray) w := by simp [loadVar, Sem.run_bind, hagg, hz, run_loadCells_list w p cs hc]
  unfold execOp
  simp only [ho, hx, Instr.loadAt, Instr.sureAddr, Sem.run_bind, Sem.run_pure, Result.andThen_ok, e]
end
structure Mm (w0 : World) (l : List (Nat × List Value)) (w : World) : Prop where
  rows : ∀ p ∈ l, (∀ j, j < p.2.length → w.cell? ⟨p.1, j, none⟩ = p.2[j]? ∧ w.frozen? ⟨p.1, j, none⟩ = false) ∧ w0.heap.size ≤ p.1 ∧ p.1 < w.heap.size
  apart : l.Pairwise fun p q => p.1 ≠ q.1
  below : Below w0.heap.size w0 w
section
variable {w0 w w' : World} {l : List (Nat × List Value)}
theorem Mm.init (w : World) : Mm w [] w := ⟨fun _ h => (by cases h), List.Pairwise.nil, Below.refl _ _⟩
theorem Mm.call (h : Mm w0 l w) (b : Below w.heap.size w w') : Mm w0 l w' :=
  ⟨fun p hp => ⟨fun j hj => by
    have hlt := (h.rows p hp).2.2
    rw [b.cell (p := ⟨p.1, j, none⟩) hlt, b.frozen (p := ⟨p.1, j, none⟩) hlt]
    exact (h.rows p hp).1 j hj, (h.rows p hp).2.1, Nat.lt_of_lt_of_le (h.rows p hp).2.2 b.size⟩, h.apart, h.below.trans (b.mono h.below.size)⟩
theorem Mm.drew (h : Mm w0 l w) : Mm w0 l w.drew := h.call (Below.refl _ _).drew
theorem Mm.sub (h : Mm w0 l w) (l' : List (Nat × List Value)) (hl : l'.Sublist l) : Mm w0 l' w := ⟨fun p hp => h.rows p (hl.subset hp), h.apart.sublist hl, h.below⟩
theorem Mm.box (h : Mm w0 l w) (c : Array Value) (t : TypeId) (b : Nat) (hb : b = w.heap.size) : Mm w0 ((b, c.toList) :: l) (w.alloc (.cells c t)) := by
  subst hb
  have hc := h.call ((Below.refl w.heap.size w).alloc (Nat.le_refl _) (.cells c t))
  refine ⟨fun p hp => ?_, List.pairwise_cons.2 ⟨fun q hq e => ?_, h.apart⟩, hc.below⟩
  · rcases List.mem_cons.1 hp with rfl | hp
    · refine ⟨fun j hj => ⟨?_, World.frozen?_alloc_at _ _ _ _ rfl⟩, h.below.size, by simp⟩
      rw [World.cell?_alloc_at _ _ _ _ rfl]
      simp
    · exact hc.rows p hp
  · have := (h.rows q hq).2.2
    simp only at e
    omega
theorem Mm.get (h : Mm w0 l w) {b : Nat} {cs : List Value} (hp : (b, cs) ∈ l) (j : Nat) (v : Value) (hv : cs[j]? = some v) : w.cell? ⟨b, j, none⟩ = some v := by
  have hj : j < cs.length := by
    rcases Nat.lt_or_ge j cs.length with h' | h'
    · exact h'
    · rw [List.getElem?_eq_none h'] at hv; cases hv
  rw [((h.rows _ hp).1 j hj).1, hv]
theorem Mm.isSome (h : Mm w0 l w) {b : Nat} {cs : List Value} (hp : (b, cs) ∈ l) (j : Nat) (hj : j < cs.length) : (w.cell? ⟨b, j, none⟩).isSome = true := by
  rw [((h.rows _ hp).1 j hj).1, List.getElem?_eq_getElem hj]
  rfl
theorem Mm.free (h : Mm w0 l w) {b : Nat} {cs : List Value} (hp : (b, cs) ∈ l) (j : Nat) (hj : j < cs.length) : w.frozen? ⟨b, j, none⟩ = false := ((h.rows _ hp).1 j hj).2
theorem Mm.rangeAt (h : Mm w0 l w) {b : Nat} {cs : List Value} (hp : (b, cs) ∈ l) : ∀ j v, cs[j]? = some v → w.cell? ((⟨b, 0, none⟩ : Addr).add j) = some v := fun j v hv => by
  rw [Addr.add_mid, Nat.zero_add]
  exact h.get hp j v hv
theorem Mm.part (h : Mm w0 l w) {b : Nat} {cs : List Value} (hp : (b, cs) ∈ l) (o : Nat) (ds : List Value) (hd : (cs.drop o).take ds.length = ds) : ∀ j v, ds[j]? = some v → w.cell? ((⟨b, o, none⟩ : Addr).add j) = some v := fun j v hv => by
  rw [Addr.add_mid]
  refine h.get hp (o + j) v ?_
  have hj : j < ds.length := by
    rcases Nat.lt_or_ge j ds.length with h' | h'
    · exact h'
    · rw [List.getElem?_eq_none h'] at hv; cases hv
  rw [← hd, List.getElem?_take, if_pos hj, List.getElem?_drop] at hv
  exact hv
theorem size_setCell (w : World) (p : Addr) (v : Value) : (w.setCell p v).heap.size = w.heap.size := by simp
theorem Mm.set {b : Nat} {cs : List Value} (h : Mm w0 ((b, cs) :: l) w) (j : Nat) (hj : j < cs.length) (v : Value) : Mm w0 ((b, cs.set j v) :: l) (w.setCell ⟨b, j, none⟩ v) := by
  have hb := h.rows _ mS
  have hne := (List.pairwise_cons.1 h.apart).1
  refine ⟨fun p hp => ?_, List.pairwise_cons.2 ⟨hne, (List.pairwise_cons.1 h.apart).2⟩, below_setAll h.below b hb.2.1 j [v]⟩
  rcases List.mem_cons.1 hp with rfl | hp
  · refine ⟨fun i hi => ⟨?_, by rw [World.frozen?_setCell]; exact (hb.1 i (by simpa using hi)).2⟩, hb.2.1, by rw [size_setCell]; exact hb.2.2⟩
    simp only [List.length_set] at hi
    by_cases e : i = j
    · subst e
      rw [World.cell?_setCell_same' _ _ _ (h.isSome mS i hj), List.getElem?_set_self hj]
    · have e2 := World.cell?_setCell_other (w := w) (v := v) (a := ⟨b, j, none⟩) (b := ⟨b, i, none⟩) (by intro e'; injection e' with _ e'; exact e e'.symm)
      simp only
      rw [e2, List.getElem?_set_ne (Ne.symm e)]
      exact (hb.1 i hi).1
  · have h2 := h.rows p (mT _ hp)
    refine ⟨fun i hi => ⟨?_, by rw [World.frozen?_setCell]; exact (h2.1 i hi).2⟩, h2.2.1, by rw [size_setCell]; exact h2.2.2⟩
    rw [World.cell?_setCell_far _ _ _ _ (hne p hp)]
    exact (h2.1 i hi).1
theorem Mm.swap {p q : Nat × List Value} (h : Mm w0 (p :: q :: l) w) : Mm w0 (q :: p :: l) w := by
  obtain ⟨h1, h2⟩ := List.pairwise_cons.1 h.apart
  obtain ⟨h3, h4⟩ := List.pairwise_cons.1 h2
  refine ⟨fun x hx => h.rows x ?_, List.pairwise_cons.2 ⟨fun x hx => ?_, List.pairwise_cons.2 ⟨fun x hx => h1 x (mT _ hx), h4⟩⟩, h.below⟩
  · rcases List.mem_cons.1 hx with rfl | hx
    · exact mT _ mS
    · rcases List.mem_cons.1 hx with rfl | hx
      · exact mS
      · exact mT _ (mT _ hx)
  · rcases List.mem_cons.1 hx with rfl | hx
    · exact (h1 q mS).symm
    · exact h3 x hx
theorem Mm.grown (h : Mm w0 l w) {r : Option Nat} (g : w.grownBy w' r) (m : Nat) (hm : ∀ p ∈ l, p.1 < m) (h0 : w0.heap.size ≤ m) (hz : m ≤ w.heap.size) (hr : ∀ b, r = some b → m ≤ b) : Mm w0 l w' := by
  have hb : Below m w w' := ⟨g.os, g.tape, g.output, g.size, fun j hj => g.block j (Nat.lt_of_lt_of_le hj hz) (fun e => by have := hr j e.symm; omega)⟩
  exact ⟨fun p hp => ⟨fun j hj => by
    rw [hb.cell (p := ⟨p.1, j, none⟩) (hm p hp), hb.frozen (p := ⟨p.1, j, none⟩) (hm p hp)]
    exact (h.rows p hp).1 j hj, (h.rows p hp).2.1, Nat.lt_of_lt_of_le (h.rows p hp).2.2 g.size⟩, h.apart, h.below.trans (hb.mono h0)⟩
theorem Mm.lt (h : Mm w0 l w) {b : Nat} {cs : List Value} (hp : (b, cs) ∈ l) : b < w.heap.size := (h.rows _ hp).2.2
end
end
section
def i64 (n : Int) : Prop := -9223372036854775808 ≤ n ∧ n < 9223372036854775808
structure Off (X : List Nat) (w w' : World) : Prop where
  size : w.heap.size ≤ w'.heap.size
  blk : ∀ b, b < w.heap.size → b ∉ X → w'.heap[b]? = w.heap[b]?
section
variable {X Y : List Nat} {w w1 w2 : World}
theorem Off.refl (X : List Nat) (w : World) : Off X w w := ⟨Nat.le_refl _, fun _ _ _ => rfl⟩
theorem Off.trans (h : Off X w w1) (g : Off X w1 w2) : Off X w w2 := ⟨Nat.le_trans h.size g.size, fun b hb hX => (g.blk b (Nat.lt_of_lt_of_le hb h.size) hX).trans (h.blk b hb hX)⟩
theorem Off.mono (h : Off X w w1) (hX : ∀ b ∈ X, b ∈ Y) : Off Y w w1 := ⟨h.size, fun b hb hY => h.blk b hb fun e => hY (hX b e)⟩
theorem Off.of_below (l : Below w.heap.size w w1) : Off X w w1 := ⟨l.size, fun b hb _ => l.block b hb⟩
theorem Off.below (h : Off X w w1) (l : Below w1.heap.size w1 w2) : Off X w w2 := h.trans (.of_below l)
theorem Off.set (h : Off X w w1) {b : Nat} (hb : b ∈ X) (j : Nat) (v : Value) : Off X w (w1.setCell ⟨b, j, none⟩ v) :=
  h.trans ⟨by simp, fun c _ hX => by
    have : c ≠ b := fun e => hX (e ▸ hb)
    simp [World.setCell, Array.getElem?_modify, Ne.symm this]⟩
theorem Off.cell (h : Off X w w1) {p : Addr} {v : Value} (hc : w.cell? p = some v) (hX : p.block ∉ X) : w1.cell? p = some v := by
  rw [World.cell?_of_block (h.blk p.block (World.block_lt_of_cell? w p hc) hX)]
  exact hc
end
def SrcA (X : List Nat) (w : World) (sp : Option Addr) (n : Nat) (z : Nat → Int) : Prop := Src w sp n z ∧ ∀ ad, sp = some ad → 0 < n → ad.block ∉ X
theorem add_block (p : Addr) (j : Nat) : (p.add j).block = p.block := by unfold Addr.add; split <;> rfl
theorem SrcA.off {X : List Nat} {w w' : World} {sp : Option Addr} {n : Nat} {z : Nat → Int} (h : SrcA X w sp n z) (o : Off X w w') : SrcA X w' sp n z :=
  ⟨fun j hj => by
    obtain ⟨ad, rfl, hc⟩ := h.1 j hj
    exact ⟨ad, rfl, o.cell hc (by rw [add_block]; exact h.2 ad rfl (by omega))⟩, h.2⟩
theorem SrcA.less {X Y : List Nat} {w : World} {sp : Option Addr} {n : Nat} {z : Nat → Int} (h : SrcA X w sp n z) (hY : ∀ b ∈ Y, b ∈ X) : SrcA Y w sp n z := ⟨h.1, fun ad e hn hm => h.2 ad e hn (hY _ hm)⟩
theorem SrcA.of_old {X : List Nat} {w : World} {sp : Option Addr} {n : Nat} {z : Nat → Int} (h : Src w sp n z) (hX : ∀ b ∈ X, w.heap.size ≤ b) : SrcA X w sp n z :=
  ⟨h, fun ad e hn hm => by
    obtain ⟨ad', e', hc⟩ := h 0 hn
    rw [e] at e'
    injection e' with e'
    subst e'
    have := World.block_lt_of_cell? w _ hc
    rw [add_block] at this
    have := hX _ hm
    omega⟩
section
variable {P : Program}
end
end
theorem Mm.setAll {w0 w : World} {l : List (Nat × List Value)} {b : Nat} {cs : List Value} (h : Mm w0 ((b, cs) :: l) w) (ds : List Value) (hd : ds.length = cs.length) : Mm w0 ((b, ds) :: l) (w.setCells b 0 ds) := by
  have hb := h.rows _ mS
  have hne := (List.pairwise_cons.1 h.apart).1
  have hall : ∀ j, j < ds.length → (w.cell? ⟨b, 0 + j, none⟩).isSome = true := fun j hj => by rw [Nat.zero_add]; exact h.isSome mS j (by omega)
  refine ⟨fun p hp => ?_, List.pairwise_cons.2 ⟨hne, (List.pairwise_cons.1 h.apart).2⟩, below_setAll h.below b hb.2.1 0 ds⟩
  rcases List.mem_cons.1 hp with rfl | hp
  · refine ⟨fun j hj => ⟨?_, by rw [World.frozen?_setCells]; exact (hb.1 j (by have hj' : j < ds.length := hj; show j < cs.length; omega)).2⟩, hb.2.1, by rw [size_setAll]; exact hb.2.2⟩
    simp only at hj ⊢
    have e := World.cell?_setCells_in b ds 0 w hall j hj
    rw [Nat.zero_add] at e
    rw [e, List.getElem?_eq_getElem hj]
  · have h2 := h.rows p (mT _ hp)
    refine ⟨fun j hj => ⟨?_, by rw [World.frozen?_setCells]; exact (h2.1 j hj).2⟩, h2.2.1, by rw [size_setAll]; exact h2.2.2⟩
    rw [World.cell?_setCells_out b ds 0 w ⟨p.1, j, none⟩ (fun e _ => absurd e.symm (hne p hp))]
    exact (h2.1 j hj).1
theorem Off.setAll {X : List Nat} {w w1 : World} (h : Off X w w1) {b : Nat} (hb : b ∈ X) : ∀ (o : Nat) (vs : List Value), Off X w (w1.setCells b o vs)
  | _, [] => h
  | o, v :: vs => (h.set hb o v).setAll hb (o + 1) vs
section
theorem storeP {P : Program} {o : Oper} {a : Act} {w : World} (cs : List Value) (b off : Nat) (ty : TypeId) (x y : Operand) (ho : o.op = .store ty x y) (hx : a.eval x = .pointer (some ⟨b, off, none⟩)) (hy : a.eval y = .agg cs.toArray) (ht : w.there b off cs.toArray.size) (hz : (P.info? ty).map (·.size) = some cs.toArray.size) (h1 : ∀ u ∈ cs, u.oneCell' = true) :
    (execOp a.eval o).run P w = .ok .skip (w.setCells b off cs) := by
  unfold execOp
  simp only [ho, hx, hy]
  have e := run_storeAt_mid (P := P) w b off ty cs.toArray ht hz (all_oneCell_toArray h1)
  simp only [Sem.run_bind, e, Result.andThen_ok, Sem.run_pure]
def setL (cs : List Value) : Nat → List Value → List Value
  | _, [] => cs
  | o, v :: vs => setL (cs.set o v) (o + 1) vs
section
variable {w0 w : World} {l : List (Nat × List Value)} {b : Nat} {cs : List Value}
theorem Mm.thereP (h : Mm w0 l w) (hp : (b, cs) ∈ l) (o n : Nat) (hn : o + n ≤ cs.length) : w.there b o n := fun j hj => ⟨h.isSome hp (o + j) (by omega), h.free hp (o + j) (by omega)⟩
theorem Mm.setPartG : ∀ (ds : List Value) (o : Nat) (cs : List Value) (w : World), o + ds.length ≤ cs.length → Mm w0 ((b, cs) :: l) w → Mm w0 ((b, setL cs o ds) :: l) (w.setCells b o ds)
  | [], _, _, _, _, h => h
  | v :: vs, o, cs, w, hl, h => by
    rw [List.length_cons] at hl
    exact Mm.setPartG vs (o + 1) (cs.set o v) _ (by rw [List.length_set]; omega) (h.set o (by omega) v)
theorem Mm.setPart (h : Mm w0 ((b, cs) :: l) w) (ds : List Value) (o : Nat) (hl : o + ds.length ≤ cs.length) : Mm w0 ((b, setL cs o ds) :: l) (w.setCells b o ds) := Mm.setPartG ds o cs w hl h
theorem Mm.perm {l' : List (Nat × List Value)} (h : Mm w0 l w) (hp : l.Perm l') : Mm w0 l' w :=
  ⟨fun p hq => h.rows p (hp.mem_iff.2 hq), hp.pairwise h.apart (fun e => Ne.symm e), h.below⟩
theorem Mm.rot3 {p q r : Nat × List Value} (h : Mm w0 (p :: q :: r :: l) w) : Mm w0 (r :: p :: q :: l) w :=
  h.perm (((List.Perm.swap r q l).cons p).trans (List.Perm.swap r p (q :: l)))
end
theorem Mm.drop2 {w0 w : World} {l : List (Nat × List Value)} {p q : Nat × List Value} (h : Mm w0 (p :: q :: l) w) : Mm w0 (p :: l) w := h.sub _ (List.cons_sublist_cons.2 (List.sublist_cons_self q l))
theorem Off.and1 {X : List Nat} {w w1 w2 : World} {b : Nat} (h : Off X w w1) (g : Off [b] w1 w2) (hb : b ∈ X ∨ w.heap.size ≤ b) : Off X w w2 :=
  ⟨Nat.le_trans h.size g.size, fun c hc hX => (g.blk c (Nat.lt_of_lt_of_le hc h.size) (fun e => by
    obtain rfl := List.mem_singleton.1 e
    rcases hb with h' | h'
    · exact hX h'
    · omega)).trans (h.blk c hc hX)⟩
theorem retCell {P : Program} {fn : Func} {tmps : Array Value} {w : World} (t : Tmp) (ty : TypeId) (p : Addr) (cs : List Value) (hr : fn.results = #[.cell t ty]) (ha : tmps.getD t undef = .pointer (some p)) (hagg : ∀ w, (isAgg ty).run P w = .ok true w) (hz : ∀ w, (sizeOf ty).run P w = .ok cs.length w) (hc : ∀ j v, cs[j]? = some v → w.cell? (p.add j) = some v) :
    (results fn tmps).run P w = .ok (.agg cs.toArray) w := by
  have e : (loadVar ty p).run P w = .ok (.agg cs.toArray) w := by simp [loadVar, Sem.run_bind, hagg, hz, run_loadCells_list w p cs hc]
  rw [Array.getD_eq_getD_getElem?] at ha
  simp [results, hr, ha, asAddr, e]
end
theorem Mm.src {w0 w : World} {l : List (Nat × List Value)} (h : Mm w0 l w) {b : Nat} {cs : List Value} (hp : (b, cs) ∈ l) (bs : List Int) (hc : cs = bs.map (Value.int .u8)) : Src w (some ⟨b, 0, none⟩) bs.length (bl bs) := fun j hj => ⟨_, rfl, by
  rw [Addr.add_mid, Nat.zero_add]
  refine h.get hp j _ ?_
  rw [hc, List.getElem?_map, List.getElem?_eq_getElem hj]
  show some (Value.int .u8 bs[j]) = _
  unfold bl
  rw [List.getD_eq_getElem?_getD, List.getElem?_eq_getElem hj]
  rfl⟩
theorem Mm.srcRow {w0 w : World} {l : List (Nat × List Value)} (h : Mm w0 l w) {b : Nat} {cs : List Value} (hp : (b, cs) ∈ l) (o n : Nat) (f : Nat → Int) (hd : (cs.drop o).take (row .u8 n f).length = row .u8 n f) : Src w (some ⟨b, o, none⟩) n f := fun j hj => ⟨_, rfl, h.part hp o _ hd j _ (row_get .u8 n f j hj)⟩
theorem row32 (f : Nat → Int) : (row .u8 32 f).length = 32 := row_length _ _ _
theorem setL_left : ∀ (ds a rest : List Value), ds.length = a.length → setL (a ++ rest) 0 ds = ds ++ rest := by
  have key : ∀ (ds pre a rest : List Value), ds.length = a.length → setL (pre ++ (a ++ rest)) pre.length ds = pre ++ (ds ++ rest) := by
    intro ds
    induction ds with
    | nil =>
      intro pre a rest h
      have : a = [] := List.eq_nil_of_length_eq_zero (by simpa using h.symm)
      subst this
      rfl
    | cons d ds ih =>
      intro pre a rest h
      cases a with
      | nil => cases h
      | cons x a =>
        have h2 : ds.length = a.length := by simpa using h
        have e : (pre ++ (x :: a ++ rest)).set pre.length d = (pre ++ [d]) ++ (a ++ rest) := by simp
        show setL ((pre ++ (x :: a ++ rest)).set pre.length d) (pre.length + 1) ds = _
        rw [e]
        have := ih (pre ++ [d]) a rest h2
        rw [List.length_append] at this
        rw [show pre.length + 1 = pre.length + [d].length from rfl, this]
        simp
  intro ds a rest h
  have := key ds [] a rest h
  simpa using this
theorem setL_pre (pre : List Value) : ∀ (ds l : List Value) (o : Nat), setL (pre ++ l) (pre.length + o) ds = pre ++ setL l o ds
  | [], _, _ => rfl
  | d :: ds, l, o => by
    show setL ((pre ++ l).set (pre.length + o) d) (pre.length + o + 1) ds = pre ++ setL (l.set o d) (o + 1) ds
    rw [List.set_append_right _ _ (by omega), Nat.add_sub_cancel_left, Nat.add_assoc, setL_pre pre ds (l.set o d) (o + 1)]
def snoise : List Int := [78, 111, 105, 115, 101, 95, 73, 75, 95, 50, 53, 53, 49, 57, 95, 67, 104, 97, 67, 104, 97, 80, 111, 108, 121, 95, 66, 76, 65, 75, 69, 50, 115]
def sbeg (f : Nat → Int) : Sym := ⟨f, f, fun _ => 0, false, 0⟩
def snew : Sym := sbeg (bhash 33 (bl snoise))
theorem snoise_in : Byts snoise := by unfold Byts snoise; decide
theorem snew_w : SymW snew := ⟨bhash_in _ _ _, bhash_in _ _ _, fun _ _ => ⟨Int.le_refl _, show (0 : Int) < 256 by decide⟩⟩
section
def SumOK : Prop := ∀ (k : Nat → Int), In 256 32 k → ∀ (sp : Option Addr) (len cap : Nat), len ≤ 281474976710656 → len ≤ cap → ∀ z : Nat → Int, In 256 len z → ∀ w : World, Glob w → Src w sp len z →
    Calls Tryd.prog 33 #[(.agg (row .u8 32 (k)).toArray), .slice sp len cap] w fun e w' => ∃ f : Nat → Int, e = .returned (.agg (row .u8 16 (f)).toArray) ∧ (In 256 16 f ∧ val 256 f 16 = ptag k len z) ∧ Below w.heap.size w w'
def SameOK : Prop := ∀ a b : Nat → Int, In 256 16 a → In 256 16 b → ∀ w : World, Glob w →
    Calls Tryd.prog 25 #[(.agg (row .u8 16 (a)).toArray), (.agg (row .u8 16 (b)).toArray)] w fun e w' => e = .returned (.bool (decide (val 256 a 16 = val 256 b 16))) ∧ Below w.heap.size w w'
section
variable {w w' w'' : World} {m : Nat} {l : List (Nat × IntKind × Nat × (Nat → Int))} {R : List (Nat × Nat)} {sp : Option Addr} {len : Nat} {z : Nat → Int}
end
end
structure AGlob (w : World) : Prop where
  h : HGlob w
  c : Glob w
theorem AGlob.size {w : World} (g : AGlob w) : 7 ≤ w.heap.size := g.h.size
theorem AGlob.below {w w' : World} (g : AGlob w) {B : Nat} (l : Below B w w') (hB : 7 ≤ B) : AGlob w' := ⟨g.h.below l hB, g.c.below l hB⟩
def ASealOK : Prop := ∀ (k n : Nat → Int), In 256 32 k → In 256 12 n → ∀ (bp : Option Addr) (bl bc : Nat), bl ≤ 140737488351232 → bl ≤ bc → (bp = none → bc = 0) → ∀ b : Nat → Int, In 256 bl b → ∀ (sp : Option Addr) (len cap : Nat), len ≤ 140737488351232 → len ≤ cap → (sp = none → cap = 0) → ∀ z : Nat → Int, In 256 len z → ∀ w : World, AGlob w → Src w bp bl b → Src w sp len z →
    Calls Tryd.prog 20 #[(.agg (row .u8 32 (k)).toArray), (.agg (row .u8 12 (n)).toArray), .slice bp bl bc, .slice sp len cap] w fun e w' => ∃ B cap', e = .returned (.slice (some ⟨B, 0, none⟩) (len + 16) cap') ∧ (len + 16 ≤ cap' ∧ w.heap.size ≤ B ∧ B < w'.heap.size ∧ Has w' B .u8 (len + 16) (aout k n bl b len z)) ∧ Below w.heap.size w w'
end Go.Proofs.YtgfpflcoknpbdaaDoor
