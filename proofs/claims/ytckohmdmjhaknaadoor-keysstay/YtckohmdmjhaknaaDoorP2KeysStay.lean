/- Texts of Ba Ky Bp Bb Sc Vl Pz Bt Jz Ja Jl Jb Ea Mx My Ob Oc Va Qa Fq Oi Eb Gm Bg Ec Eg Eh, joined. -/
import Derived.Test.YtckohmdmjhaknaaDoorP1KeysStay
import Derived.Test.YtckohmdmjhaknaaDoorProg
import Derived.KernelRfl
import Derived.BigQuiet
import Derived.Deep.Cut
import Derived.Laws.Bits128
import Derived.Laws.StructEq
import Derived.Laws.Small
import Derived.Lib.ConvBytes
import Derived.Laws.Cells
import Derived.Defers
import Derived.Recover
set_option maxRecDepth 20000
set_option maxHeartbeats 64000000
namespace Go.Proofs.YtckohmdmjhaknaaDoor
open Go.RowKit
def mA (a b x : Int) : Int := had (had a b) x
def mD (p : Nat) (d a : Int) : Int := hrl p (hxr d a)
def bA1 (a b x : Int) : Int := mA a b x
def bD1 (a b d x : Int) : Int := mD 16 d (bA1 a b x)
def bC1 (a b c d x : Int) : Int := had c (bD1 a b d x)
def bB1 (a b c d x : Int) : Int := mD 20 b (bC1 a b c d x)
def bA (a b c d x y : Int) : Int := mA (bA1 a b x) (bB1 a b c d x) y
def bD (a b c d x y : Int) : Int := mD 24 (bD1 a b d x) (bA a b c d x y)
def bC (a b c d x y : Int) : Int := had (bC1 a b c d x) (bD a b c d x y)
def bB (a b c d x y : Int) : Int := mD 25 (bB1 a b c d x) (bC a b c d x y)
theorem mD_in (p : Nat) (d a : Int) (hd : 0 ≤ d ∧ d < V) (ha : 0 ≤ a ∧ a < V) : 0 ≤ mD p d a ∧ mD p d a < V := hrl_in _ _ (hxr_in _ _ hd ha)
theorem bA_in (a b c d x y : Int) : 0 ≤ bA a b c d x y ∧ bA a b c d x y < V := had_in _ _
theorem bD1_in (a b d x : Int) (hd : 0 ≤ d ∧ d < V) : 0 ≤ bD1 a b d x ∧ bD1 a b d x < V := mD_in _ _ _ hd (had_in _ _)
theorem bB1_in (a b c d x : Int) (hb : 0 ≤ b ∧ b < V) : 0 ≤ bB1 a b c d x ∧ bB1 a b c d x < V := mD_in _ _ _ hb (had_in _ _)
theorem bD_in (a b c d x y : Int) (hd : 0 ≤ d ∧ d < V) : 0 ≤ bD a b c d x y ∧ bD a b c d x y < V := mD_in _ _ _ (bD1_in a b d x hd) (had_in _ _)
theorem bC_in (a b c d x y : Int) : 0 ≤ bC a b c d x y ∧ bC a b c d x y < V := had_in _ _
theorem bB_in (a b c d x y : Int) (hb : 0 ≤ b ∧ b < V) : 0 ≤ bB a b c d x y ∧ bB a b c d x y < V := mD_in _ _ _ (bB1_in a b c d x hb) (had_in _ _)
def bMx (v : Nat → Int) (a b c d : Nat) (x y : Int) : Nat → Int :=
  upd (upd (upd (upd v a (bA (v a) (v b) (v c) (v d) x y)) b (bB (v a) (v b) (v c) (v d) x y)) c (bC (v a) (v b) (v c) (v d) x y)) d (bD (v a) (v b) (v c) (v d) x y)
theorem bMx_in (v : Nat → Int) (a b c d : Nat) (x y : Int) (hb : b < 16) (hd : d < 16) (h : In V 16 v) : In V 16 (bMx v a b c d x y) :=
  (((h.upd _ _ (bA_in _ _ _ _ _ _).1 (bA_in _ _ _ _ _ _).2).upd _ _ (bB_in _ _ _ _ _ _ (h b hb)).1 (bB_in _ _ _ _ _ _ (h b hb)).2).upd _ _ (bC_in _ _ _ _ _ _).1 (bC_in _ _ _ _ _ _).2).upd _ _ (bD_in _ _ _ _ _ _ (h d hd)).1 (bD_in _ _ _ _ _ _ (h d hd)).2
def sgL : List Nat := [0, 1, 2, 3, 4, 5, 6, 7, 8, 9, 10, 11, 12, 13, 14, 15, 14, 10, 4, 8, 9, 15, 13, 6, 1, 12, 0, 2, 11, 7, 5, 3, 11, 8, 12, 0, 5, 2, 15, 13, 10, 14, 3, 6, 7, 1, 9, 4, 7, 9, 3, 1, 13, 12, 11, 14, 2, 6, 5, 10, 4, 0, 15, 8, 9, 0, 5, 7, 2, 4, 10, 15, 14, 1, 11, 12, 6, 8, 3, 13, 2, 12, 6, 10, 0, 11, 8, 3, 4, 13, 7, 5, 15, 14, 1, 9, 12, 5, 1, 15, 14, 13, 4, 10, 0, 7, 6, 3, 9, 2, 8, 11, 13, 11, 7, 14, 12, 1, 3, 9, 5, 0, 15, 4, 8, 6, 2, 10, 6, 15, 14, 9, 11, 3, 0, 8, 12, 2, 13, 7, 1, 4, 10, 5, 10, 2, 8, 4, 7, 6, 1, 5, 15, 11, 9, 14, 3, 12, 13, 0]
def sg (r i : Nat) : Nat := sgL.getD (16 * r + i) 0
theorem sg_lt (r i : Nat) : sg r i < 16 := by
  unfold sg
  rw [List.getD_eq_getElem?_getD]
  cases e : sgL[16 * r + i]? with
  | none => simp
  | some x =>
    have h : ∀ x ∈ sgL, x < 16 := by decide +kernel
    simpa using h x (List.mem_of_getElem? e)
def bAt (m : Nat → Int) (s : Nat → Nat) (v : Nat → Int) (i : Nat) : Nat → Int := bMx v (pA i) (pB i) (pC i) (pD i) (m (s (2 * i))) (m (s (2 * i + 1)))
def bN (m : Nat → Int) (s : Nat → Nat) (v : Nat → Int) : Nat → Nat → Int
  | 0 => v
  | i + 1 => bAt m s (bN m s v i) i
def bR (m : Nat → Int) (v : Nat → Int) : Nat → Nat → Int
  | 0 => v
  | r + 1 => bN m (sg r) (bR m v r) 8
theorem bAt_in (m : Nat → Int) (s : Nat → Nat) (v : Nat → Int) (i : Nat) (h : In V 16 v) : In V 16 (bAt m s v i) := bMx_in _ _ _ _ _ _ _ (by have := pB_lt i; omega) (by have := pD_lt i; omega) h
theorem bN_in (m : Nat → Int) (s : Nat → Nat) (v : Nat → Int) (h : In V 16 v) : ∀ i, In V 16 (bN m s v i)
  | 0 => h
  | i + 1 => bAt_in _ _ _ _ (bN_in m s v h i)
theorem bR_in (m : Nat → Int) (v : Nat → Int) (h : In V 16 v) : ∀ r, In V 16 (bR m v r)
  | 0 => h
  | r + 1 => bN_in _ _ _ (bR_in m v h r) 8
def iv : Nat → Int := bl [1779033703, 3144134277, 1013904242, 2773480762, 1359893119, 2600822924, 528734635, 1541459225]
theorem iv_in : In V 8 iv := fun j hj => by
  match j, hj with
  | 0, _ | 1, _ | 2, _ | 3, _ | 4, _ | 5, _ | 6, _ | 7, _ => decide
def bst (h : Nat → Int) (t : Int) (last : Bool) : Nat → Int := six (h 0) (h 1) (h 2) (h 3) (h 4) (h 5) (h 6) (h 7) (iv 0) (iv 1) (iv 2) (iv 3) (hxr (iv 4) (t % 4294967296)) (hxr (iv 5) (t / 4294967296 % 4294967296)) (if last then 4294967295 - iv 6 else iv 6) (iv 7)
def bpw (z : Nat → Int) : Nat → Int := fun i => w32 z (4 * i)
def bpr (h : Nat → Int) (z : Nat → Int) (t : Int) (last : Bool) : Nat → Int := fun i => hxr (hxr (h i) (bR (bpw z) (bst h t last) 10 i)) (bR (bpw z) (bst h t last) 10 (i + 8))
theorem bst_in (h : Nat → Int) (t : Int) (last : Bool) (hh : In V 8 h) : In V 16 (bst h t last) :=
  six_in _ _ _ _ _ _ _ _ _ _ _ _ _ _ _ _ (hh 0 (by omega)) (hh 1 (by omega)) (hh 2 (by omega)) (hh 3 (by omega)) (hh 4 (by omega)) (hh 5 (by omega)) (hh 6 (by omega)) (hh 7 (by omega)) (iv_in 0 (by omega)) (iv_in 1 (by omega)) (iv_in 2 (by omega)) (iv_in 3 (by omega))
    (hxr_in _ _ (iv_in 4 (by omega)) (by simp only [V]; omega)) (hxr_in _ _ (iv_in 5 (by omega)) (by simp only [V]; omega)) (by have h6 := iv_in 6 (by omega); simp only [V] at h6 ⊢; split <;> omega) (iv_in 7 (by omega))
theorem bpr_in (h z : Nat → Int) (t : Int) (last : Bool) (hh : In V 8 h) : In V 8 (bpr h z t last) := fun j hj =>
  hxr_in _ _ (hxr_in _ _ (hh j hj) (bR_in _ _ (bst_in h t last hh) 10 j (by omega))) (bR_in _ _ (bst_in h t last hh) 10 (j + 8) (by omega))
def btl (kl len : Nat) : Nat := (if kl = 0 then 0 else 64) + len
def btx (kl : Nat) (key : Nat → Int) (len : Nat) (z : Nat → Int) : Nat → Int := fun j =>
  if kl = 0 then (if j < len then z j else 0) else if j < 64 then (if j < kl then key j else 0) else if j < 64 + len then z (j - 64) else 0
def bnb (kl len : Nat) : Nat := if btl kl len = 0 then 1 else (btl kl len + 63) / 64
def bh0 (kl size : Nat) : Nat → Int := upd iv 0 (hxr (hxr (hxr (iv 0) 16842752) (256 * (kl : Int))) (size : Int))
theorem bh0_in (kl size : Nat) (hk : kl ≤ 32) (hs : size ≤ 32) : In V 8 (bh0 kl size) := by
  have h := hxr_in _ _ (hxr_in _ _ (hxr_in _ _ (iv_in 0 (by omega)) (show 0 ≤ (16842752 : Int) ∧ (16842752 : Int) < V by decide)) (show 0 ≤ 256 * (kl : Int) ∧ 256 * (kl : Int) < V by simp only [V]; omega)) (show 0 ≤ (size : Int) ∧ (size : Int) < V by simp only [V]; omega)
  exact iv_in.upd _ _ h.1 h.2
def bH (kl : Nat) (key : Nat → Int) (size len : Nat) (z : Nat → Int) : Nat → Nat → Int
  | 0 => bh0 kl size
  | i + 1 => bpr (bH kl key size len z i) (fun j => btx kl key len z (64 * i + j)) ((min (64 * i + 64) (btl kl len) : Nat) : Int) (decide (i + 1 = bnb kl len))
def bsum (kl : Nat) (key : Nat → Int) (size len : Nat) (z : Nat → Int) : Nat → Int := fun j => b32 (bH kl key size len z (bnb kl len) (j / 4)) (j % 4)
theorem bsum_in (kl : Nat) (key : Nat → Int) (size len : Nat) (z : Nat → Int) (n : Nat) : In 256 n (bsum kl key size len z) := fun j _ => b32_in _ _ (Nat.mod_lt _ (by decide))
def bhash (len : Nat) (z : Nat → Int) : Nat → Int := bsum 0 (fun _ => 0) 32 len z
theorem bAt_six0 (m : Nat → Int) (s : Nat → Nat) (x0 x1 x2 x3 x4 x5 x6 x7 x8 x9 x10 x11 x12 x13 x14 x15 : Int) : bAt m s (six x0 x1 x2 x3 x4 x5 x6 x7 x8 x9 x10 x11 x12 x13 x14 x15) 0 = six (bA x0 x4 x8 x12 (m (s 0)) (m (s 1))) x1 x2 x3 (bB x0 x4 x8 x12 (m (s 0)) (m (s 1))) x5 x6 x7 (bC x0 x4 x8 x12 (m (s 0)) (m (s 1))) x9 x10 x11 (bD x0 x4 x8 x12 (m (s 0)) (m (s 1))) x13 x14 x15 := by
  show upd (upd (upd (upd (six x0 x1 x2 x3 x4 x5 x6 x7 x8 x9 x10 x11 x12 x13 x14 x15) 0 (bA x0 x4 x8 x12 (m (s 0)) (m (s 1)))) 4 (bB x0 x4 x8 x12 (m (s 0)) (m (s 1)))) 8 (bC x0 x4 x8 x12 (m (s 0)) (m (s 1)))) 12 (bD x0 x4 x8 x12 (m (s 0)) (m (s 1))) = _
  rw [upd_six0, upd_six4, upd_six8, upd_six12]
theorem bAt_six1 (m : Nat → Int) (s : Nat → Nat) (x0 x1 x2 x3 x4 x5 x6 x7 x8 x9 x10 x11 x12 x13 x14 x15 : Int) : bAt m s (six x0 x1 x2 x3 x4 x5 x6 x7 x8 x9 x10 x11 x12 x13 x14 x15) 1 = six x0 (bA x1 x5 x9 x13 (m (s 2)) (m (s 3))) x2 x3 x4 (bB x1 x5 x9 x13 (m (s 2)) (m (s 3))) x6 x7 x8 (bC x1 x5 x9 x13 (m (s 2)) (m (s 3))) x10 x11 x12 (bD x1 x5 x9 x13 (m (s 2)) (m (s 3))) x14 x15 := by
  show upd (upd (upd (upd (six x0 x1 x2 x3 x4 x5 x6 x7 x8 x9 x10 x11 x12 x13 x14 x15) 1 (bA x1 x5 x9 x13 (m (s 2)) (m (s 3)))) 5 (bB x1 x5 x9 x13 (m (s 2)) (m (s 3)))) 9 (bC x1 x5 x9 x13 (m (s 2)) (m (s 3)))) 13 (bD x1 x5 x9 x13 (m (s 2)) (m (s 3))) = _
  rw [upd_six1, upd_six5, upd_six9, upd_six13]
theorem bAt_six2 (m : Nat → Int) (s : Nat → Nat) (x0 x1 x2 x3 x4 x5 x6 x7 x8 x9 x10 x11 x12 x13 x14 x15 : Int) : bAt m s (six x0 x1 x2 x3 x4 x5 x6 x7 x8 x9 x10 x11 x12 x13 x14 x15) 2 = six x0 x1 (bA x2 x6 x10 x14 (m (s 4)) (m (s 5))) x3 x4 x5 (bB x2 x6 x10 x14 (m (s 4)) (m (s 5))) x7 x8 x9 (bC x2 x6 x10 x14 (m (s 4)) (m (s 5))) x11 x12 x13 (bD x2 x6 x10 x14 (m (s 4)) (m (s 5))) x15 := by
  show upd (upd (upd (upd (six x0 x1 x2 x3 x4 x5 x6 x7 x8 x9 x10 x11 x12 x13 x14 x15) 2 (bA x2 x6 x10 x14 (m (s 4)) (m (s 5)))) 6 (bB x2 x6 x10 x14 (m (s 4)) (m (s 5)))) 10 (bC x2 x6 x10 x14 (m (s 4)) (m (s 5)))) 14 (bD x2 x6 x10 x14 (m (s 4)) (m (s 5))) = _
  rw [upd_six2, upd_six6, upd_six10, upd_six14]
theorem bAt_six3 (m : Nat → Int) (s : Nat → Nat) (x0 x1 x2 x3 x4 x5 x6 x7 x8 x9 x10 x11 x12 x13 x14 x15 : Int) : bAt m s (six x0 x1 x2 x3 x4 x5 x6 x7 x8 x9 x10 x11 x12 x13 x14 x15) 3 = six x0 x1 x2 (bA x3 x7 x11 x15 (m (s 6)) (m (s 7))) x4 x5 x6 (bB x3 x7 x11 x15 (m (s 6)) (m (s 7))) x8 x9 x10 (bC x3 x7 x11 x15 (m (s 6)) (m (s 7))) x12 x13 x14 (bD x3 x7 x11 x15 (m (s 6)) (m (s 7))) := by
  show upd (upd (upd (upd (six x0 x1 x2 x3 x4 x5 x6 x7 x8 x9 x10 x11 x12 x13 x14 x15) 3 (bA x3 x7 x11 x15 (m (s 6)) (m (s 7)))) 7 (bB x3 x7 x11 x15 (m (s 6)) (m (s 7)))) 11 (bC x3 x7 x11 x15 (m (s 6)) (m (s 7)))) 15 (bD x3 x7 x11 x15 (m (s 6)) (m (s 7))) = _
  rw [upd_six3, upd_six7, upd_six11, upd_six15]
theorem bAt_six4 (m : Nat → Int) (s : Nat → Nat) (x0 x1 x2 x3 x4 x5 x6 x7 x8 x9 x10 x11 x12 x13 x14 x15 : Int) : bAt m s (six x0 x1 x2 x3 x4 x5 x6 x7 x8 x9 x10 x11 x12 x13 x14 x15) 4 = six (bA x0 x5 x10 x15 (m (s 8)) (m (s 9))) x1 x2 x3 x4 (bB x0 x5 x10 x15 (m (s 8)) (m (s 9))) x6 x7 x8 x9 (bC x0 x5 x10 x15 (m (s 8)) (m (s 9))) x11 x12 x13 x14 (bD x0 x5 x10 x15 (m (s 8)) (m (s 9))) := by
  show upd (upd (upd (upd (six x0 x1 x2 x3 x4 x5 x6 x7 x8 x9 x10 x11 x12 x13 x14 x15) 0 (bA x0 x5 x10 x15 (m (s 8)) (m (s 9)))) 5 (bB x0 x5 x10 x15 (m (s 8)) (m (s 9)))) 10 (bC x0 x5 x10 x15 (m (s 8)) (m (s 9)))) 15 (bD x0 x5 x10 x15 (m (s 8)) (m (s 9))) = _
  rw [upd_six0, upd_six5, upd_six10, upd_six15]
theorem bAt_six5 (m : Nat → Int) (s : Nat → Nat) (x0 x1 x2 x3 x4 x5 x6 x7 x8 x9 x10 x11 x12 x13 x14 x15 : Int) : bAt m s (six x0 x1 x2 x3 x4 x5 x6 x7 x8 x9 x10 x11 x12 x13 x14 x15) 5 = six x0 (bA x1 x6 x11 x12 (m (s 10)) (m (s 11))) x2 x3 x4 x5 (bB x1 x6 x11 x12 (m (s 10)) (m (s 11))) x7 x8 x9 x10 (bC x1 x6 x11 x12 (m (s 10)) (m (s 11))) (bD x1 x6 x11 x12 (m (s 10)) (m (s 11))) x13 x14 x15 := by
  show upd (upd (upd (upd (six x0 x1 x2 x3 x4 x5 x6 x7 x8 x9 x10 x11 x12 x13 x14 x15) 1 (bA x1 x6 x11 x12 (m (s 10)) (m (s 11)))) 6 (bB x1 x6 x11 x12 (m (s 10)) (m (s 11)))) 11 (bC x1 x6 x11 x12 (m (s 10)) (m (s 11)))) 12 (bD x1 x6 x11 x12 (m (s 10)) (m (s 11))) = _
  rw [upd_six1, upd_six6, upd_six11, upd_six12]
theorem bAt_six6 (m : Nat → Int) (s : Nat → Nat) (x0 x1 x2 x3 x4 x5 x6 x7 x8 x9 x10 x11 x12 x13 x14 x15 : Int) : bAt m s (six x0 x1 x2 x3 x4 x5 x6 x7 x8 x9 x10 x11 x12 x13 x14 x15) 6 = six x0 x1 (bA x2 x7 x8 x13 (m (s 12)) (m (s 13))) x3 x4 x5 x6 (bB x2 x7 x8 x13 (m (s 12)) (m (s 13))) (bC x2 x7 x8 x13 (m (s 12)) (m (s 13))) x9 x10 x11 x12 (bD x2 x7 x8 x13 (m (s 12)) (m (s 13))) x14 x15 := by
  show upd (upd (upd (upd (six x0 x1 x2 x3 x4 x5 x6 x7 x8 x9 x10 x11 x12 x13 x14 x15) 2 (bA x2 x7 x8 x13 (m (s 12)) (m (s 13)))) 7 (bB x2 x7 x8 x13 (m (s 12)) (m (s 13)))) 8 (bC x2 x7 x8 x13 (m (s 12)) (m (s 13)))) 13 (bD x2 x7 x8 x13 (m (s 12)) (m (s 13))) = _
  rw [upd_six2, upd_six7, upd_six8, upd_six13]
theorem bAt_six7 (m : Nat → Int) (s : Nat → Nat) (x0 x1 x2 x3 x4 x5 x6 x7 x8 x9 x10 x11 x12 x13 x14 x15 : Int) : bAt m s (six x0 x1 x2 x3 x4 x5 x6 x7 x8 x9 x10 x11 x12 x13 x14 x15) 7 = six x0 x1 x2 (bA x3 x4 x9 x14 (m (s 14)) (m (s 15))) (bB x3 x4 x9 x14 (m (s 14)) (m (s 15))) x5 x6 x7 x8 (bC x3 x4 x9 x14 (m (s 14)) (m (s 15))) x10 x11 x12 x13 (bD x3 x4 x9 x14 (m (s 14)) (m (s 15))) x15 := by
  show upd (upd (upd (upd (six x0 x1 x2 x3 x4 x5 x6 x7 x8 x9 x10 x11 x12 x13 x14 x15) 3 (bA x3 x4 x9 x14 (m (s 14)) (m (s 15)))) 4 (bB x3 x4 x9 x14 (m (s 14)) (m (s 15)))) 9 (bC x3 x4 x9 x14 (m (s 14)) (m (s 15)))) 14 (bD x3 x4 x9 x14 (m (s 14)) (m (s 15))) = _
  rw [upd_six3, upd_six4, upd_six9, upd_six14]
def evb8 {α : Type} (m : Nat → Int) (s : Nat → Nat) (x0 x1 x2 x3 x4 x5 x6 x7 x8 x9 x10 x11 x12 x13 x14 x15 : Int) (f : Int → Int → Int → Int → Int → Int → Int → Int → Int → Int → Int → Int → Int → Int → Int → Int → α) : α :=
  forceI (had (had x0 x4) (m (s 0))) fun x0 => forceI (hrl 16 (hxr x12 x0)) fun x12 => forceI (had x8 x12) fun x8 => forceI (hrl 20 (hxr x4 x8)) fun x4 =>
  forceI (had (had x0 x4) (m (s 1))) fun x0 => forceI (hrl 24 (hxr x12 x0)) fun x12 => forceI (had x8 x12) fun x8 => forceI (hrl 25 (hxr x4 x8)) fun x4 =>
  forceI (had (had x1 x5) (m (s 2))) fun x1 => forceI (hrl 16 (hxr x13 x1)) fun x13 => forceI (had x9 x13) fun x9 => forceI (hrl 20 (hxr x5 x9)) fun x5 =>
  forceI (had (had x1 x5) (m (s 3))) fun x1 => forceI (hrl 24 (hxr x13 x1)) fun x13 => forceI (had x9 x13) fun x9 => forceI (hrl 25 (hxr x5 x9)) fun x5 =>
  forceI (had (had x2 x6) (m (s 4))) fun x2 => forceI (hrl 16 (hxr x14 x2)) fun x14 => forceI (had x10 x14) fun x10 => forceI (hrl 20 (hxr x6 x10)) fun x6 =>
  forceI (had (had x2 x6) (m (s 5))) fun x2 => forceI (hrl 24 (hxr x14 x2)) fun x14 => forceI (had x10 x14) fun x10 => forceI (hrl 25 (hxr x6 x10)) fun x6 =>
  forceI (had (had x3 x7) (m (s 6))) fun x3 => forceI (hrl 16 (hxr x15 x3)) fun x15 => forceI (had x11 x15) fun x11 => forceI (hrl 20 (hxr x7 x11)) fun x7 =>
  forceI (had (had x3 x7) (m (s 7))) fun x3 => forceI (hrl 24 (hxr x15 x3)) fun x15 => forceI (had x11 x15) fun x11 => forceI (hrl 25 (hxr x7 x11)) fun x7 =>
  forceI (had (had x0 x5) (m (s 8))) fun x0 => forceI (hrl 16 (hxr x15 x0)) fun x15 => forceI (had x10 x15) fun x10 => forceI (hrl 20 (hxr x5 x10)) fun x5 =>
  forceI (had (had x0 x5) (m (s 9))) fun x0 => forceI (hrl 24 (hxr x15 x0)) fun x15 => forceI (had x10 x15) fun x10 => forceI (hrl 25 (hxr x5 x10)) fun x5 =>
  forceI (had (had x1 x6) (m (s 10))) fun x1 => forceI (hrl 16 (hxr x12 x1)) fun x12 => forceI (had x11 x12) fun x11 => forceI (hrl 20 (hxr x6 x11)) fun x6 =>
  forceI (had (had x1 x6) (m (s 11))) fun x1 => forceI (hrl 24 (hxr x12 x1)) fun x12 => forceI (had x11 x12) fun x11 => forceI (hrl 25 (hxr x6 x11)) fun x6 =>
  forceI (had (had x2 x7) (m (s 12))) fun x2 => forceI (hrl 16 (hxr x13 x2)) fun x13 => forceI (had x8 x13) fun x8 => forceI (hrl 20 (hxr x7 x8)) fun x7 =>
  forceI (had (had x2 x7) (m (s 13))) fun x2 => forceI (hrl 24 (hxr x13 x2)) fun x13 => forceI (had x8 x13) fun x8 => forceI (hrl 25 (hxr x7 x8)) fun x7 =>
  forceI (had (had x3 x4) (m (s 14))) fun x3 => forceI (hrl 16 (hxr x14 x3)) fun x14 => forceI (had x9 x14) fun x9 => forceI (hrl 20 (hxr x4 x9)) fun x4 =>
  forceI (had (had x3 x4) (m (s 15))) fun x3 => forceI (hrl 24 (hxr x14 x3)) fun x14 => forceI (had x9 x14) fun x9 => forceI (hrl 25 (hxr x4 x9)) fun x4 =>
  f x0 x1 x2 x3 x4 x5 x6 x7 x8 x9 x10 x11 x12 x13 x14 x15
def evF (m : Nat → Int) : Nat → Nat → Int → Int → Int → Int → Int → Int → Int → Int → Int → Int → Int → Int → Int → Int → Int → Int → Nat → Int
  | 0, _, x0, x1, x2, x3, x4, x5, x6, x7, x8, x9, x10, x11, x12, x13, x14, x15 => six x0 x1 x2 x3 x4 x5 x6 x7 x8 x9 x10 x11 x12 x13 x14 x15
  | n + 1, r, x0, x1, x2, x3, x4, x5, x6, x7, x8, x9, x10, x11, x12, x13, x14, x15 => evb8 m (sg r) x0 x1 x2 x3 x4 x5 x6 x7 x8 x9 x10 x11 x12 x13 x14 x15 (evF m n (r + 1))
def bF (m : Nat → Int) : Nat → Nat → (Nat → Int) → Nat → Int
  | 0, _, v => v
  | n + 1, r, v => bF m n (r + 1) (bN m (sg r) v 8)
theorem bF_eq (m v : Nat → Int) : ∀ n r, bF m n r (bR m v r) = bR m v (r + n)
  | 0, _ => rfl
  | n + 1, r => by
    show bF m n (r + 1) (bR m v (r + 1)) = _
    rw [bF_eq m v n (r + 1), show r + 1 + n = r + (n + 1) by omega]
theorem evF_eq (m : Nat → Int) : ∀ (n r : Nat) (x0 x1 x2 x3 x4 x5 x6 x7 x8 x9 x10 x11 x12 x13 x14 x15 : Int), evF m n r x0 x1 x2 x3 x4 x5 x6 x7 x8 x9 x10 x11 x12 x13 x14 x15 = bF m n r (six x0 x1 x2 x3 x4 x5 x6 x7 x8 x9 x10 x11 x12 x13 x14 x15)
  | 0, _, _, _, _, _, _, _, _, _, _, _, _, _, _, _, _, _ => rfl
  | n + 1, r, x0, x1, x2, x3, x4, x5, x6, x7, x8, x9, x10, x11, x12, x13, x14, x15 => by
    show evb8 m (sg r) x0 x1 x2 x3 x4 x5 x6 x7 x8 x9 x10 x11 x12 x13 x14 x15 (evF m n (r + 1)) = bF m n (r + 1) (bAt m (sg r) (bAt m (sg r) (bAt m (sg r) (bAt m (sg r) (bAt m (sg r) (bAt m (sg r) (bAt m (sg r) (bAt m (sg r) (six x0 x1 x2 x3 x4 x5 x6 x7 x8 x9 x10 x11 x12 x13 x14 x15) 0) 1) 2) 3) 4) 5) 6) 7)
    rw [bAt_six0, bAt_six1, bAt_six2, bAt_six3, bAt_six4, bAt_six5, bAt_six6, bAt_six7, ← evF_eq m n (r + 1)]
    simp only [evb8, forceI_eq]
    rfl
def evP (h z : Nat → Int) (t : Int) (last : Bool) : Nat → Int := fun i => hxr (hxr (h i) (evF (bpw z) 10 0 (h 0) (h 1) (h 2) (h 3) (h 4) (h 5) (h 6) (h 7) (iv 0) (iv 1) (iv 2) (iv 3) (hxr (iv 4) (t % 4294967296)) (hxr (iv 5) (t / 4294967296 % 4294967296)) (if last then 4294967295 - iv 6 else iv 6) (iv 7) i))
  (evF (bpw z) 10 0 (h 0) (h 1) (h 2) (h 3) (h 4) (h 5) (h 6) (h 7) (iv 0) (iv 1) (iv 2) (iv 3) (hxr (iv 4) (t % 4294967296)) (hxr (iv 5) (t / 4294967296 % 4294967296)) (if last then 4294967295 - iv 6 else iv 6) (iv 7) (i + 8))
theorem evP_eq (h z : Nat → Int) (t : Int) (last : Bool) : bpr h z t last = evP h z t last := by
  have e : ∀ v, bR (bpw z) v 10 = bF (bpw z) 10 0 v := fun v => (bF_eq (bpw z) v 10 0).symm
  funext i
  unfold bpr evP bst
  rw [e, evF_eq]
theorem key_info (f : Nat → Int) : (Tryd.prog.info? 23).map (·.size) = some (row .u8 32 f).length := by rw [row_length]; kernel_rfl
theorem key_info' (f : Nat → Int) : (Tryd.prog.info? 23).map (·.size) = some (row .u8 32 f).toArray.size := by rw [List.size_toArray]; exact key_info f
theorem key_zero (w : World) (t : TypeId) (b : Nat) (hb : b = w.heap.size) : Has (w.alloc (.cells zu8_32 t)) b .u8 32 (fun _ => 0) := Has.new w .u8 32 (fun _ => 0) t b hb
theorem bshlI {P : Program} {o : Oper} {a : Act} (k yk : IntKind) (n y r : Int) (t t' : TypeId) (x x' : Operand) (ho : o.op = .binOp .shl t x x' t') (hx : a.eval x = .int k n) (hy : a.eval x' = .int yk y) (h0 : 0 ≤ y) (hr : k.wrap (n * 2 ^ min y.toNat k.bits) = r) (w : World) : (execOp a.eval o).run P w = .ok (.value (.int k r)) w := by
  unfold execOp
  simp only [ho, hx, hy, Sem.run_bind, eqGuard_at_int, binOp_shl, shift_shl_any k yk n y h0, Sem.run_pure, Result.andThen_ok, hr]
theorem notI {P : Program} {o : Oper} {a : Act} (k : IntKind) (n r : Int) (t : TypeId) (x : Operand) (ho : o.op = .unOp .xor t x) (hx : a.eval x = .int k n) (hr : bits .xor k (if k.signed then -1 else k.max) n = r) (w : World) : (execOp a.eval o).run P w = .ok (.value (.int k r)) w := by
  unfold execOp
  simp only [ho, hx, unary_xor, intBits_xor, Sem.run_bind, Sem.run_pure, Result.andThen_ok, hr]
theorem bst_of (h : Nat → Int) (t : Int) (f : Nat → Int) (last : Bool) (he : ∀ j, f j = upd (upd (app h 8 iv) 12 (hxr (iv 4) (t % 4294967296))) 13 (hxr (iv 5) (t / 4294967296 % 4294967296)) j) : ∀ j, j < 16 → (if last then upd f 14 (4294967295 - iv 6) else f) j = bst h t last j := fun j hj => by
  have e14 : bst h t last 14 = if last then 4294967295 - iv 6 else iv 6 := rfl
  have hne : j ≠ 14 → f j = bst h t last j := fun e => by
    rw [he j]
    match j, hj, e with
    | 0, _, _ | 1, _, _ | 2, _, _ | 3, _, _ | 4, _, _ | 5, _, _ | 6, _, _ | 7, _, _ | 8, _, _ | 9, _, _ | 10, _, _ | 11, _, _ | 12, _, _ | 13, _, _ | 15, _, _ => rfl
    | 14, _, e => exact absurd rfl e
    | _ + 16, hj, _ => omega
  have h14 : f 14 = iv 6 := he 14
  by_cases e : j = 14
  · subst e
    rw [e14]
    cases last
    · rw [if_neg (by decide), if_neg (by decide)]; exact h14
    · rw [if_pos rfl, if_pos rfl, upd_same]
  · cases last
    · rw [if_neg (by decide)]; exact hne e
    · rw [if_pos rfl, upd_other _ _ _ _ e]; exact hne e
def bkk (kl : Nat) (key : Nat → Int) : Nat → Int := fun j => if kl ≤ 64 then (if j < kl then key j else 0) else if j < 32 then bhash kl key j else 0
def bxx (c : Int) (k : Nat → Int) : Nat → Int := fun j => bits .xor .u8 (k j) c
def bmac (kl : Nat) (key : Nat → Int) (len : Nat) (z : Nat → Int) : Nat → Int := bhash 96 (app (bxx 92 (bkk kl key)) 64 (bhash (64 + len) (app (bxx 54 (bkk kl key)) 64 z)))
theorem bhash_in (len : Nat) (z : Nat → Int) (n : Nat) : In 256 n (bhash len z) := bsum_in _ _ _ _ _ _
theorem bxx_in (c : Int) (hc : 0 ≤ c ∧ c < 256) (k : Nat → Int) (n : Nat) (hk : In 256 n k) : In 256 n (bxx c k) := fun j hj => by
  unfold bxx
  obtain ⟨x, hx⟩ := Int.eq_ofNat_of_zero_le (hk j hj).1
  obtain ⟨y, rfl⟩ := Int.eq_ofNat_of_zero_le hc.1
  have h1 := (hk j hj).2
  rw [hx] at h1 ⊢
  have h : x ^^^ y < 2 ^ 8 := Nat.xor_lt_two_pow (by omega) (by omega)
  rw [u8_xor_nat x y (by omega) (by omega)]
  omega
theorem app_in (n m : Nat) (f g : Nat → Int) (hf : In 256 n f) (hg : In 256 m g) : In 256 (n + m) (app f n g) := fun j hj => by
  unfold app
  split
  · exact hf j (by assumption)
  · exact hg _ (by omega)
section
theorem Src.none {w : World} {sp : Option Addr} {len : Nat} {z : Nat → Int} (h : Src w sp len z) : sp = none → len = 0 := fun e => by
  rcases Nat.eq_zero_or_pos len with h0 | h0
  · exact h0
  · obtain ⟨ad, he, _⟩ := h 0 h0
    rw [e] at he
    cases he
section
variable {P : Program} {o : Oper} {a : Act}
theorem negI (k : IntKind) (n r : Int) (t : TypeId) (x : Operand) (ho : o.op = .unOp .neg t x) (hx : a.eval x = .int k n) (hr : k.wrap (0 - n) = r) (w : World) : (execOp a.eval o).run P w = .ok (.value (.int k r)) w := by
  unfold execOp
  simp only [ho, hx, Op.unary, Op.intArith, Sem.run_bind, Sem.run_pure, Result.andThen_ok, hr]
theorem cut_hi {t : TypeId} (ht : P.underlying t = some (.slice (P.elem t))) (hsz : ∀ w, (sizeOf (P.elem t)).run P w = .ok 1 w) (sp : Option Addr) (len cap m : Nat) (hm : m ≤ len) (hc : len ≤ cap) :
    ∃ sp', (∀ w, (Instr.sliceAt t (.slice sp len cap) none (some (.int .i64 (m : Int))) none).run P w = .ok (.slice sp' m cap) w) ∧ ∀ w z, Src w sp len z → Src w sp' m z := by
  refine ⟨if cap = 0 then sp else sp.map (·.add (0 * 1)), fun w => ?_, fun w z h j hj => ?_⟩
  · rw [run_sliceAt_slice w t _ _ _ _ ht, run_slice_h w t sp len cap ht .i64 (m : Int) (by omega) (by omega), hsz]
    simp only [Result.andThen, sliced, Int.toNat_natCast, Nat.sub_zero]
  · obtain ⟨ad, rfl, hc'⟩ := h j (by omega)
    rw [if_neg (by omega)]
    exact ⟨ad.add (0 * 1), rfl, by rw [Nat.zero_mul, Addr.add_add, Nat.zero_add]; exact hc'⟩
theorem cut_lo {t : TypeId} (ht : P.underlying t = some (.slice (P.elem t))) (hsz : ∀ w, (sizeOf (P.elem t)).run P w = .ok 1 w) (sp : Option Addr) (len cap m : Nat) (hm : m ≤ len) (hc : len ≤ cap) :
    ∃ sp', (∀ w, (Instr.sliceAt t (.slice sp len cap) (some (.int .i64 (m : Int))) none none).run P w = .ok (.slice sp' (len - m) (cap - m)) w) ∧ ∀ w z, Src w sp len z → Src w sp' (len - m) (fun j => z (m + j)) := by
  refine ⟨if cap = m then sp else sp.map (·.add (m * 1)), fun w => ?_, fun w z h j hj => ?_⟩
  · rw [run_sliceAt_slice w t _ _ _ _ ht, run_slice_l w t sp len cap ht .i64 (m : Int) (by omega) (by omega), hsz]
    simp only [Result.andThen, sliced, Int.toNat_natCast]
  · obtain ⟨ad, rfl, hc'⟩ := h (m + j) (by omega)
    rw [if_neg (by omega)]
    exact ⟨ad.add (m * 1), rfl, by rw [Nat.mul_one, Addr.add_add]; exact hc'⟩
end
end
section
section
variable {P : Program} {o : Oper} {a : Act}
theorem gtrI (k : IntKind) (n n' : Int) (t t' : TypeId) (x y : Operand) (ho : o.op = .binOp .gtr t x y t') (hx : a.eval x = .int k n) (hy : a.eval y = .int k n') (r : Bool) (hr : decide (n > n') = r) (w : World) : (execOp a.eval o).run P w = .ok (.value (.bool r)) w := by
  unfold execOp
  simp only [ho, hx, hy, Sem.run_bind, eqGuard_at_int, binOp_gtr, Sem.run_pure, Result.andThen_ok, hr]
theorem geqI (k : IntKind) (n n' : Int) (t t' : TypeId) (x y : Operand) (ho : o.op = .binOp .geq t x y t') (hx : a.eval x = .int k n) (hy : a.eval y = .int k n') (r : Bool) (hr : decide (n ≥ n') = r) (w : World) : (execOp a.eval o).run P w = .ok (.value (.bool r)) w := by
  unfold execOp
  simp only [ho, hx, hy, Sem.run_bind, eqGuard_at_int, binOp_geq, Sem.run_pure, Result.andThen_ok, hr]
end
end
def padz (len : Nat) (z : Nat → Int) : Nat → Int := fun j => if j < len then z j else 0
theorem padz_in (len : Nat) (z : Nat → Int) (hz : In 256 len z) (n : Nat) : In 256 n (padz len z) := fun j _ => by
  unfold padz
  split
  · exact hz j (by assumption)
  · omega
def bout (h : Nat → Int) : Nat → Int := fun j => b32 (h (j / 4)) (j % 4)
def nbt (n : Nat) : Nat := if n = 0 then 1 else (n + 63) / 64
def tH (h0 : Nat → Int) (n : Nat) (f : Nat → Int) : Nat → Nat → Int
  | 0 => h0
  | i + 1 => bpr (tH h0 n f i) (fun j => f (64 * i + j)) ((min (64 * i + 64) n : Nat) : Int) (decide (i + 1 = nbt n))
theorem tH_in (h0 : Nat → Int) (n : Nat) (f : Nat → Int) (h : In V 8 h0) : ∀ i, In V 8 (tH h0 n f i)
  | 0 => h
  | i + 1 => bpr_in _ _ _ _ (tH_in h0 n f h i)
theorem bH_tH (kl : Nat) (key : Nat → Int) (size len : Nat) (z : Nat → Int) : ∀ i, bH kl key size len z i = tH (bh0 kl size) (btl kl len) (btx kl key len z) i
  | 0 => rfl
  | i + 1 => by
    unfold bH tH
    rw [bH_tH kl key size len z i]
    rfl
theorem bsum_tH (kl : Nat) (key : Nat → Int) (size len : Nat) (z : Nat → Int) : bsum kl key size len z = bout (tH (bh0 kl size) (btl kl len) (btx kl key len z) (nbt (btl kl len))) := by
  funext j
  unfold bsum bout
  rw [bH_tH]
  rfl
theorem bN_congr (m m' : Nat → Int) (r : Nat) (h : ∀ i, i < 16 → m i = m' i) (v : Nat → Int) : ∀ k, bN m (sg r) v k = bN m' (sg r) v k
  | 0 => rfl
  | k + 1 => by
    unfold bN
    rw [bN_congr m m' r h v k]
    unfold bAt
    rw [h _ (sg_lt r _), h _ (sg_lt r _)]
theorem bR_congr (m m' : Nat → Int) (h : ∀ i, i < 16 → m i = m' i) (v : Nat → Int) : ∀ r, bR m v r = bR m' v r
  | 0 => rfl
  | r + 1 => by
    unfold bR
    rw [bR_congr m m' h v r, bN_congr m m' r h]
theorem bpr_congr (h z z' : Nat → Int) (t : Int) (last : Bool) (e : ∀ j, j < 64 → z j = z' j) : bpr h z t last = bpr h z' t last := by
  funext i
  unfold bpr
  rw [bR_congr (bpw z) (bpw z') (fun i hi => by unfold bpw w32; rw [e _ (by omega), e _ (by omega), e _ (by omega), e _ (by omega)])]
def tx2 (fl : Nat) (y : Nat → Int) (len : Nat) (z : Nat → Int) : Nat → Int := fun j => if j < fl then y j else padz len z (j - fl)
theorem tx2_none (y z : Nat → Int) (j : Nat) : tx2 64 y 0 z (64 * 0 + j) = padz 64 y j := by
  unfold tx2 padz
  rw [Nat.mul_zero, Nat.zero_add]
  by_cases e : j < 64
  · rw [if_pos e, if_pos e]
  · rw [if_neg e, if_neg e, if_neg (Nat.not_lt_zero _)]
theorem bhash_tx2 (fl : Nat) (y : Nat → Int) (len : Nat) (z : Nat → Int) : bhash (fl + len) (app y fl z) = bout (tH (bh0 0 32) (fl + len) (tx2 fl y len z) (nbt (fl + len))) := by
  have e1 : btl 0 (fl + len) = fl + len := Nat.zero_add _
  have e2 : btx 0 (fun _ => 0) (fl + len) (app y fl z) = tx2 fl y len z := by
    funext j
    unfold btx tx2 padz app
    rw [if_pos rfl]
    by_cases e : j < fl
    · rw [if_pos (by omega), if_pos e, if_pos e]
    · rw [if_neg e, if_neg e]
      by_cases e3 : j < fl + len
      · rw [if_pos e3, if_pos (by omega)]
      · rw [if_neg e3, if_neg (by omega)]
  unfold bhash
  rw [bsum_tH, e1, e2]
def zs (s : ByteArray) : Nat → Int := fun j => ((s.data.toList.getD j 0).toNat : Int)
theorem zs_in (s : ByteArray) (n : Nat) : In 256 n (zs s) := fun j _ => by
  have h : (s.data.toList.getD j 0).toNat < 256 := UInt8.toNat_lt _
  unfold zs
  omega
theorem bmac_in (kl : Nat) (key : Nat → Int) (len : Nat) (z : Nat → Int) (n : Nat) : In 256 n (bmac kl key len z) := bhash_in _ _ n
def klen : Nat → Nat
  | 0 => 0
  | _ + 1 => 32
def ktx (il : Nat) (inf : Nat → Int) (i : Nat) (t : Nat → Int) : Nat → Int := app (app t (klen i) inf) (klen i + il) (fun _ => ((i + 1 : Nat) : Int))
def kT (k : Nat → Int) (il : Nat) (inf : Nat → Int) : Nat → Nat → Int
  | 0 => fun _ => 0
  | i + 1 => bmac 32 k (klen i + il + 1) (ktx il inf i (kT k il inf i))
theorem kT_in (k : Nat → Int) (il : Nat) (inf : Nat → Int) (n : Nat) : ∀ i, In 256 n (kT k il inf i)
  | 0 => fun _ _ => ⟨Int.le_refl 0, (by decide : (0 : Int) < 256)⟩
  | _ + 1 => bmac_in _ _ _ _ _
def oct {α : Type} (g : Nat → Int) (k : (Nat → Int) → α) : α :=
  forceI (g 0) fun a0 => forceI (g 1) fun a1 => forceI (g 2) fun a2 => forceI (g 3) fun a3 => forceI (g 4) fun a4 => forceI (g 5) fun a5 => forceI (g 6) fun a6 => forceI (g 7) fun a7 => k (bl [a0, a1, a2, a3, a4, a5, a6, a7])
theorem oct_eq {α : Type} (g : Nat → Int) (k : (Nat → Int) → α) : oct g k = k (bl [g 0, g 1, g 2, g 3, g 4, g 5, g 6, g 7]) := by simp only [oct, forceI_eq]
theorem oct_bl (g : Nat → Int) : ∀ i, i < 8 → bl [g 0, g 1, g 2, g 3, g 4, g 5, g 6, g 7] i = g i
  | 0, _ | 1, _ | 2, _ | 3, _ | 4, _ | 5, _ | 6, _ | 7, _ => rfl
  | _ + 8, h => by omega
theorem evP_congr (h h' z : Nat → Int) (t : Int) (last : Bool) (e : ∀ i, i < 8 → h i = h' i) (i : Nat) (hi : i < 8) : evP h z t last i = evP h' z t last i := by
  unfold evP
  rw [e 0 (by decide), e 1 (by decide), e 2 (by decide), e 3 (by decide), e 4 (by decide), e 5 (by decide), e 6 (by decide), e 7 (by decide), e i hi]
def evT {α : Type} (n : Nat) (f : Nat → Int) : Nat → Nat → (Nat → Int) → ((Nat → Int) → α) → α
  | 0, _, h, k => k h
  | m + 1, i, h, k => oct (evP h (fun j => f (64 * i + j)) ((min (64 * i + 64) n : Nat) : Int) (decide (i + 1 = nbt n))) fun h' => evT n f m (i + 1) h' k
theorem evT_eq {α : Type} (h0 : Nat → Int) (n : Nat) (f : Nat → Int) (k : (Nat → Int) → α) (hk : ∀ h h', (∀ i, i < 8 → h i = h' i) → k h = k h') : ∀ m i h, (∀ j, j < 8 → h j = tH h0 n f i j) → evT n f m i h k = k (tH h0 n f (i + m))
  | 0, _, _, e => hk _ _ e
  | m + 1, i, h, e => by
    show oct _ _ = _
    rw [oct_eq, show i + (m + 1) = i + 1 + m by omega]
    refine evT_eq h0 n f k hk m (i + 1) _ fun j hj => ?_
    rw [oct_bl _ j hj, evP_congr h (tH h0 n f i) _ _ _ e j hj, ← evP_eq]
    rfl
theorem bout_congr (h h' : Nat → Int) (e : ∀ i, i < 8 → h i = h' i) : ∀ j, j < 32 → bout h j = bout h' j := fun j hj => by
  unfold bout
  rw [e _ (by omega)]
def evM (yo yi : Nat → Int) (len : Nat) (z : Nat → Int) (j : Nat) : Int :=
  evT (64 + len) (tx2 64 yi len z) (nbt (64 + len)) 0 (bh0 0 32) fun h => evT (64 + 32) (tx2 64 yo 32 (bout h)) (nbt (64 + 32)) 0 (bh0 0 32) fun g => bout g j
theorem evM_eq (kl : Nat) (key : Nat → Int) (len : Nat) (z : Nat → Int) (j : Nat) (hj : j < 32) : bmac kl key len z j = evM (bxx 92 (bkk kl key)) (bxx 54 (bkk kl key)) len z j := by
  unfold evM
  have e2 : ∀ h : Nat → Int, evT (64 + 32) (tx2 64 (bxx 92 (bkk kl key)) 32 (bout h)) (nbt (64 + 32)) 0 (bh0 0 32) (fun g => bout g j) = bout (tH (bh0 0 32) (64 + 32) (tx2 64 (bxx 92 (bkk kl key)) 32 (bout h)) (0 + nbt (64 + 32))) j :=
    fun h => evT_eq (bh0 0 32) _ _ (fun g => bout g j) (fun h h' e => bout_congr h h' e j hj) _ 0 _ (fun _ _ => rfl)
  have ec : ∀ h h' : Nat → Int, (∀ i, i < 8 → h i = h' i) → tx2 64 (bxx 92 (bkk kl key)) 32 (bout h) = tx2 64 (bxx 92 (bkk kl key)) 32 (bout h') := fun h h' e => by
    funext q
    unfold tx2 padz
    by_cases e1 : q < 64
    · rw [if_pos e1, if_pos e1]
    · rw [if_neg e1, if_neg e1]
      by_cases e3 : q - 64 < 32
      · rw [if_pos e3, if_pos e3]; exact bout_congr h h' e _ e3
      · rw [if_neg e3, if_neg e3]
  rw [evT_eq (bh0 0 32) _ _ _ (fun h h' e => by rw [ec h h' e]) _ 0 (bh0 0 32) (fun _ _ => rfl), e2, Nat.zero_add, Nat.zero_add]
  unfold bmac
  rw [← bhash_tx2 64 (bxx 54 (bkk kl key)) len z, ← bhash_tx2 64 (bxx 92 (bkk kl key)) 32]
def sLater : ByteArray := ⟨#[115, 104, 101, 97, 118, 101, 32, 108, 97, 116, 101, 114]⟩
def sKey : ByteArray := ⟨#[115, 104, 101, 97, 118, 101, 32, 107, 101, 121]⟩
section
theorem bytes_below (w : World) (e : TypeId) (s : ByteArray) : Below w.heap.size w (Lib.bytesWorld w e s) :=
  ⟨rfl, rfl, rfl, by rw [Lib.bytesWorld_size]; omega, fun j hj => Lib.bytesWorld_at_old w e s j hj⟩
theorem bytes_src (w : World) (e : TypeId) (s : ByteArray) : Src (Lib.bytesWorld w e s) (some ⟨w.heap.size, 0, none⟩) s.size (zs s) := fun j hj => ⟨_, rfl, by
  rw [Addr.add_mid, Nat.zero_add]
  exact Lib.bytesWorld_cell w e s j hj⟩
theorem convStr {P : Program} {o : Oper} {a : Act} {w : World} (t t' e : TypeId) (x : Operand) (s : ByteArray) (ho : o.op = .convert t t' x) (hx : a.eval x = .string s) (ht : P.underlying t = some .string) (hd : P.underlying t' = some (.slice e)) (he : P.underlying e = some (.int .u8)) :
    (execOp a.eval o).run P w = .ok (.value (.slice (some ⟨w.heap.size, 0, none⟩) s.size (grownCap w s.size 0 e))) (Lib.bytesWorld w e s) := by
  unfold execOp
  simp only [ho, hx, Sem.run_bind, Lib.run_convert_string_bytes w t t' e s ht hd he, Sem.run_pure, Result.andThen_ok]
theorem neq_rows {P : Program} (w : World) (t e : TypeId) (n : Nat) (ht : P.underlying t = some (.array n e)) (he : P.underlying e = some (.int .u8)) (hsz : ∀ w, (sizeOf e).run P w = .ok 1 w) (f g : Nat → Int) (hf : In 256 n f) (hg : In 256 n g) :
    (binOp .neq t (.agg (row .u8 n f).toArray) (.agg (row .u8 n g).toArray)).run P w = .ok (.bool (!decide (val 256 f n = val 256 g n))) w := by
  rw [row_bytes n f hf, row_bytes n g hg, run_neq_struct, run_equalIn_bytes w 9998 t e n ht he hsz _ _ (by simp [bytesOf]) (by simp [bytesOf]), bytesOf_inj n f g hf hg]
  rfl
theorem neqV {P : Program} {o : Oper} {a : Act} (n : Nat) (f g : Nat → Int) (t e t' : TypeId) (x y : Operand) (ho : o.op = .binOp .neq t x y t') (hx : a.eval x = .agg (row .u8 n f).toArray) (hy : a.eval y = .agg (row .u8 n g).toArray)
    (ht : P.underlying t = some (.array n e)) (he : P.underlying e = some (.int .u8)) (hsz : ∀ w, (sizeOf e).run P w = .ok 1 w) (hm : P.eqGuardType P.depth t = false) (hf : In 256 n f) (hg : In 256 n g) (r : Bool) (hr : (!decide (val 256 f n = val 256 g n)) = r) (w : World) :
    (execOp a.eval o).run P w = .ok (.value (.bool r)) w := by
  unfold execOp
  simp only [ho, hx, hy, Sem.run_bind, run_eqGuard_agg w .neq t x y _ _ hm, Result.andThen_ok, neq_rows w t e n ht he hsz f g hf hg, Sem.run_pure, hr]
section
variable {P : Program} {ops : Array Oper} {Q : Exit → Act → World → Prop} {md : Region.Mode} {S : World → Prop}
end
end
theorem kcutAll (b : Nat) (w : World) : (Instr.sliceAt 23 (.pointer (some ⟨b, 0, none⟩)) none none none).run Tryd.prog w = .ok (.slice (some ⟨b, 0, none⟩) 32 32) w := by kernel_rfl
def ylt (k : Nat → Int) : Nat → Int := kT k 12 (zs sLater) 1
def yof (k : Nat → Int) : Nat → Int := kT k 10 (zs sKey) 1
structure Kys where
  e : Int
  now : Nat → Int
  last : Nat → Int
  has : Bool
def ynew (r : Nat → Int) : Kys := ⟨0, r, fun _ => 0, false⟩
def yat (r : Nat → Int) (n : Int) : Kys := ⟨max 0 (min n 65535), r, fun _ => 0, false⟩
def ykK (k : Kys) (n : Int) : Nat → Int := if n = k.e then yof k.now else if n = k.e - 1 ∧ k.has = true then yof k.last else fun _ => 0
def ykE (k : Kys) (n : Int) : Int := if n = k.e then 0 else if n = k.e - 1 ∧ k.has = true then 0 else 150
def ynK (k : Kys) : Nat → Int := if 65535 ≤ k.e then fun _ => 0 else yof (ylt k.now)
def ynE (k : Kys) : Int := if 65535 ≤ k.e then 6 else 0
def yad (k : Kys) : Kys := if 65535 ≤ k.e then k else ⟨k.e + 1, ylt k.now, k.now, true⟩
structure KysW (k : Kys) : Prop where
  lo : 0 ≤ k.e
  hi : k.e ≤ 65535
  now : In 256 32 k.now
  last : In 256 32 k.last
theorem in_zero32 : In 256 32 (fun _ => 0) := fun _ _ => ⟨Int.le_refl _, show (0 : Int) < 256 by decide⟩
theorem ynew_w {r : Nat → Int} (h : In 256 32 r) : KysW (ynew r) := ⟨Int.le_refl 0, show (0 : Int) ≤ 65535 by decide, h, in_zero32⟩
theorem ykK_now {k : Kys} {n : Int} (h : n = k.e) : ykK k n = yof k.now := if_pos h
theorem ykE_now {k : Kys} {n : Int} (h : n = k.e) : ykE k n = 0 := if_pos h
theorem ykK_last {k : Kys} {n : Int} (h : n = k.e - 1) (h2 : k.has = true) : ykK k n = yof k.last := by unfold ykK; rw [if_neg (by omega), if_pos ⟨h, h2⟩]
theorem ykE_last {k : Kys} {n : Int} (h : n = k.e - 1) (h2 : k.has = true) : ykE k n = 0 := by unfold ykE; rw [if_neg (by omega), if_pos ⟨h, h2⟩]
theorem ykK_none {k : Kys} {n : Int} (h : ¬ n = k.e) (h2 : ¬ (n = k.e - 1 ∧ k.has = true)) : ykK k n = fun _ => 0 := by unfold ykK; rw [if_neg h, if_neg h2]
theorem ykE_none {k : Kys} {n : Int} (h : ¬ n = k.e) (h2 : ¬ (n = k.e - 1 ∧ k.has = true)) : ykE k n = 150 := by unfold ykE; rw [if_neg h, if_neg h2]
theorem yad_end {k : Kys} (h : 65535 ≤ k.e) : yad k = k := if_pos h
theorem yad_on {k : Kys} (h : ¬ 65535 ≤ k.e) : yad k = ⟨k.e + 1, ylt k.now, k.now, true⟩ := if_neg h
def yon : Nat → Kys → Kys
  | 0, k => k
  | n + 1, k => yad (yon n k)
theorem yon_e {k : Kys} (h0 : k.e = 0) : ∀ n : Nat, n ≤ 65535 → (yon n k).e = n
  | 0, _ => h0
  | n + 1, h => by
    have ih := yon_e h0 n (by omega)
    show (yad (yon n k)).e = _
    rw [yad_on (by omega)]
    show (yon n k).e + 1 = _
    omega
theorem ykK_next {k : Kys} (h : ¬ 65535 ≤ k.e) : ykK (yad k) (k.e + 1) = ynK k := by
  unfold ynK
  rw [if_neg h, yad_on h]
  exact ykK_now rfl
theorem ykK_next2 {k : Kys} (h : ¬ 65534 ≤ k.e) : ykK (yad (yad k)) (k.e + 1) = ynK k ∧ ykE (yad (yad k)) (k.e + 1) = 0 := by
  have e1 : yad k = ⟨k.e + 1, ylt k.now, k.now, true⟩ := yad_on (by omega)
  have e2 : yad (yad k) = ⟨k.e + 1 + 1, ylt (ylt k.now), ylt k.now, true⟩ := by rw [e1]; exact yad_on (show ¬ 65535 ≤ k.e + 1 by omega)
  rw [e2]
  unfold ynK
  rw [if_neg (by omega)]
  exact ⟨ykK_last (show k.e + 1 = k.e + 1 + 1 - 1 by omega) rfl, ykE_last (show k.e + 1 = k.e + 1 + 1 - 1 by omega) rfl⟩
theorem ykE_gone {k : Kys} (h : ¬ 65533 ≤ k.e) : ykE (yad (yad (yad k))) (k.e + 1) = 150 := by
  have e1 : yad k = ⟨k.e + 1, ylt k.now, k.now, true⟩ := yad_on (by omega)
  have e2 : yad (yad k) = ⟨k.e + 1 + 1, ylt (ylt k.now), ylt k.now, true⟩ := by rw [e1]; exact yad_on (show ¬ 65535 ≤ k.e + 1 by omega)
  have e3 : yad (yad (yad k)) = ⟨k.e + 1 + 1 + 1, ylt (ylt (ylt k.now)), ylt (ylt k.now), true⟩ := by rw [e2]; exact yad_on (show ¬ 65535 ≤ k.e + 1 + 1 by omega)
  rw [e3]
  exact ykE_none (show ¬ k.e + 1 = k.e + 1 + 1 + 1 by omega) (fun h => by have h1 : k.e + 1 = k.e + 1 + 1 + 1 - 1 := h.1; omega)
section
section
variable {P : Program} {ops : Array Oper} {Q : Exit → Act → World → Prop} {md : Region.Mode} {S : World → Prop}
theorem mayH {i : Nat} {oi : Oper} (dst : Option Tmp) (hdst : oi.dst = dst) {fuel : Nat} {listed : Array Bool} {a : Act} {w : World} (c : Bool) (v x : Value) (hi : ops[i]? = some oi) (hc : Region.wanted oi (yielded ops a.tmps) = c) (hx : x = (bif c then v else undef))
    (hv : c = true → ∀ w, S w → (execOp a.eval oi).run P w = .ok (.value v) w)
    (hs : Region.noSelect ops = true) (hf : Region.free md ops listed i = true) (hr : (Region.ready md ops listed).contains i = true)
    (hQ : ∀ c a w, Q (.panic c) (a.put dst x) w → Q (.panic c) a w) (hS : S w)
    (h : wpAnyH P md ops Q S fuel (listed.setIfInBounds i true) (a.put dst x) w) : wpAnyH P md ops Q S (fuel + 1) listed a w := by
  subst hdst
  refine wpAnyH_take hi hs hf hr hQ ?_ hS h
  subst hx
  cases c with
  | true => exact .inl ⟨hc, hv rfl⟩
  | false => exact .inr ⟨hc, rfl⟩
theorem storeAny {o : Oper} {a : Act} {w : World} (v : Value) (b j : Nat) (ty : TypeId) (x y : Operand) (ho : o.op = .store ty x y) (hx : a.eval x = .pointer (some ⟨b, j, none⟩)) (hy : a.eval y = v) (hv : v.cells = #[v]) (h1 : v.oneCell' = true)
    (hc : (w.cell? ⟨b, j, none⟩).isSome = true) (hf : w.frozen? ⟨b, j, none⟩ = false) (hz : (P.info? ty).map (·.size) = some 1) : (execOp a.eval o).run P w = .ok .skip (w.setCell ⟨b, j, none⟩ v) := by
  have h0 : ∀ k : Nat, k < [v].length → k = 0 := fun k hk => by simpa using hk
  have hst := run_storeCells_cells (P := P) b j [v] 0 w (fun k hk => by rw [h0 k hk]; simpa using hc) (fun k hk => by rw [h0 k hk]; simpa using hf) (fun u hu => by simp at hu; subst hu; exact h1)
  cases hq : P.info? ty with
  | none => simp [hq] at hz
  | some i =>
    have hs : i.size = 1 := by simp [hq] at hz; omega
    simp only [Nat.add_zero] at hst
    have e : (storeVar ty ⟨b, j, none⟩ v).run P w = .ok () (w.setCell ⟨b, j, none⟩ v) := by
      simp [storeVar, sizeOf, typeInfo, hq, hv, hs, hst, World.setCells]
    unfold execOp
    simp only [ho, hx, hy, Instr.storeAt, Instr.sureAddr, Sem.run_bind, Sem.run_pure, Result.andThen_ok, e]
theorem skipOpL {o : Oper} {rest : List Oper} {a : Act} {w w' : World} (hw : Region.wanted o (yielded ops a.tmps) = true) (he : (execOp a.eval o).run P w = .ok .skip w') (h : wpList P ops Q rest (a.put o.dst undef) w') : wpList P ops Q (o :: rest) a w := by
  unfold wpList
  rw [if_pos hw]
  refine .inl ?_
  unfold Oper.wp
  rw [he]
  exact h
theorem load1 {o : Oper} {a : Act} {w : World} (ty : TypeId) (x : Operand) (p : Addr) (v : Value) (ho : o.op = .load ty x) (hx : a.eval x = .pointer (some p)) (hagg : ∀ w, (isAgg ty).run P w = .ok false w) (hc : w.cell? p = some v) : (execOp a.eval o).run P w = .ok (.value v) w := by
  have e : (loadVar ty p).run P w = .ok v w := by simp [loadVar, Sem.run_bind, hagg, hc]
  unfold execOp
  simp only [ho, hx, Instr.loadAt, Instr.sureAddr, Sem.run_bind, Sem.run_pure, Result.andThen_ok, e]
theorem loadN {o : Oper} {a : Act} {w : World} (ty : TypeId) (x : Operand) (p : Addr) (cs : List Value) (ho : o.op = .load ty x) (hx : a.eval x = .pointer (some p)) (hagg : ∀ w, (isAgg ty).run P w = .ok true w) (hz : ∀ w, (sizeOf ty).run P w = .ok cs.length w)
    (hc : ∀ j v, cs[j]? = some v → w.cell? (p.add j) = some v) : (execOp a.eval o).run P w = .ok (.value (.agg cs.toArray)) w := by
  have e : (loadVar ty p).run P w = .ok (.agg cs.toArray) w := by simp [loadVar, Sem.run_bind, hagg, hz, run_loadCells_list w p cs hc]
  unfold execOp
  simp only [ho, hx, Instr.loadAt, Instr.sureAddr, Sem.run_bind, Sem.run_pure, Result.andThen_ok, e]
end
structure Mm (w0 : World) (l : List (Nat × List Value)) (w : World) : Prop where
  rows : ∀ p ∈ l, (∀ j, j < p.2.length → w.cell? ⟨p.1, j, none⟩ = p.2[j]? ∧ w.frozen? ⟨p.1, j, none⟩ = false) ∧ w0.heap.size ≤ p.1 ∧ p.1 < w.heap.size
  apart : l.Pairwise fun p q => p.1 ≠ q.1
  below : Below w0.heap.size w0 w
section
variable {w0 w w' : World} {l : List (Nat × List Value)}
theorem Mm.init (w : World) : Mm w [] w := ⟨fun _ h => (by cases h), List.Pairwise.nil, Below.refl _ _⟩
theorem Mm.call (h : Mm w0 l w) (b : Below w.heap.size w w') : Mm w0 l w' :=
  ⟨fun p hp => ⟨fun j hj => by
    have hlt := (h.rows p hp).2.2
    rw [b.cell (p := ⟨p.1, j, none⟩) hlt, b.frozen (p := ⟨p.1, j, none⟩) hlt]
    exact (h.rows p hp).1 j hj, (h.rows p hp).2.1, Nat.lt_of_lt_of_le (h.rows p hp).2.2 b.size⟩, h.apart, h.below.trans (b.mono h.below.size)⟩
theorem Mm.drew (h : Mm w0 l w) : Mm w0 l w.drew := h.call (Below.refl _ _).drew
theorem Mm.sub (h : Mm w0 l w) (l' : List (Nat × List Value)) (hl : l'.Sublist l) : Mm w0 l' w := ⟨fun p hp => h.rows p (hl.subset hp), h.apart.sublist hl, h.below⟩
theorem Mm.box (h : Mm w0 l w) (c : Array Value) (t : TypeId) (b : Nat) (hb : b = w.heap.size) : Mm w0 ((b, c.toList) :: l) (w.alloc (.cells c t)) := by
  subst hb
  have hc := h.call ((Below.refl w.heap.size w).alloc (Nat.le_refl _) (.cells c t))
  refine ⟨fun p hp => ?_, List.pairwise_cons.2 ⟨fun q hq e => ?_, h.apart⟩, hc.below⟩
  · rcases List.mem_cons.1 hp with rfl | hp
    · refine ⟨fun j hj => ⟨?_, World.frozen?_alloc_at _ _ _ _ rfl⟩, h.below.size, by simp⟩
      rw [World.cell?_alloc_at _ _ _ _ rfl]
      simp
    · exact hc.rows p hp
  · have := (h.rows q hq).2.2
    simp only at e
    omega
theorem Mm.get (h : Mm w0 l w) {b : Nat} {cs : List Value} (hp : (b, cs) ∈ l) (j : Nat) (v : Value) (hv : cs[j]? = some v) : w.cell? ⟨b, j, none⟩ = some v := by
  have hj : j < cs.length := by
    rcases Nat.lt_or_ge j cs.length with h' | h'
    · exact h'
    · rw [List.getElem?_eq_none h'] at hv; cases hv
  rw [((h.rows _ hp).1 j hj).1, hv]
theorem Mm.isSome (h : Mm w0 l w) {b : Nat} {cs : List Value} (hp : (b, cs) ∈ l) (j : Nat) (hj : j < cs.length) : (w.cell? ⟨b, j, none⟩).isSome = true := by
  rw [((h.rows _ hp).1 j hj).1, List.getElem?_eq_getElem hj]
  rfl
theorem Mm.free (h : Mm w0 l w) {b : Nat} {cs : List Value} (hp : (b, cs) ∈ l) (j : Nat) (hj : j < cs.length) : w.frozen? ⟨b, j, none⟩ = false := ((h.rows _ hp).1 j hj).2
theorem Mm.part (h : Mm w0 l w) {b : Nat} {cs : List Value} (hp : (b, cs) ∈ l) (o : Nat) (ds : List Value) (hd : (cs.drop o).take ds.length = ds) : ∀ j v, ds[j]? = some v → w.cell? ((⟨b, o, none⟩ : Addr).add j) = some v := fun j v hv => by
  rw [Addr.add_mid]
  refine h.get hp (o + j) v ?_
  have hj : j < ds.length := by
    rcases Nat.lt_or_ge j ds.length with h' | h'
    · exact h'
    · rw [List.getElem?_eq_none h'] at hv; cases hv
  rw [← hd, List.getElem?_take, if_pos hj, List.getElem?_drop] at hv
  exact hv
theorem size_setCell (w : World) (p : Addr) (v : Value) : (w.setCell p v).heap.size = w.heap.size := by simp
theorem Mm.set {b : Nat} {cs : List Value} (h : Mm w0 ((b, cs) :: l) w) (j : Nat) (hj : j < cs.length) (v : Value) : Mm w0 ((b, cs.set j v) :: l) (w.setCell ⟨b, j, none⟩ v) := by
  have hb := h.rows _ mS
  have hne := (List.pairwise_cons.1 h.apart).1
  refine ⟨fun p hp => ?_, List.pairwise_cons.2 ⟨hne, (List.pairwise_cons.1 h.apart).2⟩, below_setAll h.below b hb.2.1 j [v]⟩
  rcases List.mem_cons.1 hp with rfl | hp
  · refine ⟨fun i hi => ⟨?_, by rw [World.frozen?_setCell]; exact (hb.1 i (by simpa using hi)).2⟩, hb.2.1, by rw [size_setCell]; exact hb.2.2⟩
    simp only [List.length_set] at hi
    by_cases e : i = j
    · subst e
      rw [World.cell?_setCell_same' _ _ _ (h.isSome mS i hj), List.getElem?_set_self hj]
    · have e2 := World.cell?_setCell_other (w := w) (v := v) (a := ⟨b, j, none⟩) (b := ⟨b, i, none⟩) (by intro e'; injection e' with _ e'; exact e e'.symm)
      simp only
      rw [e2, List.getElem?_set_ne (Ne.symm e)]
      exact (hb.1 i hi).1
  · have h2 := h.rows p (mT _ hp)
    refine ⟨fun i hi => ⟨?_, by rw [World.frozen?_setCell]; exact (h2.1 i hi).2⟩, h2.2.1, by rw [size_setCell]; exact h2.2.2⟩
    rw [World.cell?_setCell_far _ _ _ _ (hne p hp)]
    exact (h2.1 i hi).1
theorem Mm.swap {p q : Nat × List Value} (h : Mm w0 (p :: q :: l) w) : Mm w0 (q :: p :: l) w := by
  obtain ⟨h1, h2⟩ := List.pairwise_cons.1 h.apart
  obtain ⟨h3, h4⟩ := List.pairwise_cons.1 h2
  refine ⟨fun x hx => h.rows x ?_, List.pairwise_cons.2 ⟨fun x hx => ?_, List.pairwise_cons.2 ⟨fun x hx => h1 x (mT _ hx), h4⟩⟩, h.below⟩
  · rcases List.mem_cons.1 hx with rfl | hx
    · exact mT _ mS
    · rcases List.mem_cons.1 hx with rfl | hx
      · exact mS
      · exact mT _ (mT _ hx)
  · rcases List.mem_cons.1 hx with rfl | hx
    · exact (h1 q mS).symm
    · exact h3 x hx
end
end
section
def i64 (n : Int) : Prop := -9223372036854775808 ≤ n ∧ n < 9223372036854775808
structure Off (X : List Nat) (w w' : World) : Prop where
  size : w.heap.size ≤ w'.heap.size
  blk : ∀ b, b < w.heap.size → b ∉ X → w'.heap[b]? = w.heap[b]?
section
variable {X Y : List Nat} {w w1 w2 : World}
theorem Off.refl (X : List Nat) (w : World) : Off X w w := ⟨Nat.le_refl _, fun _ _ _ => rfl⟩
theorem Off.trans (h : Off X w w1) (g : Off X w1 w2) : Off X w w2 := ⟨Nat.le_trans h.size g.size, fun b hb hX => (g.blk b (Nat.lt_of_lt_of_le hb h.size) hX).trans (h.blk b hb hX)⟩
theorem Off.of_below (l : Below w.heap.size w w1) : Off X w w1 := ⟨l.size, fun b hb _ => l.block b hb⟩
theorem Off.below (h : Off X w w1) (l : Below w1.heap.size w1 w2) : Off X w w2 := h.trans (.of_below l)
theorem Off.set (h : Off X w w1) {b : Nat} (hb : b ∈ X) (j : Nat) (v : Value) : Off X w (w1.setCell ⟨b, j, none⟩ v) :=
  h.trans ⟨by simp, fun c _ hX => by
    have : c ≠ b := fun e => hX (e ▸ hb)
    simp [World.setCell, Array.getElem?_modify, Ne.symm this]⟩
end
section
variable {P : Program}
end
end
theorem Mm.setAll {w0 w : World} {l : List (Nat × List Value)} {b : Nat} {cs : List Value} (h : Mm w0 ((b, cs) :: l) w) (ds : List Value) (hd : ds.length = cs.length) : Mm w0 ((b, ds) :: l) (w.setCells b 0 ds) := by
  have hb := h.rows _ mS
  have hne := (List.pairwise_cons.1 h.apart).1
  have hall : ∀ j, j < ds.length → (w.cell? ⟨b, 0 + j, none⟩).isSome = true := fun j hj => by rw [Nat.zero_add]; exact h.isSome mS j (by omega)
  refine ⟨fun p hp => ?_, List.pairwise_cons.2 ⟨hne, (List.pairwise_cons.1 h.apart).2⟩, below_setAll h.below b hb.2.1 0 ds⟩
  rcases List.mem_cons.1 hp with rfl | hp
  · refine ⟨fun j hj => ⟨?_, by rw [World.frozen?_setCells]; exact (hb.1 j (by have hj' : j < ds.length := hj; show j < cs.length; omega)).2⟩, hb.2.1, by rw [size_setAll]; exact hb.2.2⟩
    simp only at hj ⊢
    have e := World.cell?_setCells_in b ds 0 w hall j hj
    rw [Nat.zero_add] at e
    rw [e, List.getElem?_eq_getElem hj]
  · have h2 := h.rows p (mT _ hp)
    refine ⟨fun j hj => ⟨?_, by rw [World.frozen?_setCells]; exact (h2.1 j hj).2⟩, h2.2.1, by rw [size_setAll]; exact h2.2.2⟩
    rw [World.cell?_setCells_out b ds 0 w ⟨p.1, j, none⟩ (fun e _ => absurd e.symm (hne p hp))]
    exact (h2.1 j hj).1
theorem Off.setAll {X : List Nat} {w w1 : World} (h : Off X w w1) {b : Nat} (hb : b ∈ X) : ∀ (o : Nat) (vs : List Value), Off X w (w1.setCells b o vs)
  | _, [] => h
  | o, v :: vs => (h.set hb o v).setAll hb (o + 1) vs
section
theorem storeP {P : Program} {o : Oper} {a : Act} {w : World} (cs : List Value) (b off : Nat) (ty : TypeId) (x y : Operand) (ho : o.op = .store ty x y) (hx : a.eval x = .pointer (some ⟨b, off, none⟩)) (hy : a.eval y = .agg cs.toArray) (ht : w.there b off cs.toArray.size) (hz : (P.info? ty).map (·.size) = some cs.toArray.size) (h1 : ∀ u ∈ cs, u.oneCell' = true) :
    (execOp a.eval o).run P w = .ok .skip (w.setCells b off cs) := by
  unfold execOp
  simp only [ho, hx, hy]
  have e := run_storeAt_mid (P := P) w b off ty cs.toArray ht hz (all_oneCell_toArray h1)
  simp only [Sem.run_bind, e, Result.andThen_ok, Sem.run_pure]
def setL (cs : List Value) : Nat → List Value → List Value
  | _, [] => cs
  | o, v :: vs => setL (cs.set o v) (o + 1) vs
section
variable {w0 w : World} {l : List (Nat × List Value)} {b : Nat} {cs : List Value}
theorem Mm.thereP (h : Mm w0 l w) (hp : (b, cs) ∈ l) (o n : Nat) (hn : o + n ≤ cs.length) : w.there b o n := fun j hj => ⟨h.isSome hp (o + j) (by omega), h.free hp (o + j) (by omega)⟩
theorem Mm.setPartG : ∀ (ds : List Value) (o : Nat) (cs : List Value) (w : World), o + ds.length ≤ cs.length → Mm w0 ((b, cs) :: l) w → Mm w0 ((b, setL cs o ds) :: l) (w.setCells b o ds)
  | [], _, _, _, _, h => h
  | v :: vs, o, cs, w, hl, h => by
    rw [List.length_cons] at hl
    exact Mm.setPartG vs (o + 1) (cs.set o v) _ (by rw [List.length_set]; omega) (h.set o (by omega) v)
theorem Mm.setPart (h : Mm w0 ((b, cs) :: l) w) (ds : List Value) (o : Nat) (hl : o + ds.length ≤ cs.length) : Mm w0 ((b, setL cs o ds) :: l) (w.setCells b o ds) := Mm.setPartG ds o cs w hl h
theorem Mm.perm {l' : List (Nat × List Value)} (h : Mm w0 l w) (hp : l.Perm l') : Mm w0 l' w :=
  ⟨fun p hq => h.rows p (hp.mem_iff.2 hq), hp.pairwise h.apart (fun e => Ne.symm e), h.below⟩
end
theorem Off.and1 {X : List Nat} {w w1 w2 : World} {b : Nat} (h : Off X w w1) (g : Off [b] w1 w2) (hb : b ∈ X ∨ w.heap.size ≤ b) : Off X w w2 :=
  ⟨Nat.le_trans h.size g.size, fun c hc hX => (g.blk c (Nat.lt_of_lt_of_le hc h.size) (fun e => by
    obtain rfl := List.mem_singleton.1 e
    rcases hb with h' | h'
    · exact hX h'
    · omega)).trans (h.blk c hc hX)⟩
theorem retCellTmp {P : Program} {fn : Func} {tmps : Array Value} {w : World} (t t2 : Tmp) (ty : TypeId) (p : Addr) (cs : List Value) (v : Value) (hr : fn.results = #[.cell t ty, .tmp t2]) (ha : tmps.getD t undef = .pointer (some p)) (hb : tmps.getD t2 undef = v) (hagg : ∀ w, (isAgg ty).run P w = .ok true w) (hz : ∀ w, (sizeOf ty).run P w = .ok cs.length w) (hc : ∀ j v, cs[j]? = some v → w.cell? (p.add j) = some v) :
    (results fn tmps).run P w = .ok (.tuple #[.agg cs.toArray, v]) w := by
  have e : (loadVar ty p).run P w = .ok (.agg cs.toArray) w := by simp [loadVar, Sem.run_bind, hagg, hz, run_loadCells_list w p cs hc]
  rw [Array.getD_eq_getD_getElem?] at ha hb
  simp [results, hr, ha, hb, asAddr, e]
end
def vsz (n : Nat) : Nat := if n < 64 then 1 else if n < 16384 then 2 else if n < 1073741824 then 4 else 8
def tV (z : Nat → Int) : Nat → Int
  | 0 => z 0 % 64
  | i + 1 => tV z i * 256 + z (i + 1)
def tK (b : Int) : Nat := 2 ^ (b / 64).toNat
def tE (len : Nat) (z : Nat → Int) : Int := if len = 0 then 3 else if len < tK (z 0) then 3 else if vsz (tV z (tK (z 0) - 1)).toNat ≠ tK (z 0) then 90 else 0
def tN (len : Nat) (z : Nat → Int) : Int := if tE len z = 0 then tV z (tK (z 0) - 1) else 0
def nm (b : List Int) : Except Int (Int × List Int) := if tE b.length (bl b) = 0 then .ok (tN b.length (bl b), b.drop (tK (bl b 0))) else .error (tE b.length (bl b))
def MX : Int := 4611686018427387903
def rd : Nat → Int → List Int → Except Int (List (Int × Int) × List Int)
  | 0, _, b => .ok ([], b)
  | n + 1, last, b => match nm b with
    | .error e => .error e
    | .ok (g, b1) => match nm b1 with
      | .error e => .error e
      | .ok (l, b2) => if MX - last < g ∨ MX - last - g < l then .error 100 else match rd n (last + g + l) b2 with
        | .error e => .error e
        | .ok (rs, b3) => .ok ((last + g, last + g + l) :: rs, b3)
def tx (b : List Int) : Except Int (List Int × List Int) := match nm b with
  | .error e => .error e
  | .ok (n, r) => if 128 < n then .error 2 else if (r.length : Int) < n then .error 3 else .ok (r.take n.toNat, r.drop n.toNat)
structure Frm where
  kind : Int
  pos : Int
  lim : Int
  rg : List (Int × Int)
  byt : List Int
  tok : List Int
def z8 : List Int := [0, 0, 0, 0, 0, 0, 0, 0]
def fp (k : Int) (b : List Int) : Except Int (Frm × List Int) :=
  if k = 3 ∨ k = 4 then (if b.length < 8 then .error 3 else .ok (⟨k, 0, 0, [], [], b.take 8⟩, b.drop 8))
  else match nm b with
    | .error e => .error e
    | .ok (a, b1) =>
      if k = 1 then (match tx b1 with
        | .error e => .error e
        | .ok (t, b2) => .ok (⟨k, a, 0, [], t, z8⟩, b2))
      else if k = 2 ∨ k = 7 then (match nm b1 with
        | .error e => .error e
        | .ok (l, b2) => match nm b2 with
          | .error e => .error e
          | .ok (n, b3) => if 8 < n then .error 100 else match rd n.toNat (if k = 2 then a else 0) b3 with
            | .error e => .error e
            | .ok (rs, b4) => .ok (⟨k, a, l, rs, [], z8⟩, b4))
      else .ok (⟨k, a, 0, [], [], z8⟩, b1)
theorem row32 (f : Nat → Int) : (row .u8 32 f).length = 32 := row_length _ _ _
theorem setL_left : ∀ (ds a rest : List Value), ds.length = a.length → setL (a ++ rest) 0 ds = ds ++ rest := by
  have key : ∀ (ds pre a rest : List Value), ds.length = a.length → setL (pre ++ (a ++ rest)) pre.length ds = pre ++ (ds ++ rest) := by
    intro ds
    induction ds with
    | nil =>
      intro pre a rest h
      have : a = [] := List.eq_nil_of_length_eq_zero (by simpa using h.symm)
      subst this
      rfl
    | cons d ds ih =>
      intro pre a rest h
      cases a with
      | nil => cases h
      | cons x a =>
        have h2 : ds.length = a.length := by simpa using h
        have e : (pre ++ (x :: a ++ rest)).set pre.length d = (pre ++ [d]) ++ (a ++ rest) := by simp
        show setL ((pre ++ (x :: a ++ rest)).set pre.length d) (pre.length + 1) ds = _
        rw [e]
        have := ih (pre ++ [d]) a rest h2
        rw [List.length_append] at this
        rw [show pre.length + 1 = pre.length + [d].length from rfl, this]
        simp
  intro ds a rest h
  have := key ds [] a rest h
  simpa using this
theorem setL_pre (pre : List Value) : ∀ (ds l : List Value) (o : Nat), setL (pre ++ l) (pre.length + o) ds = pre ++ setL l o ds
  | [], _, _ => rfl
  | d :: ds, l, o => by
    show setL ((pre ++ l).set (pre.length + o) d) (pre.length + o + 1) ds = pre ++ setL (l.set o d) (o + 1) ds
    rw [List.set_append_right _ _ (by omega), Nat.add_sub_cancel_left, Nat.add_assoc, setL_pre pre ds (l.set o d) (o + 1)]
theorem flat_len (ps : List (List Value)) (ls : List Nat) (h : ps.map List.length = ls) : ps.flatten.length = ls.sum := by subst h; exact List.length_flatten
theorem flat_cut : ∀ (ps : List (List Value)) (i : Nat) (p : List Value), ps[i]? = some p → ∃ pre rest, ps.flatten = pre ++ (p ++ rest) ∧ pre.length = ((ps.map List.length).take i).sum ∧ ∀ ds, (ps.set i ds).flatten = pre ++ (ds ++ rest)
  | [], i, p, h => by cases h
  | q :: ps, 0, p, h => by
    obtain rfl : q = p := by simpa using h
    exact ⟨[], ps.flatten, rfl, rfl, fun _ => rfl⟩
  | q :: ps, i + 1, p, h => by
    obtain ⟨pre, rest, e1, e2, e3⟩ := flat_cut ps i p (by simpa using h)
    refine ⟨q ++ pre, rest, ?_, ?_, fun ds => ?_⟩
    · rw [List.flatten_cons, e1, List.append_assoc]
    · rw [List.length_append, e2]; simp
    · rw [List.set_cons_succ, List.flatten_cons, e3, List.append_assoc]
theorem flat_part (ps : List (List Value)) (ls : List Nat) (h : ps.map List.length = ls) (i o : Nat) (p : List Value) (hp : ps[i]? = some p) (ho : (ls.take i).sum = o) : (ps.flatten.drop o).take p.length = p := by
  subst h ho
  obtain ⟨pre, rest, e1, e2, _⟩ := flat_cut ps i p hp
  rw [e1, List.drop_left' e2, List.take_left]
theorem flat_get (ps : List (List Value)) (ls : List Nat) (h : ps.map List.length = ls) (i o : Nat) (v : Value) (hp : ps[i]? = some [v]) (ho : (ls.take i).sum = o) : ps.flatten[o]? = some v := by
  subst h ho
  obtain ⟨pre, rest, e1, e2, _⟩ := flat_cut ps i [v] hp
  rw [e1, ← e2, List.getElem?_append_right (Nat.le_refl _), Nat.sub_self]
  rfl
theorem flat_set (ps : List (List Value)) (ls : List Nat) (h : ps.map List.length = ls) (i o : Nat) (p ds : List Value) (hp : ps[i]? = some p) (ho : (ls.take i).sum = o) (hd : ds.length = p.length) : setL ps.flatten o ds = (ps.set i ds).flatten := by
  subst h ho
  obtain ⟨pre, rest, e1, e2, e3⟩ := flat_cut ps i p hp
  have := setL_pre pre ds (p ++ rest) 0
  rw [Nat.add_zero, e2, setL_left _ _ _ hd] at this
  rw [e1, this, e3]
theorem flat_set1 (ps : List (List Value)) (ls : List Nat) (h : ps.map List.length = ls) (i o : Nat) (u v : Value) (hp : ps[i]? = some [u]) (ho : (ls.take i).sum = o) : ps.flatten.set o v = (ps.set i [v]).flatten := by
  have := flat_set ps ls h i o [u] [v] hp ho rfl
  exact this
section
section
variable {P : Program} {o : Oper} {a : Act}
theorem maxI (k k' : IntKind) (n n' r : Int) (x y : Operand) (t t' : TypeId) (ho : o.op = .call { callee := .builtin .max, args := #[x, y], argTypes := #[t, t'] }) (hx : a.eval x = .int k n) (hy : a.eval y = .int k' n') (hr : (if n < n' then n' else n) = r) (w : World) : (execOp a.eval o).run P w = .ok (.value (.int k r)) w := by
  simp [execOp, ho, resolve, invoke, builtin, hx, hy, run_max_int2, hr]
end
end
theorem ylt_in (k : Nat → Int) : In 256 32 (ylt k) := kT_in k 12 _ 32 1
theorem yof_in (k : Nat → Int) : In 256 32 (yof k) := kT_in k 10 _ 32 1
section
section
variable {w0 w : World} {g x t : List (Nat × List Value)}
end
section
variable {α : Type} (x a b c g t : List α)
theorem pull0 : (x ++ (g ++ t)).Perm (g ++ (x ++ t)) := by
  rw [← List.append_assoc, ← List.append_assoc]
  exact List.perm_append_comm.append_right t
end
end
def bplc (j : Nat) : Int := if j % 4 = 0 then (pA (j / 4) : Int) else if j % 4 = 1 then (pB (j / 4) : Int) else if j % 4 = 2 then (pC (j / 4) : Int) else (pD (j / 4) : Int)
structure BGlob (w : World) : Prop where
  first : ∀ j, j < 8 → w.cell? ⟨0, j, none⟩ = some (.int .u32 (iv j))
  order : ∀ j, j < 160 → w.cell? ⟨2, j, none⟩ = some (.int .u8 (sgL.getD j 0 : Nat))
  place : ∀ j, j < 32 → w.cell? ⟨1, j, none⟩ = some (.int .u8 (bplc j))
  size : 3 ≤ w.heap.size
theorem BGlob.below {w w' : World} (h : BGlob w) {B : Nat} (l : Below B w w') (hB : 3 ≤ B) : BGlob w' :=
  ⟨fun j hj => by rw [l.cell (p := ⟨0, j, none⟩) (Nat.lt_of_lt_of_le (show 0 < 3 by decide) hB)]; exact h.first j hj, fun j hj => by rw [l.cell (p := ⟨2, j, none⟩) (Nat.lt_of_lt_of_le (show 2 < 3 by decide) hB)]; exact h.order j hj, fun j hj => by rw [l.cell (p := ⟨1, j, none⟩) (Nat.lt_of_lt_of_le (show 1 < 3 by decide) hB)]; exact h.place j hj, Nat.le_trans h.size l.size⟩
theorem BGlob.four {w : World} (h : BGlob w) (k : Nat) (hk : k < 8) : w.cell? ⟨1, k * 4, none⟩ = some (.int .u8 (pA k)) ∧ w.cell? ⟨1, k * 4 + 1, none⟩ = some (.int .u8 (pB k)) ∧ w.cell? ⟨1, k * 4 + 2, none⟩ = some (.int .u8 (pC k)) ∧ w.cell? ⟨1, k * 4 + 3, none⟩ = some (.int .u8 (pD k)) := by
  have e1 : bplc (k * 4) = (pA k : Int) := by unfold bplc; rw [if_pos (by omega), show k * 4 / 4 = k by omega]
  have e2 : bplc (k * 4 + 1) = (pB k : Int) := by unfold bplc; rw [if_neg (by omega), if_pos (by omega), show (k * 4 + 1) / 4 = k by omega]
  have e3 : bplc (k * 4 + 2) = (pC k : Int) := by unfold bplc; rw [if_neg (by omega), if_neg (by omega), if_pos (by omega), show (k * 4 + 2) / 4 = k by omega]
  have e4 : bplc (k * 4 + 3) = (pD k : Int) := by unfold bplc; rw [if_neg (by omega), if_neg (by omega), if_neg (by omega), show (k * 4 + 3) / 4 = k by omega]
  rw [← e1, ← e2, ← e3, ← e4]
  exact ⟨h.place _ (by omega), h.place _ (by omega), h.place _ (by omega), h.place _ (by omega)⟩
theorem BGlob.sg {w : World} (h : BGlob w) (r i : Nat) (hr : r < 10) (hi : i < 16) : w.cell? ⟨2, r * 16 + i, none⟩ = some (.int .u8 (sg r i)) := by
  have e : (sgL.getD (r * 16 + i) 0 : Nat) = Go.Proofs.YtckohmdmjhaknaaDoor.sg r i := by unfold Go.Proofs.YtckohmdmjhaknaaDoor.sg; rw [Nat.mul_comm]
  rw [← e]
  exact h.order _ (by omega)
structure KeysOK (I : Value → Kys → List (Nat × List Value) → Prop) : Prop where
  ptr : ∀ v k bs, I v k bs → ∃ R, v = .pointer (some ⟨R, 0, none⟩)
  new : ∀ (w0 w : World) (l : List (Nat × List Value)) (r : Nat → Int), BGlob w0 → In 256 32 r → Mm w0 l w →
    Calls Tryd.prog 7 #[.agg (row .u8 32 r).toArray] w fun e w' => ∃ v bs, e = .returned v ∧ I v (ynew r) bs ∧ Mm w0 (bs ++ l) w' ∧ Below w.heap.size w w'
  key : ∀ (w0 w : World) (v : Value) (k : Kys) (bs l : List (Nat × List Value)) (n : Int), BGlob w0 → KysW k → i64 n → I v k bs → Mm w0 (bs ++ l) w →
    Calls Tryd.prog 13 #[v, .int .i64 n] w fun e w' => e = .returned (.tuple #[.agg (row .u8 32 (ykK k n)).toArray, .int .i64 (ykE k n)]) ∧ Below w.heap.size w w'
  nxt : ∀ (w0 w : World) (v : Value) (k : Kys) (bs l : List (Nat × List Value)), BGlob w0 → KysW k → I v k bs → Mm w0 (bs ++ l) w →
    Calls Tryd.prog 15 #[v] w fun e w' => e = .returned (.tuple #[.agg (row .u8 32 (ynK k)).toArray, .int .i64 (ynE k)]) ∧ Below w.heap.size w w'
  adv : ∀ (w0 w : World) (v : Value) (k : Kys) (bs l : List (Nat × List Value)), BGlob w0 → KysW k → I v k bs → Mm w0 (bs ++ l) w →
    Calls Tryd.prog 10 #[v] w fun e w' => e = .returned (.int .i64 (ynE k)) ∧ ∃ bs', I v (yad k) bs' ∧ (∀ p ∈ bs', p.1 ∈ bs.map Prod.fst ∨ w.heap.size ≤ p.1) ∧ Mm w0 (bs' ++ l) w' ∧ Off (bs.map Prod.fst) w w'
  epo : ∀ (w0 w : World) (v : Value) (k : Kys) (bs l : List (Nat × List Value)), KysW k → I v k bs → Mm w0 (bs ++ l) w →
    Calls Tryd.prog 12 #[v] w fun e w' => e = .returned (.int .i64 k.e) ∧ Below w.heap.size w w'
theorem yad_w {k : Kys} (h : KysW k) : KysW (yad k) := by
  have h1 := h.lo
  have h2 := h.hi
  by_cases c : 65535 ≤ k.e
  · rw [yad_end c]; exact h
  · rw [yad_on c]; exact ⟨show 0 ≤ k.e + 1 by omega, show k.e + 1 ≤ 65535 by omega, ylt_in _, h.now⟩
theorem bl_rng (n : Nat) (f : Nat → Int) (j : Nat) (h : j < n) : bl ((List.range n).map f) j = f j := by
  unfold bl
  rw [List.getD_eq_getElem?_getD, List.getElem?_map, List.getElem?_range h]
  rfl
def evL (yo yi : Nat → Int) (len : Nat) (z : Nat → Int) : List Int :=
  evT (64 + len) (tx2 64 yi len z) (nbt (64 + len)) 0 (bh0 0 32) fun h => evT (64 + 32) (tx2 64 yo 32 (bout h)) (nbt (64 + 32)) 0 (bh0 0 32) fun g => (List.range 32).map (bout g)
theorem evL_eq (kl : Nat) (key : Nat → Int) (len : Nat) (z : Nat → Int) : evL (bxx 92 (bkk kl key)) (bxx 54 (bkk kl key)) len z = (List.range 32).map (bmac kl key len z) := by
  unfold evL
  have hc : ∀ h h' : Nat → Int, (∀ i, i < 8 → h i = h' i) → (List.range 32).map (bout h) = (List.range 32).map (bout h') := fun h h' e => List.map_congr_left fun j hj => bout_congr h h' e j (List.mem_range.1 hj)
  have e2 : ∀ h : Nat → Int, evT (64 + 32) (tx2 64 (bxx 92 (bkk kl key)) 32 (bout h)) (nbt (64 + 32)) 0 (bh0 0 32) (fun g => (List.range 32).map (bout g)) = (List.range 32).map (bout (tH (bh0 0 32) (64 + 32) (tx2 64 (bxx 92 (bkk kl key)) 32 (bout h)) (0 + nbt (64 + 32)))) :=
    fun h => evT_eq (bh0 0 32) _ _ (fun g => (List.range 32).map (bout g)) hc _ 0 _ (fun _ _ => rfl)
  have ec : ∀ h h' : Nat → Int, (∀ i, i < 8 → h i = h' i) → tx2 64 (bxx 92 (bkk kl key)) 32 (bout h) = tx2 64 (bxx 92 (bkk kl key)) 32 (bout h') := fun h h' e => by
    funext q
    unfold tx2 padz
    by_cases e1 : q < 64
    · rw [if_pos e1, if_pos e1]
    · rw [if_neg e1, if_neg e1]
      by_cases e3 : q - 64 < 32
      · rw [if_pos e3, if_pos e3]; exact bout_congr h h' e _ e3
      · rw [if_neg e3, if_neg e3]
  rw [evT_eq (bh0 0 32) _ _ _ (fun h h' e => by rw [ec h h' e]) _ 0 (bh0 0 32) (fun _ _ => rfl), e2, Nat.zero_add, Nat.zero_add]
  unfold bmac
  rw [← bhash_tx2 64 (bxx 54 (bkk kl key)) len z, ← bhash_tx2 64 (bxx 92 (bkk kl key)) 32]
def y7 : List Int := [7, 0, 0, 0, 0, 0, 0, 0, 0, 0, 0, 0, 0, 0, 0, 0, 0, 0, 0, 0, 0, 0, 0, 0, 0, 0, 0, 0, 0, 0, 0, 0]
def y71 : List Int := [244, 126, 84, 112, 46, 30, 159, 104, 108, 87, 235, 233, 235, 79, 234, 89, 250, 102, 89, 69, 87, 39, 177, 54, 209, 89, 67, 214, 102, 151, 16, 200]
def y72 : List Int := [161, 53, 68, 54, 132, 36, 195, 119, 252, 112, 216, 4, 198, 135, 23, 11, 129, 166, 98, 68, 36, 18, 101, 81, 171, 244, 225, 29, 234, 229, 32, 99]
theorem ylt_ev (l l' : List Int) (h : evL (bxx 92 (bkk 32 (bl l))) (bxx 54 (bkk 32 (bl l))) (0 + 12 + 1) (ktx 12 (zs sLater) 0 (fun _ => 0)) = l') (j : Nat) (hj : j < 32) : ylt (bl l) j = bl l' j := by
  rw [evL_eq] at h
  rw [← h]
  exact (bl_rng 32 _ j hj).symm
theorem yof_ev (l : List Int) (x : Int) (h : evM (bxx 92 (bkk 32 (bl l))) (bxx 54 (bkk 32 (bl l))) (0 + 10 + 1) (ktx 10 (zs sKey) 0 (fun _ => 0)) 0 = x) : yof (bl l) 0 = x := by
  rw [← h]
  exact evM_eq 32 (bl l) _ _ 0 (by decide)
theorem y7_later : ∀ j, j < 32 → ylt (bl y7) j = bl y71 j := ylt_ev y7 y71 (by decide +kernel)
theorem y71_later : ∀ j, j < 32 → ylt (bl y71) j = bl y72 j := ylt_ev y71 y72 (by decide +kernel)
theorem y7_of : yof (bl y7) 0 = 12 := yof_ev _ _ (by decide +kernel)
theorem y71_of : yof (bl y71) 0 = 145 := yof_ev _ _ (by decide +kernel)
theorem y72_of : yof (bl y72) 0 = 124 := yof_ev _ _ (by decide +kernel)
theorem y7_in : In 256 32 (bl y7) := fun j hj => (by decide : ∀ j, j < 32 → 0 ≤ bl y7 j ∧ bl y7 j < 256) j hj
theorem bkk_congr32 {f g : Nat → Int} (h : ∀ j, j < 32 → f j = g j) : bkk 32 f = bkk 32 g := by
  funext j
  unfold bkk
  rw [if_pos (show 32 ≤ 64 by decide), if_pos (show 32 ≤ 64 by decide)]
  by_cases e : j < 32
  · rw [if_pos e, if_pos e, h j e]
  · rw [if_neg e, if_neg e]
theorem bmac_key {f g : Nat → Int} (h : ∀ j, j < 32 → f j = g j) (len : Nat) (z : Nat → Int) : bmac 32 f len z = bmac 32 g len z := by
  unfold bmac
  rw [bkk_congr32 h]
theorem yof_congr {f g : Nat → Int} (h : ∀ j, j < 32 → f j = g j) : yof f = yof g := bmac_key h _ _
theorem ylt_congr {f g : Nat → Int} (h : ∀ j, j < 32 → f j = g j) : ylt f = ylt g := bmac_key h _ _
theorem ne15 {f g : Nat → Int} (hf : In 256 32 f) (hg : In 256 32 g) (h : f 0 ≠ g 0) : (!decide (val 256 f 32 = val 256 g 32)) = true := by
  rw [decide_eq_false (fun e => h (val_inj 256 (by decide) f g 32 hf hg e 0 (by decide)))]
  rfl
theorem y1_of : yof (ylt (bl y7)) 0 = 145 := by rw [yof_congr y7_later]; exact y71_of
theorem y2_of : yof (ylt (ylt (bl y7))) 0 = 124 := by rw [ylt_congr y7_later, yof_congr y71_later]; exact y72_of
theorem n15_1 : (!decide (val 256 (yof (bl y7)) 32 = val 256 (yof (ylt (bl y7))) 32)) = true := ne15 (yof_in _) (yof_in _) (by rw [y7_of, y1_of]; decide)
theorem n15_2 : (!decide (val 256 (yof (ylt (bl y7))) 32 = val 256 (yof (ylt (ylt (bl y7)))) 32)) = true := ne15 (yof_in _) (yof_in _) (by rw [y1_of, y2_of]; decide)
theorem shown15_any {I : Value → Kys → List (Nat × List Value) → Prop} (hK : KeysOK I) (w0 : World) (hg : BGlob w0) :
    Calls Tryd.prog 6 #[] w0 fun e w' => e = .returned (.bool true) ∧ Below w0.heap.size w0 w' := by
  have M := Mm.init w0
  go_enter Tryd.func6, Tryd.ntmps6
  have nv1 := show Hid _ from n15_1
  have nv2 := show Hid _ from n15_2
  go_upto_region 0 with fail
  refine wp_region_list ?_
  refine readL (.bool false) rfl (by kernel_rfl) ?_
  simp only [aP, lI, l0]
  first | show Exit.then _ _ _ _ _ | show Exit.inBlock _ _ _ _ _
  go_upto_region 1 with fail
  refine wp_region_list ?_
  refine readL (.agg (row .u8 32 (bl y7)).toArray) rfl (by kernel_rfl) ?_
  simp only [aP, lI, l0, lS]
  have key := hK.new w0 _ _ (bl y7) hg y7_in M
  refine callL rfl (fun _ => by kernel_rfl) key ?_
  clear key
  rintro e w1 ⟨v_, ba0, rfl, hIa, M', l⟩
  obtain ⟨Ra, rfl⟩ := hK.ptr _ _ _ hIa
  clear M l
  have M := M'.perm (pull0 ([] : List (Nat × List Value)) ba0 ([] : List (Nat × List Value))).symm
  clear M'
  replace M : Mm w0 ((ba0 ++ ([] : List (Nat × List Value)))) w1 := M
  refine ⟨_, rfl, ?_⟩
  simp only [aP, lI, l0, lS]
  refine readL (.pointer (some ⟨Ra, 0, none⟩)) rfl (by kernel_rfl) ?_
  simp only [aP, lI, l0, lS]
  first | show Exit.then _ _ _ _ _ | show Exit.inBlock _ _ _ _ _
  go_upto_region 2 with fail
  refine wp_region_list ?_
  refine readL (.pointer (some ⟨Ra, 0, none⟩)) rfl (by kernel_rfl) ?_
  simp only [aP, lI, l0, lS]
  refine readL (.bool false) rfl (by kernel_rfl) ?_
  simp only [aP, lI, l0, lS]
  first | show Exit.then _ _ _ _ _ | show Exit.inBlock _ _ _ _ _
  go_upto_region 4 with fail
  refine wp_region_list ?_
  refine readL (.pointer (some ⟨Ra, 0, none⟩)) rfl (by kernel_rfl) ?_
  simp only [aP, lI, l0, lS]
  have Mp := M.perm (pull0 ([] : List (Nat × List Value)) ba0 ([] : List (Nat × List Value)))
  have key := hK.epo w0 _ _ (ynew (bl y7)) ba0 _ (ynew_w y7_in) hIa Mp
  clear Mp
  refine callL rfl (fun _ => by kernel_rfl) key ?_
  clear key
  rintro e w2 ⟨rfl, l⟩
  replace M := M.call l
  clear l
  refine ⟨_, rfl, ?_⟩
  simp only [aP, lI, l0, lS]
  refine readL (.int .i64 0) rfl (by kernel_rfl) ?_
  simp only [aP, lI, l0, lS]
  first | show Exit.then _ _ _ _ _ | show Exit.inBlock _ _ _ _ _
  go_upto_region 5 with fail
  refine wp_region_list ?_
  refine readL (.pointer (some ⟨Ra, 0, none⟩)) rfl (by kernel_rfl) ?_
  simp only [aP, lI, l0, lS]
  have Mp := M.perm (pull0 ([] : List (Nat × List Value)) ba0 ([] : List (Nat × List Value)))
  have key := hK.key w0 _ _ (ynew (bl y7)) ba0 _ 1 hg (ynew_w y7_in) (by unfold i64; decide) hIa Mp
  clear Mp
  rw [show ykK (ynew (bl y7)) 1 = (fun _ => 0) from ykK_none (k := ynew (bl y7)) (n := 1) (show ¬ (1 : Int) = 0 by decide) (fun h => absurd (show false = true from h.2) (by decide)), show ykE (ynew (bl y7)) 1 = 150 from ykE_none (k := ynew (bl y7)) (n := 1) (show ¬ (1 : Int) = 0 by decide) (fun h => absurd (show false = true from h.2) (by decide))] at key
  refine callL rfl (fun _ => by kernel_rfl) key ?_
  clear key
  rintro e w3 ⟨rfl, l⟩
  replace M := M.call l
  clear l
  refine ⟨_, rfl, ?_⟩
  simp only [aP, lI, l0, lS]
  refine readL (.tuple #[.agg (row .u8 32 (fun _ => 0)).toArray, .int .i64 150]) rfl (by kernel_rfl) ?_
  simp only [aP, lI, l0, lS]
  refine readL (.agg (row .u8 32 (fun _ => 0)).toArray) rfl (by kernel_rfl) ?_
  simp only [aP, lI, l0, lS]
  refine readL (.int .i64 150) rfl (by kernel_rfl) ?_
  simp only [aP, lI, l0, lS]
  refine actL (w' := w3.alloc (.cells zu8_32 23)) (.pointer (some ⟨w3.heap.size, 0, none⟩)) rfl (by kernel_rfl) ?_
  simp only [aP, lI, l0, lS]
  replace M := M.box zu8_32 23 w3.heap.size rfl
  generalize w3.alloc (.cells zu8_32 23) = w4 at M ⊢
  generalize w3.heap.size = B4 at M ⊢
  replace M : Mm w0 ((B4, row .u8 32 (fun _ => 0)) :: (ba0 ++ ([] : List (Nat × List Value)))) w4 := M
  refine skipOpL rfl (storeP (row .u8 32 (fun _ => 0)) B4 0 23 _ _ rfl rfl rfl (M.thereP mS 0 32 (Nat.le_of_ble_eq_true rfl)) (by kernel_rfl) (row_one .u8 32 (fun _ => 0))) ?_
  simp only [Act.put]
  replace M := M.setAll (row .u8 32 (fun _ => 0)) (by first | (rw [row32, row32]; done) | (rw [row32]; rfl) | (rw [row32]; done))
  generalize w4.setCells B4 0 (row .u8 32 (fun _ => 0)) = w5 at M  ⊢
  refine readL (.int .i64 150) rfl (by kernel_rfl) ?_
  simp only [aP, lI, l0, lS]
  first | show Exit.then _ _ _ _ _ | show Exit.inBlock _ _ _ _ _
  go_upto_region 6 with fail
  refine wp_region_list ?_
  refine readL (.pointer (some ⟨Ra, 0, none⟩)) rfl (by kernel_rfl) ?_
  simp only [aP, lI, l0, lS]
  have Mp := M.perm (pull0 ([(B4, row .u8 32 (fun _ => 0))] : List (Nat × List Value)) ba0 ([] : List (Nat × List Value)))
  have key := hK.key w0 _ _ (ynew (bl y7)) ba0 _ (-1) hg (ynew_w y7_in) (by unfold i64; decide) hIa Mp
  clear Mp
  rw [show ykK (ynew (bl y7)) (-1) = (fun _ => 0) from ykK_none (k := ynew (bl y7)) (n := (-1)) (show ¬ ((-1) : Int) = 0 by decide) (fun h => absurd (show false = true from h.2) (by decide)), show ykE (ynew (bl y7)) (-1) = 150 from ykE_none (k := ynew (bl y7)) (n := (-1)) (show ¬ ((-1) : Int) = 0 by decide) (fun h => absurd (show false = true from h.2) (by decide))] at key
  refine callL rfl (fun _ => by kernel_rfl) key ?_
  clear key
  rintro e w6 ⟨rfl, l⟩
  replace M := M.call l
  clear l
  refine ⟨_, rfl, ?_⟩
  simp only [aP, lI, l0, lS]
  refine readL (.tuple #[.agg (row .u8 32 (fun _ => 0)).toArray, .int .i64 150]) rfl (by kernel_rfl) ?_
  simp only [aP, lI, l0, lS]
  refine readL (.agg (row .u8 32 (fun _ => 0)).toArray) rfl (by kernel_rfl) ?_
  simp only [aP, lI, l0, lS]
  refine readL (.int .i64 150) rfl (by kernel_rfl) ?_
  simp only [aP, lI, l0, lS]
  refine actL (w' := w6.alloc (.cells zu8_32 23)) (.pointer (some ⟨w6.heap.size, 0, none⟩)) rfl (by kernel_rfl) ?_
  simp only [aP, lI, l0, lS]
  replace M := M.box zu8_32 23 w6.heap.size rfl
  generalize w6.alloc (.cells zu8_32 23) = w7 at M ⊢
  generalize w6.heap.size = B7 at M ⊢
  replace M : Mm w0 ((B7, row .u8 32 (fun _ => 0)) :: (B4, row .u8 32 (fun _ => 0)) :: (ba0 ++ ([] : List (Nat × List Value)))) w7 := M
  refine skipOpL rfl (storeP (row .u8 32 (fun _ => 0)) B7 0 23 _ _ rfl rfl rfl (M.thereP mS 0 32 (Nat.le_of_ble_eq_true rfl)) (by kernel_rfl) (row_one .u8 32 (fun _ => 0))) ?_
  simp only [Act.put]
  replace M := M.setAll (row .u8 32 (fun _ => 0)) (by first | (rw [row32, row32]; done) | (rw [row32]; rfl) | (rw [row32]; done))
  generalize w7.setCells B7 0 (row .u8 32 (fun _ => 0)) = w8 at M  ⊢
  refine readL (.int .i64 150) rfl (by kernel_rfl) ?_
  simp only [aP, lI, l0, lS]
  first | show Exit.then _ _ _ _ _ | show Exit.inBlock _ _ _ _ _
  go_upto_region 7 with fail
  refine wp_region_list ?_
  refine readL (.pointer (some ⟨Ra, 0, none⟩)) rfl (by kernel_rfl) ?_
  simp only [aP, lI, l0, lS]
  have Mp := M.perm (pull0 ([(B7, row .u8 32 (fun _ => 0)), (B4, row .u8 32 (fun _ => 0))] : List (Nat × List Value)) ba0 ([] : List (Nat × List Value)))
  have key := hK.key w0 _ _ (ynew (bl y7)) ba0 _ 0 hg (ynew_w y7_in) (by unfold i64; decide) hIa Mp
  clear Mp
  rw [show ykK (ynew (bl y7)) 0 = yof (bl y7) from ykK_now (k := ynew (bl y7)) (n := 0) rfl, show ykE (ynew (bl y7)) 0 = 0 from ykE_now (k := ynew (bl y7)) (n := 0) rfl] at key
  refine callL rfl (fun _ => by kernel_rfl) key ?_
  clear key
  rintro e w9 ⟨rfl, l⟩
  replace M := M.call l
  clear l
  refine ⟨_, rfl, ?_⟩
  simp only [aP, lI, l0, lS]
  refine readL (.tuple #[.agg (row .u8 32 (yof (bl y7))).toArray, .int .i64 0]) rfl (by kernel_rfl) ?_
  simp only [aP, lI, l0, lS]
  refine readL (.agg (row .u8 32 (yof (bl y7))).toArray) rfl (by kernel_rfl) ?_
  simp only [aP, lI, l0, lS]
  refine readL (.int .i64 0) rfl (by kernel_rfl) ?_
  simp only [aP, lI, l0, lS]
  refine actL (w' := w9.alloc (.cells zu8_32 23)) (.pointer (some ⟨w9.heap.size, 0, none⟩)) rfl (by kernel_rfl) ?_
  simp only [aP, lI, l0, lS]
  replace M := M.box zu8_32 23 w9.heap.size rfl
  generalize w9.alloc (.cells zu8_32 23) = w10 at M ⊢
  generalize w9.heap.size = B10 at M ⊢
  replace M : Mm w0 ((B10, row .u8 32 (fun _ => 0)) :: (B7, row .u8 32 (fun _ => 0)) :: (B4, row .u8 32 (fun _ => 0)) :: (ba0 ++ ([] : List (Nat × List Value)))) w10 := M
  refine skipOpL rfl (storeP (row .u8 32 (yof (bl y7))) B10 0 23 _ _ rfl rfl rfl (M.thereP mS 0 32 (Nat.le_of_ble_eq_true rfl)) (by kernel_rfl) (row_one .u8 32 (yof (bl y7)))) ?_
  simp only [Act.put]
  replace M := M.setAll (row .u8 32 (yof (bl y7))) (by first | (rw [row32, row32]; done) | (rw [row32]; rfl) | (rw [row32]; done))
  generalize w10.setCells B10 0 (row .u8 32 (yof (bl y7))) = w11 at M  ⊢
  refine readL (.int .i64 0) rfl (by kernel_rfl) ?_
  simp only [aP, lI, l0, lS]
  first | show Exit.then _ _ _ _ _ | show Exit.inBlock _ _ _ _ _
  go_upto_region 8 with fail
  refine wp_region_list ?_
  refine readL (.pointer (some ⟨Ra, 0, none⟩)) rfl (by kernel_rfl) ?_
  simp only [aP, lI, l0, lS]
  have Mp := M.perm (pull0 ([(B10, row .u8 32 (yof (bl y7))), (B7, row .u8 32 (fun _ => 0)), (B4, row .u8 32 (fun _ => 0))] : List (Nat × List Value)) ba0 ([] : List (Nat × List Value)))
  have key := hK.adv w0 _ _ (ynew (bl y7)) ba0 _ hg (ynew_w y7_in) hIa Mp
  clear Mp
  rw [show ynE (ynew (bl y7)) = 0 from if_neg (show ¬ (65535 : Int) ≤ 0 by decide), show yad (ynew (bl y7)) = (⟨1, ylt (bl y7), bl y7, true⟩ : Kys) from yad_on (show ¬ (65535 : Int) ≤ 0 by decide)] at key
  refine callL rfl (fun _ => by kernel_rfl) key ?_
  clear key
  rintro e w12 ⟨rfl, ba1, hI_, -, M', -⟩
  clear M hIa
  have hIa := hI_
  clear hI_
  have M : Mm w0 ((B10, row .u8 32 (yof (bl y7))) :: (B7, row .u8 32 (fun _ => 0)) :: (B4, row .u8 32 (fun _ => 0)) :: (ba1 ++ ([] : List (Nat × List Value)))) w12 := M'.perm (pull0 ([(B10, row .u8 32 (yof (bl y7))), (B7, row .u8 32 (fun _ => 0)), (B4, row .u8 32 (fun _ => 0))] : List (Nat × List Value)) ba1 ([] : List (Nat × List Value))).symm
  clear M'
  refine ⟨_, rfl, ?_⟩
  simp only [aP, lI, l0, lS]
  refine readL (.int .i64 0) rfl (by kernel_rfl) ?_
  simp only [aP, lI, l0, lS]
  first | show Exit.then _ _ _ _ _ | show Exit.inBlock _ _ _ _ _
  go_upto_region 9 with fail
  refine wp_region_list ?_
  refine readL (.pointer (some ⟨Ra, 0, none⟩)) rfl (by kernel_rfl) ?_
  simp only [aP, lI, l0, lS]
  have Mp := M.perm (pull0 ([(B10, row .u8 32 (yof (bl y7))), (B7, row .u8 32 (fun _ => 0)), (B4, row .u8 32 (fun _ => 0))] : List (Nat × List Value)) ba1 ([] : List (Nat × List Value)))
  have key := hK.adv w0 _ _ (⟨1, ylt (bl y7), bl y7, true⟩ : Kys) ba1 _ hg ⟨show (0 : Int) ≤ 1 by decide, show (1 : Int) ≤ 65535 by decide, ylt_in _, y7_in⟩ hIa Mp
  clear Mp
  rw [show ynE (⟨1, ylt (bl y7), bl y7, true⟩ : Kys) = 0 from if_neg (show ¬ (65535 : Int) ≤ 1 by decide), show yad (⟨1, ylt (bl y7), bl y7, true⟩ : Kys) = (⟨2, ylt (ylt (bl y7)), ylt (bl y7), true⟩ : Kys) from yad_on (show ¬ (65535 : Int) ≤ 1 by decide)] at key
  refine callL rfl (fun _ => by kernel_rfl) key ?_
  clear key
  rintro e w13 ⟨rfl, ba2, hI_, -, M', -⟩
  clear M hIa
  have hIa := hI_
  clear hI_
  have M : Mm w0 ((B10, row .u8 32 (yof (bl y7))) :: (B7, row .u8 32 (fun _ => 0)) :: (B4, row .u8 32 (fun _ => 0)) :: (ba2 ++ ([] : List (Nat × List Value)))) w13 := M'.perm (pull0 ([(B10, row .u8 32 (yof (bl y7))), (B7, row .u8 32 (fun _ => 0)), (B4, row .u8 32 (fun _ => 0))] : List (Nat × List Value)) ba2 ([] : List (Nat × List Value))).symm
  clear M'
  refine ⟨_, rfl, ?_⟩
  simp only [aP, lI, l0, lS]
  refine readL (.int .i64 0) rfl (by kernel_rfl) ?_
  simp only [aP, lI, l0, lS]
  first | show Exit.then _ _ _ _ _ | show Exit.inBlock _ _ _ _ _
  go_upto_region 10 with fail
  refine wp_region_list ?_
  refine readL (.pointer (some ⟨Ra, 0, none⟩)) rfl (by kernel_rfl) ?_
  simp only [aP, lI, l0, lS]
  have Mp := M.perm (pull0 ([(B10, row .u8 32 (yof (bl y7))), (B7, row .u8 32 (fun _ => 0)), (B4, row .u8 32 (fun _ => 0))] : List (Nat × List Value)) ba2 ([] : List (Nat × List Value)))
  have key := hK.key w0 _ _ (⟨2, ylt (ylt (bl y7)), ylt (bl y7), true⟩ : Kys) ba2 _ 0 hg ⟨show (0 : Int) ≤ 2 by decide, show (2 : Int) ≤ 65535 by decide, ylt_in _, ylt_in _⟩ (by unfold i64; decide) hIa Mp
  clear Mp
  rw [show ykK (⟨2, ylt (ylt (bl y7)), ylt (bl y7), true⟩ : Kys) 0 = (fun _ => 0) from ykK_none (k := (⟨2, ylt (ylt (bl y7)), ylt (bl y7), true⟩ : Kys)) (n := 0) (show ¬ (0 : Int) = 2 by decide) (fun h => absurd (show (0 : Int) = 2 - 1 from h.1) (by decide)), show ykE (⟨2, ylt (ylt (bl y7)), ylt (bl y7), true⟩ : Kys) 0 = 150 from ykE_none (k := (⟨2, ylt (ylt (bl y7)), ylt (bl y7), true⟩ : Kys)) (n := 0) (show ¬ (0 : Int) = 2 by decide) (fun h => absurd (show (0 : Int) = 2 - 1 from h.1) (by decide))] at key
  refine callL rfl (fun _ => by kernel_rfl) key ?_
  clear key
  rintro e w14 ⟨rfl, l⟩
  replace M := M.call l
  clear l
  refine ⟨_, rfl, ?_⟩
  simp only [aP, lI, l0, lS]
  refine readL (.tuple #[.agg (row .u8 32 (fun _ => 0)).toArray, .int .i64 150]) rfl (by kernel_rfl) ?_
  simp only [aP, lI, l0, lS]
  refine readL (.agg (row .u8 32 (fun _ => 0)).toArray) rfl (by kernel_rfl) ?_
  simp only [aP, lI, l0, lS]
  refine readL (.int .i64 150) rfl (by kernel_rfl) ?_
  simp only [aP, lI, l0, lS]
  refine actL (w' := w14.alloc (.cells zu8_32 23)) (.pointer (some ⟨w14.heap.size, 0, none⟩)) rfl (by kernel_rfl) ?_
  simp only [aP, lI, l0, lS]
  replace M := M.box zu8_32 23 w14.heap.size rfl
  generalize w14.alloc (.cells zu8_32 23) = w15 at M ⊢
  generalize w14.heap.size = B15 at M ⊢
  replace M : Mm w0 ((B15, row .u8 32 (fun _ => 0)) :: (B10, row .u8 32 (yof (bl y7))) :: (B7, row .u8 32 (fun _ => 0)) :: (B4, row .u8 32 (fun _ => 0)) :: (ba2 ++ ([] : List (Nat × List Value)))) w15 := M
  refine skipOpL rfl (storeP (row .u8 32 (fun _ => 0)) B15 0 23 _ _ rfl rfl rfl (M.thereP mS 0 32 (Nat.le_of_ble_eq_true rfl)) (by kernel_rfl) (row_one .u8 32 (fun _ => 0))) ?_
  simp only [Act.put]
  replace M := M.setAll (row .u8 32 (fun _ => 0)) (by first | (rw [row32, row32]; done) | (rw [row32]; rfl) | (rw [row32]; done))
  generalize w15.setCells B15 0 (row .u8 32 (fun _ => 0)) = w16 at M  ⊢
  refine readL (.int .i64 150) rfl (by kernel_rfl) ?_
  simp only [aP, lI, l0, lS]
  first | show Exit.then _ _ _ _ _ | show Exit.inBlock _ _ _ _ _
  go_upto_region 11 with fail
  refine wp_region_list ?_
  refine readL (.pointer (some ⟨Ra, 0, none⟩)) rfl (by kernel_rfl) ?_
  simp only [aP, lI, l0, lS]
  have Mp := M.perm (pull0 ([(B15, row .u8 32 (fun _ => 0)), (B10, row .u8 32 (yof (bl y7))), (B7, row .u8 32 (fun _ => 0)), (B4, row .u8 32 (fun _ => 0))] : List (Nat × List Value)) ba2 ([] : List (Nat × List Value)))
  have key := hK.key w0 _ _ (⟨2, ylt (ylt (bl y7)), ylt (bl y7), true⟩ : Kys) ba2 _ 1 hg ⟨show (0 : Int) ≤ 2 by decide, show (2 : Int) ≤ 65535 by decide, ylt_in _, ylt_in _⟩ (by unfold i64; decide) hIa Mp
  clear Mp
  rw [show ykK (⟨2, ylt (ylt (bl y7)), ylt (bl y7), true⟩ : Kys) 1 = yof (ylt (bl y7)) from ykK_last (k := (⟨2, ylt (ylt (bl y7)), ylt (bl y7), true⟩ : Kys)) (n := 1) rfl rfl, show ykE (⟨2, ylt (ylt (bl y7)), ylt (bl y7), true⟩ : Kys) 1 = 0 from ykE_last (k := (⟨2, ylt (ylt (bl y7)), ylt (bl y7), true⟩ : Kys)) (n := 1) rfl rfl] at key
  refine callL rfl (fun _ => by kernel_rfl) key ?_
  clear key
  rintro e w17 ⟨rfl, l⟩
  replace M := M.call l
  clear l
  refine ⟨_, rfl, ?_⟩
  simp only [aP, lI, l0, lS]
  refine readL (.tuple #[.agg (row .u8 32 (yof (ylt (bl y7)))).toArray, .int .i64 0]) rfl (by kernel_rfl) ?_
  simp only [aP, lI, l0, lS]
  refine readL (.agg (row .u8 32 (yof (ylt (bl y7)))).toArray) rfl (by kernel_rfl) ?_
  simp only [aP, lI, l0, lS]
  refine readL (.int .i64 0) rfl (by kernel_rfl) ?_
  simp only [aP, lI, l0, lS]
  refine actL (w' := w17.alloc (.cells zu8_32 23)) (.pointer (some ⟨w17.heap.size, 0, none⟩)) rfl (by kernel_rfl) ?_
  simp only [aP, lI, l0, lS]
  replace M := M.box zu8_32 23 w17.heap.size rfl
  generalize w17.alloc (.cells zu8_32 23) = w18 at M ⊢
  generalize w17.heap.size = B18 at M ⊢
  replace M : Mm w0 ((B18, row .u8 32 (fun _ => 0)) :: (B15, row .u8 32 (fun _ => 0)) :: (B10, row .u8 32 (yof (bl y7))) :: (B7, row .u8 32 (fun _ => 0)) :: (B4, row .u8 32 (fun _ => 0)) :: (ba2 ++ ([] : List (Nat × List Value)))) w18 := M
  refine skipOpL rfl (storeP (row .u8 32 (yof (ylt (bl y7)))) B18 0 23 _ _ rfl rfl rfl (M.thereP mS 0 32 (Nat.le_of_ble_eq_true rfl)) (by kernel_rfl) (row_one .u8 32 (yof (ylt (bl y7))))) ?_
  simp only [Act.put]
  replace M := M.setAll (row .u8 32 (yof (ylt (bl y7)))) (by first | (rw [row32, row32]; done) | (rw [row32]; rfl) | (rw [row32]; done))
  generalize w18.setCells B18 0 (row .u8 32 (yof (ylt (bl y7)))) = w19 at M  ⊢
  refine readL (.int .i64 0) rfl (by kernel_rfl) ?_
  simp only [aP, lI, l0, lS]
  first | show Exit.then _ _ _ _ _ | show Exit.inBlock _ _ _ _ _
  go_upto_region 12 with fail
  refine wp_region_list ?_
  refine readL (.pointer (some ⟨Ra, 0, none⟩)) rfl (by kernel_rfl) ?_
  simp only [aP, lI, l0, lS]
  have Mp := M.perm (pull0 ([(B18, row .u8 32 (yof (ylt (bl y7)))), (B15, row .u8 32 (fun _ => 0)), (B10, row .u8 32 (yof (bl y7))), (B7, row .u8 32 (fun _ => 0)), (B4, row .u8 32 (fun _ => 0))] : List (Nat × List Value)) ba2 ([] : List (Nat × List Value)))
  have key := hK.key w0 _ _ (⟨2, ylt (ylt (bl y7)), ylt (bl y7), true⟩ : Kys) ba2 _ 2 hg ⟨show (0 : Int) ≤ 2 by decide, show (2 : Int) ≤ 65535 by decide, ylt_in _, ylt_in _⟩ (by unfold i64; decide) hIa Mp
  clear Mp
  rw [show ykK (⟨2, ylt (ylt (bl y7)), ylt (bl y7), true⟩ : Kys) 2 = yof (ylt (ylt (bl y7))) from ykK_now (k := (⟨2, ylt (ylt (bl y7)), ylt (bl y7), true⟩ : Kys)) (n := 2) rfl, show ykE (⟨2, ylt (ylt (bl y7)), ylt (bl y7), true⟩ : Kys) 2 = 0 from ykE_now (k := (⟨2, ylt (ylt (bl y7)), ylt (bl y7), true⟩ : Kys)) (n := 2) rfl] at key
  refine callL rfl (fun _ => by kernel_rfl) key ?_
  clear key
  rintro e w20 ⟨rfl, l⟩
  replace M := M.call l
  clear l
  refine ⟨_, rfl, ?_⟩
  simp only [aP, lI, l0, lS]
  refine readL (.tuple #[.agg (row .u8 32 (yof (ylt (ylt (bl y7))))).toArray, .int .i64 0]) rfl (by kernel_rfl) ?_
  simp only [aP, lI, l0, lS]
  refine readL (.agg (row .u8 32 (yof (ylt (ylt (bl y7))))).toArray) rfl (by kernel_rfl) ?_
  simp only [aP, lI, l0, lS]
  refine readL (.int .i64 0) rfl (by kernel_rfl) ?_
  simp only [aP, lI, l0, lS]
  refine actL (w' := w20.alloc (.cells zu8_32 23)) (.pointer (some ⟨w20.heap.size, 0, none⟩)) rfl (by kernel_rfl) ?_
  simp only [aP, lI, l0, lS]
  replace M := M.box zu8_32 23 w20.heap.size rfl
  generalize w20.alloc (.cells zu8_32 23) = w21 at M ⊢
  generalize w20.heap.size = B21 at M ⊢
  replace M : Mm w0 ((B21, row .u8 32 (fun _ => 0)) :: (B18, row .u8 32 (yof (ylt (bl y7)))) :: (B15, row .u8 32 (fun _ => 0)) :: (B10, row .u8 32 (yof (bl y7))) :: (B7, row .u8 32 (fun _ => 0)) :: (B4, row .u8 32 (fun _ => 0)) :: (ba2 ++ ([] : List (Nat × List Value)))) w21 := M
  refine skipOpL rfl (storeP (row .u8 32 (yof (ylt (ylt (bl y7))))) B21 0 23 _ _ rfl rfl rfl (M.thereP mS 0 32 (Nat.le_of_ble_eq_true rfl)) (by kernel_rfl) (row_one .u8 32 (yof (ylt (ylt (bl y7)))))) ?_
  simp only [Act.put]
  replace M := M.setAll (row .u8 32 (yof (ylt (ylt (bl y7))))) (by first | (rw [row32, row32]; done) | (rw [row32]; rfl) | (rw [row32]; done))
  generalize w21.setCells B21 0 (row .u8 32 (yof (ylt (ylt (bl y7))))) = w22 at M  ⊢
  refine readL (.int .i64 0) rfl (by kernel_rfl) ?_
  simp only [aP, lI, l0, lS]
  first | show Exit.then _ _ _ _ _ | show Exit.inBlock _ _ _ _ _
  go_upto_region 13 with fail
  refine wp_region_list ?_
  refine readL (.int .i64 0) rfl (by kernel_rfl) ?_
  simp only [aP, lI, l0, lS]
  refine readL (.bool true) rfl (eqlI .i64 _ _ _ _ _ _ rfl rfl rfl true (by decide) _) ?_
  simp only [aP, lI, l0, lS]
  refine readL (.bool true) rfl (by kernel_rfl) ?_
  simp only [aP, lI, l0, lS]
  refine readL (.int .i64 150) rfl (by kernel_rfl) ?_
  simp only [aP, lI, l0, lS]
  refine readL (.bool true) rfl (eqlI .i64 _ _ _ _ _ _ rfl rfl rfl true (by decide) _) ?_
  simp only [aP, lI, l0, lS]
  refine readL (.bool true) rfl (by kernel_rfl) ?_
  simp only [aP, lI, l0, lS]
  refine readL (.bool true) rfl (by kernel_rfl) ?_
  simp only [aP, lI, l0, lS]
  refine readL (.int .i64 150) rfl (by kernel_rfl) ?_
  simp only [aP, lI, l0, lS]
  refine readL (.bool true) rfl (eqlI .i64 _ _ _ _ _ _ rfl rfl rfl true (by decide) _) ?_
  simp only [aP, lI, l0, lS]
  refine readL (.bool true) rfl (by kernel_rfl) ?_
  simp only [aP, lI, l0, lS]
  refine readL (.bool true) rfl (by kernel_rfl) ?_
  simp only [aP, lI, l0, lS]
  refine readL (.int .i64 0) rfl (by kernel_rfl) ?_
  simp only [aP, lI, l0, lS]
  refine readL (.bool true) rfl (eqlI .i64 _ _ _ _ _ _ rfl rfl rfl true (by decide) _) ?_
  simp only [aP, lI, l0, lS]
  refine readL (.bool true) rfl (by kernel_rfl) ?_
  simp only [aP, lI, l0, lS]
  refine readL (.bool true) rfl (by kernel_rfl) ?_
  simp only [aP, lI, l0, lS]
  refine readL (.int .i64 0) rfl (by kernel_rfl) ?_
  simp only [aP, lI, l0, lS]
  refine readL (.bool true) rfl (eqlI .i64 _ _ _ _ _ _ rfl rfl rfl true (by decide) _) ?_
  simp only [aP, lI, l0, lS]
  refine readL (.bool true) rfl (by kernel_rfl) ?_
  simp only [aP, lI, l0, lS]
  refine readL (.bool true) rfl (by kernel_rfl) ?_
  simp only [aP, lI, l0, lS]
  refine readL (.int .i64 0) rfl (by kernel_rfl) ?_
  simp only [aP, lI, l0, lS]
  refine readL (.bool true) rfl (eqlI .i64 _ _ _ _ _ _ rfl rfl rfl true (by decide) _) ?_
  simp only [aP, lI, l0, lS]
  refine readL (.bool true) rfl (by kernel_rfl) ?_
  simp only [aP, lI, l0, lS]
  refine readL (.bool true) rfl (by kernel_rfl) ?_
  simp only [aP, lI, l0, lS]
  refine readL (.int .i64 150) rfl (by kernel_rfl) ?_
  simp only [aP, lI, l0, lS]
  refine readL (.bool true) rfl (eqlI .i64 _ _ _ _ _ _ rfl rfl rfl true (by decide) _) ?_
  simp only [aP, lI, l0, lS]
  refine readL (.bool true) rfl (by kernel_rfl) ?_
  simp only [aP, lI, l0, lS]
  refine readL (.bool true) rfl (by kernel_rfl) ?_
  simp only [aP, lI, l0, lS]
  refine readL (.int .i64 0) rfl (by kernel_rfl) ?_
  simp only [aP, lI, l0, lS]
  refine readL (.bool true) rfl (eqlI .i64 _ _ _ _ _ _ rfl rfl rfl true (by decide) _) ?_
  simp only [aP, lI, l0, lS]
  refine readL (.bool true) rfl (by kernel_rfl) ?_
  simp only [aP, lI, l0, lS]
  refine readL (.bool true) rfl (by kernel_rfl) ?_
  simp only [aP, lI, l0, lS]
  refine readL (.int .i64 0) rfl (by kernel_rfl) ?_
  simp only [aP, lI, l0, lS]
  refine readL (.bool true) rfl (eqlI .i64 _ _ _ _ _ _ rfl rfl rfl true (by decide) _) ?_
  simp only [aP, lI, l0, lS]
  refine readL (.bool true) rfl (by kernel_rfl) ?_
  simp only [aP, lI, l0, lS]
  refine readL (.bool true) rfl (by kernel_rfl) ?_
  simp only [aP, lI, l0, lS]
  refine readL (.agg (row .u8 32 (yof (bl y7))).toArray) rfl (loadN 23 _ ⟨B10, 0, none⟩ (row .u8 32 (yof (bl y7))) rfl rfl (fun _ => by kernel_rfl) (fun _ => by rw [row32]; kernel_rfl) (M.part (mT _ (mT _ (mT _ mS))) 0 _ (by rw [List.drop_zero, List.take_length]))) ?_
  simp only [aP, lI, l0, lS]
  refine readL (.agg (row .u8 32 (yof (ylt (bl y7)))).toArray) rfl (loadN 23 _ ⟨B18, 0, none⟩ (row .u8 32 (yof (ylt (bl y7)))) rfl rfl (fun _ => by kernel_rfl) (fun _ => by rw [row32]; kernel_rfl) (M.part (mT _ mS) 0 _ (by rw [List.drop_zero, List.take_length]))) ?_
  simp only [aP, lI, l0, lS]
  refine readL (.bool true) rfl (neqV 32 (yof (bl y7)) (yof (ylt (bl y7))) 23 5 _ _ _ rfl rfl rfl Tryd.underlying23 Tryd.underlying5 (fun _ => by kernel_rfl) (by kernel_rfl) (yof_in _) (yof_in _) true nv1.out _) ?_
  simp only [aP, lI, l0, lS]
  refine readL (.bool true) rfl (by kernel_rfl) ?_
  simp only [aP, lI, l0, lS]
  refine readL (.bool true) rfl (by kernel_rfl) ?_
  simp only [aP, lI, l0, lS]
  refine readL (.agg (row .u8 32 (yof (ylt (bl y7)))).toArray) rfl (loadN 23 _ ⟨B18, 0, none⟩ (row .u8 32 (yof (ylt (bl y7)))) rfl rfl (fun _ => by kernel_rfl) (fun _ => by rw [row32]; kernel_rfl) (M.part (mT _ mS) 0 _ (by rw [List.drop_zero, List.take_length]))) ?_
  simp only [aP, lI, l0, lS]
  refine readL (.agg (row .u8 32 (yof (ylt (ylt (bl y7))))).toArray) rfl (loadN 23 _ ⟨B21, 0, none⟩ (row .u8 32 (yof (ylt (ylt (bl y7))))) rfl rfl (fun _ => by kernel_rfl) (fun _ => by rw [row32]; kernel_rfl) (M.part mS 0 _ (by rw [List.drop_zero, List.take_length]))) ?_
  simp only [aP, lI, l0, lS]
  refine readL (.bool true) rfl (neqV 32 (yof (ylt (bl y7))) (yof (ylt (ylt (bl y7)))) 23 5 _ _ _ rfl rfl rfl Tryd.underlying23 Tryd.underlying5 (fun _ => by kernel_rfl) (by kernel_rfl) (yof_in _) (yof_in _) true nv2.out _) ?_
  simp only [aP, lI, l0, lS]
  refine readL (.bool true) rfl (by kernel_rfl) ?_
  simp only [aP, lI, l0, lS]
  refine readL (.bool true) rfl (by kernel_rfl) ?_
  simp only [aP, lI, l0]
  first | show Exit.then _ _ _ _ _ | show Exit.inBlock _ _ _ _ _
  have hbel := M.below
  clear M
  go_wp2
  go_ret
  exact ⟨rfl, hbel⟩
end Go.Proofs.YtckohmdmjhaknaaDoor
