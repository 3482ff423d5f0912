/- Texts of Ba Ky Bm Bs Mw, joined. -/
import Derived.Test.YtckohmdmjhaknaaDoorP1KeysPlays
import Derived.Test.YtckohmdmjhaknaaDoorProg
import Derived.KernelRfl
import Derived.BigQuiet
import Derived.Deep.Cut
set_option maxRecDepth 20000
set_option maxHeartbeats 64000000
namespace Go.Proofs.YtckohmdmjhaknaaDoor
open Go.RowKit
def mA (a b x : Int) : Int := had (had a b) x
def mD (p : Nat) (d a : Int) : Int := hrl p (hxr d a)
def bA1 (a b x : Int) : Int := mA a b x
def bD1 (a b d x : Int) : Int := mD 16 d (bA1 a b x)
def bC1 (a b c d x : Int) : Int := had c (bD1 a b d x)
def bB1 (a b c d x : Int) : Int := mD 20 b (bC1 a b c d x)
def bA (a b c d x y : Int) : Int := mA (bA1 a b x) (bB1 a b c d x) y
def bD (a b c d x y : Int) : Int := mD 24 (bD1 a b d x) (bA a b c d x y)
def bC (a b c d x y : Int) : Int := had (bC1 a b c d x) (bD a b c d x y)
def bB (a b c d x y : Int) : Int := mD 25 (bB1 a b c d x) (bC a b c d x y)
theorem mD_in (p : Nat) (d a : Int) (hd : 0 ≤ d ∧ d < V) (ha : 0 ≤ a ∧ a < V) : 0 ≤ mD p d a ∧ mD p d a < V := hrl_in _ _ (hxr_in _ _ hd ha)
theorem bA_in (a b c d x y : Int) : 0 ≤ bA a b c d x y ∧ bA a b c d x y < V := had_in _ _
theorem bD1_in (a b d x : Int) (hd : 0 ≤ d ∧ d < V) : 0 ≤ bD1 a b d x ∧ bD1 a b d x < V := mD_in _ _ _ hd (had_in _ _)
theorem bB1_in (a b c d x : Int) (hb : 0 ≤ b ∧ b < V) : 0 ≤ bB1 a b c d x ∧ bB1 a b c d x < V := mD_in _ _ _ hb (had_in _ _)
theorem bD_in (a b c d x y : Int) (hd : 0 ≤ d ∧ d < V) : 0 ≤ bD a b c d x y ∧ bD a b c d x y < V := mD_in _ _ _ (bD1_in a b d x hd) (had_in _ _)
theorem bC_in (a b c d x y : Int) : 0 ≤ bC a b c d x y ∧ bC a b c d x y < V := had_in _ _
theorem bB_in (a b c d x y : Int) (hb : 0 ≤ b ∧ b < V) : 0 ≤ bB a b c d x y ∧ bB a b c d x y < V := mD_in _ _ _ (bB1_in a b c d x hb) (had_in _ _)
def bMx (v : Nat → Int) (a b c d : Nat) (x y : Int) : Nat → Int :=
  upd (upd (upd (upd v a (bA (v a) (v b) (v c) (v d) x y)) b (bB (v a) (v b) (v c) (v d) x y)) c (bC (v a) (v b) (v c) (v d) x y)) d (bD (v a) (v b) (v c) (v d) x y)
theorem bMx_in (v : Nat → Int) (a b c d : Nat) (x y : Int) (hb : b < 16) (hd : d < 16) (h : In V 16 v) : In V 16 (bMx v a b c d x y) :=
  (((h.upd _ _ (bA_in _ _ _ _ _ _).1 (bA_in _ _ _ _ _ _).2).upd _ _ (bB_in _ _ _ _ _ _ (h b hb)).1 (bB_in _ _ _ _ _ _ (h b hb)).2).upd _ _ (bC_in _ _ _ _ _ _).1 (bC_in _ _ _ _ _ _).2).upd _ _ (bD_in _ _ _ _ _ _ (h d hd)).1 (bD_in _ _ _ _ _ _ (h d hd)).2
def sgL : List Nat := [0, 1, 2, 3, 4, 5, 6, 7, 8, 9, 10, 11, 12, 13, 14, 15, 14, 10, 4, 8, 9, 15, 13, 6, 1, 12, 0, 2, 11, 7, 5, 3, 11, 8, 12, 0, 5, 2, 15, 13, 10, 14, 3, 6, 7, 1, 9, 4, 7, 9, 3, 1, 13, 12, 11, 14, 2, 6, 5, 10, 4, 0, 15, 8, 9, 0, 5, 7, 2, 4, 10, 15, 14, 1, 11, 12, 6, 8, 3, 13, 2, 12, 6, 10, 0, 11, 8, 3, 4, 13, 7, 5, 15, 14, 1, 9, 12, 5, 1, 15, 14, 13, 4, 10, 0, 7, 6, 3, 9, 2, 8, 11, 13, 11, 7, 14, 12, 1, 3, 9, 5, 0, 15, 4, 8, 6, 2, 10, 6, 15, 14, 9, 11, 3, 0, 8, 12, 2, 13, 7, 1, 4, 10, 5, 10, 2, 8, 4, 7, 6, 1, 5, 15, 11, 9, 14, 3, 12, 13, 0]
def sg (r i : Nat) : Nat := sgL.getD (16 * r + i) 0
theorem sg_lt (r i : Nat) : sg r i < 16 := by
  unfold sg
  rw [List.getD_eq_getElem?_getD]
  cases e : sgL[16 * r + i]? with
  | none => simp
  | some x =>
    have h : ∀ x ∈ sgL, x < 16 := by decide +kernel
    simpa using h x (List.mem_of_getElem? e)
def bAt (m : Nat → Int) (s : Nat → Nat) (v : Nat → Int) (i : Nat) : Nat → Int := bMx v (pA i) (pB i) (pC i) (pD i) (m (s (2 * i))) (m (s (2 * i + 1)))
def bN (m : Nat → Int) (s : Nat → Nat) (v : Nat → Int) : Nat → Nat → Int
  | 0 => v
  | i + 1 => bAt m s (bN m s v i) i
def bR (m : Nat → Int) (v : Nat → Int) : Nat → Nat → Int
  | 0 => v
  | r + 1 => bN m (sg r) (bR m v r) 8
theorem bAt_in (m : Nat → Int) (s : Nat → Nat) (v : Nat → Int) (i : Nat) (h : In V 16 v) : In V 16 (bAt m s v i) := bMx_in _ _ _ _ _ _ _ (by have := pB_lt i; omega) (by have := pD_lt i; omega) h
theorem bN_in (m : Nat → Int) (s : Nat → Nat) (v : Nat → Int) (h : In V 16 v) : ∀ i, In V 16 (bN m s v i)
  | 0 => h
  | i + 1 => bAt_in _ _ _ _ (bN_in m s v h i)
theorem bR_in (m : Nat → Int) (v : Nat → Int) (h : In V 16 v) : ∀ r, In V 16 (bR m v r)
  | 0 => h
  | r + 1 => bN_in _ _ _ (bR_in m v h r) 8
def iv : Nat → Int := bl [1779033703, 3144134277, 1013904242, 2773480762, 1359893119, 2600822924, 528734635, 1541459225]
theorem iv_in : In V 8 iv := fun j hj => by
  match j, hj with
  | 0, _ | 1, _ | 2, _ | 3, _ | 4, _ | 5, _ | 6, _ | 7, _ => decide
def bst (h : Nat → Int) (t : Int) (last : Bool) : Nat → Int := six (h 0) (h 1) (h 2) (h 3) (h 4) (h 5) (h 6) (h 7) (iv 0) (iv 1) (iv 2) (iv 3) (hxr (iv 4) (t % 4294967296)) (hxr (iv 5) (t / 4294967296 % 4294967296)) (if last then 4294967295 - iv 6 else iv 6) (iv 7)
def bpw (z : Nat → Int) : Nat → Int := fun i => w32 z (4 * i)
def bpr (h : Nat → Int) (z : Nat → Int) (t : Int) (last : Bool) : Nat → Int := fun i => hxr (hxr (h i) (bR (bpw z) (bst h t last) 10 i)) (bR (bpw z) (bst h t last) 10 (i + 8))
theorem bst_in (h : Nat → Int) (t : Int) (last : Bool) (hh : In V 8 h) : In V 16 (bst h t last) :=
  six_in _ _ _ _ _ _ _ _ _ _ _ _ _ _ _ _ (hh 0 (by omega)) (hh 1 (by omega)) (hh 2 (by omega)) (hh 3 (by omega)) (hh 4 (by omega)) (hh 5 (by omega)) (hh 6 (by omega)) (hh 7 (by omega)) (iv_in 0 (by omega)) (iv_in 1 (by omega)) (iv_in 2 (by omega)) (iv_in 3 (by omega))
    (hxr_in _ _ (iv_in 4 (by omega)) (by simp only [V]; omega)) (hxr_in _ _ (iv_in 5 (by omega)) (by simp only [V]; omega)) (by have h6 := iv_in 6 (by omega); simp only [V] at h6 ⊢; split <;> omega) (iv_in 7 (by omega))
theorem bpr_in (h z : Nat → Int) (t : Int) (last : Bool) (hh : In V 8 h) : In V 8 (bpr h z t last) := fun j hj =>
  hxr_in _ _ (hxr_in _ _ (hh j hj) (bR_in _ _ (bst_in h t last hh) 10 j (by omega))) (bR_in _ _ (bst_in h t last hh) 10 (j + 8) (by omega))
def btl (kl len : Nat) : Nat := (if kl = 0 then 0 else 64) + len
def btx (kl : Nat) (key : Nat → Int) (len : Nat) (z : Nat → Int) : Nat → Int := fun j =>
  if kl = 0 then (if j < len then z j else 0) else if j < 64 then (if j < kl then key j else 0) else if j < 64 + len then z (j - 64) else 0
def bnb (kl len : Nat) : Nat := if btl kl len = 0 then 1 else (btl kl len + 63) / 64
theorem btx_in (kl : Nat) (key : Nat → Int) (len : Nat) (z : Nat → Int) (hk : In 256 kl key) (hz : In 256 len z) (j : Nat) : 0 ≤ btx kl key len z j ∧ btx kl key len z j < 256 := by
  unfold btx
  split
  · split
    · exact hz _ (by assumption)
    · omega
  · split
    · split
      · exact hk _ (by assumption)
      · omega
    · split
      · exact hz _ (by omega)
      · omega
def bh0 (kl size : Nat) : Nat → Int := upd iv 0 (hxr (hxr (hxr (iv 0) 16842752) (256 * (kl : Int))) (size : Int))
theorem bh0_in (kl size : Nat) (hk : kl ≤ 32) (hs : size ≤ 32) : In V 8 (bh0 kl size) := by
  have h := hxr_in _ _ (hxr_in _ _ (hxr_in _ _ (iv_in 0 (by omega)) (show 0 ≤ (16842752 : Int) ∧ (16842752 : Int) < V by decide)) (show 0 ≤ 256 * (kl : Int) ∧ 256 * (kl : Int) < V by simp only [V]; omega)) (show 0 ≤ (size : Int) ∧ (size : Int) < V by simp only [V]; omega)
  exact iv_in.upd _ _ h.1 h.2
def bH (kl : Nat) (key : Nat → Int) (size len : Nat) (z : Nat → Int) : Nat → Nat → Int
  | 0 => bh0 kl size
  | i + 1 => bpr (bH kl key size len z i) (fun j => btx kl key len z (64 * i + j)) ((min (64 * i + 64) (btl kl len) : Nat) : Int) (decide (i + 1 = bnb kl len))
theorem bH_in (kl : Nat) (key : Nat → Int) (size len : Nat) (z : Nat → Int) (hk : kl ≤ 32) (hs : size ≤ 32) : ∀ i, In V 8 (bH kl key size len z i)
  | 0 => bh0_in kl size hk hs
  | i + 1 => bpr_in _ _ _ _ (bH_in kl key size len z hk hs i)
def bsum (kl : Nat) (key : Nat → Int) (size len : Nat) (z : Nat → Int) : Nat → Int := fun j => b32 (bH kl key size len z (bnb kl len) (j / 4)) (j % 4)
theorem bsum_in (kl : Nat) (key : Nat → Int) (size len : Nat) (z : Nat → Int) (n : Nat) : In 256 n (bsum kl key size len z) := fun j _ => b32_in _ _ (Nat.mod_lt _ (by decide))
def bhash (len : Nat) (z : Nat → Int) : Nat → Int := bsum 0 (fun _ => 0) 32 len z
theorem bAt_six0 (m : Nat → Int) (s : Nat → Nat) (x0 x1 x2 x3 x4 x5 x6 x7 x8 x9 x10 x11 x12 x13 x14 x15 : Int) : bAt m s (six x0 x1 x2 x3 x4 x5 x6 x7 x8 x9 x10 x11 x12 x13 x14 x15) 0 = six (bA x0 x4 x8 x12 (m (s 0)) (m (s 1))) x1 x2 x3 (bB x0 x4 x8 x12 (m (s 0)) (m (s 1))) x5 x6 x7 (bC x0 x4 x8 x12 (m (s 0)) (m (s 1))) x9 x10 x11 (bD x0 x4 x8 x12 (m (s 0)) (m (s 1))) x13 x14 x15 := by
  show upd (upd (upd (upd (six x0 x1 x2 x3 x4 x5 x6 x7 x8 x9 x10 x11 x12 x13 x14 x15) 0 (bA x0 x4 x8 x12 (m (s 0)) (m (s 1)))) 4 (bB x0 x4 x8 x12 (m (s 0)) (m (s 1)))) 8 (bC x0 x4 x8 x12 (m (s 0)) (m (s 1)))) 12 (bD x0 x4 x8 x12 (m (s 0)) (m (s 1))) = _
  rw [upd_six0, upd_six4, upd_six8, upd_six12]
theorem bAt_six1 (m : Nat → Int) (s : Nat → Nat) (x0 x1 x2 x3 x4 x5 x6 x7 x8 x9 x10 x11 x12 x13 x14 x15 : Int) : bAt m s (six x0 x1 x2 x3 x4 x5 x6 x7 x8 x9 x10 x11 x12 x13 x14 x15) 1 = six x0 (bA x1 x5 x9 x13 (m (s 2)) (m (s 3))) x2 x3 x4 (bB x1 x5 x9 x13 (m (s 2)) (m (s 3))) x6 x7 x8 (bC x1 x5 x9 x13 (m (s 2)) (m (s 3))) x10 x11 x12 (bD x1 x5 x9 x13 (m (s 2)) (m (s 3))) x14 x15 := by
  show upd (upd (upd (upd (six x0 x1 x2 x3 x4 x5 x6 x7 x8 x9 x10 x11 x12 x13 x14 x15) 1 (bA x1 x5 x9 x13 (m (s 2)) (m (s 3)))) 5 (bB x1 x5 x9 x13 (m (s 2)) (m (s 3)))) 9 (bC x1 x5 x9 x13 (m (s 2)) (m (s 3)))) 13 (bD x1 x5 x9 x13 (m (s 2)) (m (s 3))) = _
  rw [upd_six1, upd_six5, upd_six9, upd_six13]
theorem bAt_six2 (m : Nat → Int) (s : Nat → Nat) (x0 x1 x2 x3 x4 x5 x6 x7 x8 x9 x10 x11 x12 x13 x14 x15 : Int) : bAt m s (six x0 x1 x2 x3 x4 x5 x6 x7 x8 x9 x10 x11 x12 x13 x14 x15) 2 = six x0 x1 (bA x2 x6 x10 x14 (m (s 4)) (m (s 5))) x3 x4 x5 (bB x2 x6 x10 x14 (m (s 4)) (m (s 5))) x7 x8 x9 (bC x2 x6 x10 x14 (m (s 4)) (m (s 5))) x11 x12 x13 (bD x2 x6 x10 x14 (m (s 4)) (m (s 5))) x15 := by
  show upd (upd (upd (upd (six x0 x1 x2 x3 x4 x5 x6 x7 x8 x9 x10 x11 x12 x13 x14 x15) 2 (bA x2 x6 x10 x14 (m (s 4)) (m (s 5)))) 6 (bB x2 x6 x10 x14 (m (s 4)) (m (s 5)))) 10 (bC x2 x6 x10 x14 (m (s 4)) (m (s 5)))) 14 (bD x2 x6 x10 x14 (m (s 4)) (m (s 5))) = _
  rw [upd_six2, upd_six6, upd_six10, upd_six14]
theorem bAt_six3 (m : Nat → Int) (s : Nat → Nat) (x0 x1 x2 x3 x4 x5 x6 x7 x8 x9 x10 x11 x12 x13 x14 x15 : Int) : bAt m s (six x0 x1 x2 x3 x4 x5 x6 x7 x8 x9 x10 x11 x12 x13 x14 x15) 3 = six x0 x1 x2 (bA x3 x7 x11 x15 (m (s 6)) (m (s 7))) x4 x5 x6 (bB x3 x7 x11 x15 (m (s 6)) (m (s 7))) x8 x9 x10 (bC x3 x7 x11 x15 (m (s 6)) (m (s 7))) x12 x13 x14 (bD x3 x7 x11 x15 (m (s 6)) (m (s 7))) := by
  show upd (upd (upd (upd (six x0 x1 x2 x3 x4 x5 x6 x7 x8 x9 x10 x11 x12 x13 x14 x15) 3 (bA x3 x7 x11 x15 (m (s 6)) (m (s 7)))) 7 (bB x3 x7 x11 x15 (m (s 6)) (m (s 7)))) 11 (bC x3 x7 x11 x15 (m (s 6)) (m (s 7)))) 15 (bD x3 x7 x11 x15 (m (s 6)) (m (s 7))) = _
  rw [upd_six3, upd_six7, upd_six11, upd_six15]
theorem bAt_six4 (m : Nat → Int) (s : Nat → Nat) (x0 x1 x2 x3 x4 x5 x6 x7 x8 x9 x10 x11 x12 x13 x14 x15 : Int) : bAt m s (six x0 x1 x2 x3 x4 x5 x6 x7 x8 x9 x10 x11 x12 x13 x14 x15) 4 = six (bA x0 x5 x10 x15 (m (s 8)) (m (s 9))) x1 x2 x3 x4 (bB x0 x5 x10 x15 (m (s 8)) (m (s 9))) x6 x7 x8 x9 (bC x0 x5 x10 x15 (m (s 8)) (m (s 9))) x11 x12 x13 x14 (bD x0 x5 x10 x15 (m (s 8)) (m (s 9))) := by
  show upd (upd (upd (upd (six x0 x1 x2 x3 x4 x5 x6 x7 x8 x9 x10 x11 x12 x13 x14 x15) 0 (bA x0 x5 x10 x15 (m (s 8)) (m (s 9)))) 5 (bB x0 x5 x10 x15 (m (s 8)) (m (s 9)))) 10 (bC x0 x5 x10 x15 (m (s 8)) (m (s 9)))) 15 (bD x0 x5 x10 x15 (m (s 8)) (m (s 9))) = _
  rw [upd_six0, upd_six5, upd_six10, upd_six15]
theorem bAt_six5 (m : Nat → Int) (s : Nat → Nat) (x0 x1 x2 x3 x4 x5 x6 x7 x8 x9 x10 x11 x12 x13 x14 x15 : Int) : bAt m s (six x0 x1 x2 x3 x4 x5 x6 x7 x8 x9 x10 x11 x12 x13 x14 x15) 5 = six x0 (bA x1 x6 x11 x12 (m (s 10)) (m (s 11))) x2 x3 x4 x5 (bB x1 x6 x11 x12 (m (s 10)) (m (s 11))) x7 x8 x9 x10 (bC x1 x6 x11 x12 (m (s 10)) (m (s 11))) (bD x1 x6 x11 x12 (m (s 10)) (m (s 11))) x13 x14 x15 := by
  show upd (upd (upd (upd (six x0 x1 x2 x3 x4 x5 x6 x7 x8 x9 x10 x11 x12 x13 x14 x15) 1 (bA x1 x6 x11 x12 (m (s 10)) (m (s 11)))) 6 (bB x1 x6 x11 x12 (m (s 10)) (m (s 11)))) 11 (bC x1 x6 x11 x12 (m (s 10)) (m (s 11)))) 12 (bD x1 x6 x11 x12 (m (s 10)) (m (s 11))) = _
  rw [upd_six1, upd_six6, upd_six11, upd_six12]
theorem bAt_six6 (m : Nat → Int) (s : Nat → Nat) (x0 x1 x2 x3 x4 x5 x6 x7 x8 x9 x10 x11 x12 x13 x14 x15 : Int) : bAt m s (six x0 x1 x2 x3 x4 x5 x6 x7 x8 x9 x10 x11 x12 x13 x14 x15) 6 = six x0 x1 (bA x2 x7 x8 x13 (m (s 12)) (m (s 13))) x3 x4 x5 x6 (bB x2 x7 x8 x13 (m (s 12)) (m (s 13))) (bC x2 x7 x8 x13 (m (s 12)) (m (s 13))) x9 x10 x11 x12 (bD x2 x7 x8 x13 (m (s 12)) (m (s 13))) x14 x15 := by
  show upd (upd (upd (upd (six x0 x1 x2 x3 x4 x5 x6 x7 x8 x9 x10 x11 x12 x13 x14 x15) 2 (bA x2 x7 x8 x13 (m (s 12)) (m (s 13)))) 7 (bB x2 x7 x8 x13 (m (s 12)) (m (s 13)))) 8 (bC x2 x7 x8 x13 (m (s 12)) (m (s 13)))) 13 (bD x2 x7 x8 x13 (m (s 12)) (m (s 13))) = _
  rw [upd_six2, upd_six7, upd_six8, upd_six13]
theorem bAt_six7 (m : Nat → Int) (s : Nat → Nat) (x0 x1 x2 x3 x4 x5 x6 x7 x8 x9 x10 x11 x12 x13 x14 x15 : Int) : bAt m s (six x0 x1 x2 x3 x4 x5 x6 x7 x8 x9 x10 x11 x12 x13 x14 x15) 7 = six x0 x1 x2 (bA x3 x4 x9 x14 (m (s 14)) (m (s 15))) (bB x3 x4 x9 x14 (m (s 14)) (m (s 15))) x5 x6 x7 x8 (bC x3 x4 x9 x14 (m (s 14)) (m (s 15))) x10 x11 x12 x13 (bD x3 x4 x9 x14 (m (s 14)) (m (s 15))) x15 := by
  show upd (upd (upd (upd (six x0 x1 x2 x3 x4 x5 x6 x7 x8 x9 x10 x11 x12 x13 x14 x15) 3 (bA x3 x4 x9 x14 (m (s 14)) (m (s 15)))) 4 (bB x3 x4 x9 x14 (m (s 14)) (m (s 15)))) 9 (bC x3 x4 x9 x14 (m (s 14)) (m (s 15)))) 14 (bD x3 x4 x9 x14 (m (s 14)) (m (s 15))) = _
  rw [upd_six3, upd_six4, upd_six9, upd_six14]
def evb8 {α : Type} (m : Nat → Int) (s : Nat → Nat) (x0 x1 x2 x3 x4 x5 x6 x7 x8 x9 x10 x11 x12 x13 x14 x15 : Int) (f : Int → Int → Int → Int → Int → Int → Int → Int → Int → Int → Int → Int → Int → Int → Int → Int → α) : α :=
  forceI (had (had x0 x4) (m (s 0))) fun x0 => forceI (hrl 16 (hxr x12 x0)) fun x12 => forceI (had x8 x12) fun x8 => forceI (hrl 20 (hxr x4 x8)) fun x4 =>
  forceI (had (had x0 x4) (m (s 1))) fun x0 => forceI (hrl 24 (hxr x12 x0)) fun x12 => forceI (had x8 x12) fun x8 => forceI (hrl 25 (hxr x4 x8)) fun x4 =>
  forceI (had (had x1 x5) (m (s 2))) fun x1 => forceI (hrl 16 (hxr x13 x1)) fun x13 => forceI (had x9 x13) fun x9 => forceI (hrl 20 (hxr x5 x9)) fun x5 =>
  forceI (had (had x1 x5) (m (s 3))) fun x1 => forceI (hrl 24 (hxr x13 x1)) fun x13 => forceI (had x9 x13) fun x9 => forceI (hrl 25 (hxr x5 x9)) fun x5 =>
  forceI (had (had x2 x6) (m (s 4))) fun x2 => forceI (hrl 16 (hxr x14 x2)) fun x14 => forceI (had x10 x14) fun x10 => forceI (hrl 20 (hxr x6 x10)) fun x6 =>
  forceI (had (had x2 x6) (m (s 5))) fun x2 => forceI (hrl 24 (hxr x14 x2)) fun x14 => forceI (had x10 x14) fun x10 => forceI (hrl 25 (hxr x6 x10)) fun x6 =>
  forceI (had (had x3 x7) (m (s 6))) fun x3 => forceI (hrl 16 (hxr x15 x3)) fun x15 => forceI (had x11 x15) fun x11 => forceI (hrl 20 (hxr x7 x11)) fun x7 =>
  forceI (had (had x3 x7) (m (s 7))) fun x3 => forceI (hrl 24 (hxr x15 x3)) fun x15 => forceI (had x11 x15) fun x11 => forceI (hrl 25 (hxr x7 x11)) fun x7 =>
  forceI (had (had x0 x5) (m (s 8))) fun x0 => forceI (hrl 16 (hxr x15 x0)) fun x15 => forceI (had x10 x15) fun x10 => forceI (hrl 20 (hxr x5 x10)) fun x5 =>
  forceI (had (had x0 x5) (m (s 9))) fun x0 => forceI (hrl 24 (hxr x15 x0)) fun x15 => forceI (had x10 x15) fun x10 => forceI (hrl 25 (hxr x5 x10)) fun x5 =>
  forceI (had (had x1 x6) (m (s 10))) fun x1 => forceI (hrl 16 (hxr x12 x1)) fun x12 => forceI (had x11 x12) fun x11 => forceI (hrl 20 (hxr x6 x11)) fun x6 =>
  forceI (had (had x1 x6) (m (s 11))) fun x1 => forceI (hrl 24 (hxr x12 x1)) fun x12 => forceI (had x11 x12) fun x11 => forceI (hrl 25 (hxr x6 x11)) fun x6 =>
  forceI (had (had x2 x7) (m (s 12))) fun x2 => forceI (hrl 16 (hxr x13 x2)) fun x13 => forceI (had x8 x13) fun x8 => forceI (hrl 20 (hxr x7 x8)) fun x7 =>
  forceI (had (had x2 x7) (m (s 13))) fun x2 => forceI (hrl 24 (hxr x13 x2)) fun x13 => forceI (had x8 x13) fun x8 => forceI (hrl 25 (hxr x7 x8)) fun x7 =>
  forceI (had (had x3 x4) (m (s 14))) fun x3 => forceI (hrl 16 (hxr x14 x3)) fun x14 => forceI (had x9 x14) fun x9 => forceI (hrl 20 (hxr x4 x9)) fun x4 =>
  forceI (had (had x3 x4) (m (s 15))) fun x3 => forceI (hrl 24 (hxr x14 x3)) fun x14 => forceI (had x9 x14) fun x9 => forceI (hrl 25 (hxr x4 x9)) fun x4 =>
  f x0 x1 x2 x3 x4 x5 x6 x7 x8 x9 x10 x11 x12 x13 x14 x15
def evF (m : Nat → Int) : Nat → Nat → Int → Int → Int → Int → Int → Int → Int → Int → Int → Int → Int → Int → Int → Int → Int → Int → Nat → Int
  | 0, _, x0, x1, x2, x3, x4, x5, x6, x7, x8, x9, x10, x11, x12, x13, x14, x15 => six x0 x1 x2 x3 x4 x5 x6 x7 x8 x9 x10 x11 x12 x13 x14 x15
  | n + 1, r, x0, x1, x2, x3, x4, x5, x6, x7, x8, x9, x10, x11, x12, x13, x14, x15 => evb8 m (sg r) x0 x1 x2 x3 x4 x5 x6 x7 x8 x9 x10 x11 x12 x13 x14 x15 (evF m n (r + 1))
def bF (m : Nat → Int) : Nat → Nat → (Nat → Int) → Nat → Int
  | 0, _, v => v
  | n + 1, r, v => bF m n (r + 1) (bN m (sg r) v 8)
theorem bF_eq (m v : Nat → Int) : ∀ n r, bF m n r (bR m v r) = bR m v (r + n)
  | 0, _ => rfl
  | n + 1, r => by
    show bF m n (r + 1) (bR m v (r + 1)) = _
    rw [bF_eq m v n (r + 1), show r + 1 + n = r + (n + 1) by omega]
theorem evF_eq (m : Nat → Int) : ∀ (n r : Nat) (x0 x1 x2 x3 x4 x5 x6 x7 x8 x9 x10 x11 x12 x13 x14 x15 : Int), evF m n r x0 x1 x2 x3 x4 x5 x6 x7 x8 x9 x10 x11 x12 x13 x14 x15 = bF m n r (six x0 x1 x2 x3 x4 x5 x6 x7 x8 x9 x10 x11 x12 x13 x14 x15)
  | 0, _, _, _, _, _, _, _, _, _, _, _, _, _, _, _, _, _ => rfl
  | n + 1, r, x0, x1, x2, x3, x4, x5, x6, x7, x8, x9, x10, x11, x12, x13, x14, x15 => by
    show evb8 m (sg r) x0 x1 x2 x3 x4 x5 x6 x7 x8 x9 x10 x11 x12 x13 x14 x15 (evF m n (r + 1)) = bF m n (r + 1) (bAt m (sg r) (bAt m (sg r) (bAt m (sg r) (bAt m (sg r) (bAt m (sg r) (bAt m (sg r) (bAt m (sg r) (bAt m (sg r) (six x0 x1 x2 x3 x4 x5 x6 x7 x8 x9 x10 x11 x12 x13 x14 x15) 0) 1) 2) 3) 4) 5) 6) 7)
    rw [bAt_six0, bAt_six1, bAt_six2, bAt_six3, bAt_six4, bAt_six5, bAt_six6, bAt_six7, ← evF_eq m n (r + 1)]
    simp only [evb8, forceI_eq]
    rfl
def evP (h z : Nat → Int) (t : Int) (last : Bool) : Nat → Int := fun i => hxr (hxr (h i) (evF (bpw z) 10 0 (h 0) (h 1) (h 2) (h 3) (h 4) (h 5) (h 6) (h 7) (iv 0) (iv 1) (iv 2) (iv 3) (hxr (iv 4) (t % 4294967296)) (hxr (iv 5) (t / 4294967296 % 4294967296)) (if last then 4294967295 - iv 6 else iv 6) (iv 7) i))
  (evF (bpw z) 10 0 (h 0) (h 1) (h 2) (h 3) (h 4) (h 5) (h 6) (h 7) (iv 0) (iv 1) (iv 2) (iv 3) (hxr (iv 4) (t % 4294967296)) (hxr (iv 5) (t / 4294967296 % 4294967296)) (if last then 4294967295 - iv 6 else iv 6) (iv 7) (i + 8))
theorem evP_eq (h z : Nat → Int) (t : Int) (last : Bool) : bpr h z t last = evP h z t last := by
  have e : ∀ v, bR (bpw z) v 10 = bF (bpw z) 10 0 v := fun v => (bF_eq (bpw z) v 10 0).symm
  funext i
  unfold bpr evP bst
  rw [e, evF_eq]
theorem key_info (f : Nat → Int) : (Tryd.prog.info? 23).map (·.size) = some (row .u8 32 f).length := by rw [row_length]; kernel_rfl
theorem key_info' (f : Nat → Int) : (Tryd.prog.info? 23).map (·.size) = some (row .u8 32 f).toArray.size := by rw [List.size_toArray]; exact key_info f
theorem key_zero (w : World) (t : TypeId) (b : Nat) (hb : b = w.heap.size) : Has (w.alloc (.cells zu8_32 t)) b .u8 32 (fun _ => 0) := Has.new w .u8 32 (fun _ => 0) t b hb
theorem or32_comm (x y : Int) (hx : 0 ≤ x ∧ x < V) (hy : 0 ≤ y ∧ y < V) : bits .or .u32 x y = bits .or .u32 y x := by
  obtain ⟨x, rfl⟩ := Int.eq_ofNat_of_zero_le hx.1
  obtain ⟨y, rfl⟩ := Int.eq_ofNat_of_zero_le hy.1
  simp only [V] at hx hy
  rw [u32_or_nat x y (by omega) (by omega), u32_or_nat y x (by omega) (by omega), Nat.or_comm]
theorem ror_any (n : Nat) (hn : n = 16 ∨ n = 12 ∨ n = 8 ∨ n = 7) (x : Int) (hx : 0 ≤ x ∧ x < V) (w : World) :
    Calls Tryd.prog 53 #[.int .u32 x, .int .i64 n] w fun e w' => ∃ q, e = .returned (.int .u32 (hrl (32 - n) x)) ∧ w' = w.drewN q := by
  rcases hn with rfl | rfl | rfl | rfl
  · have e : hrl (32 - 16) x = bits .or .u32 (x / 2 ^ 16) (x * 2 ^ 16 % 4294967296) := or32_comm _ _ (by simp only [V]; omega) (by simp only [V] at hx ⊢; omega)
    rw [e]
    go_enter Tryd.func53, Tryd.ntmps53
    go_wp2
    go_quiet (fail)
    go_wp2
    go_ret
    exact ⟨nq, rfl, rfl⟩
  · have e : hrl (32 - 12) x = bits .or .u32 (x / 2 ^ 12) (x * 2 ^ 20 % 4294967296) := or32_comm _ _ (by simp only [V]; omega) (by simp only [V] at hx ⊢; omega)
    rw [e]
    go_enter Tryd.func53, Tryd.ntmps53
    go_wp2
    go_quiet (fail)
    go_wp2
    go_ret
    exact ⟨nq, rfl, rfl⟩
  · have e : hrl (32 - 8) x = bits .or .u32 (x / 2 ^ 8) (x * 2 ^ 24 % 4294967296) := or32_comm _ _ (by simp only [V]; omega) (by simp only [V] at hx ⊢; omega)
    rw [e]
    go_enter Tryd.func53, Tryd.ntmps53
    go_wp2
    go_quiet (fail)
    go_wp2
    go_ret
    exact ⟨nq, rfl, rfl⟩
  · have e : hrl (32 - 7) x = bits .or .u32 (x / 2 ^ 7) (x * 2 ^ 25 % 4294967296) := or32_comm _ _ (by simp only [V]; omega) (by simp only [V] at hx ⊢; omega)
    rw [e]
    go_enter Tryd.func53, Tryd.ntmps53
    go_wp2
    go_quiet (fail)
    go_wp2
    go_ret
    exact ⟨nq, rfl, rfl⟩
def mxA (f : Nat → Int) (a b : Nat) (x : Int) : Nat → Int := upd f a (had (had (f a) (f b)) x)
def mxD (p : Nat) (f : Nat → Int) (d a : Nat) : Nat → Int := upd f d (hrl p (hxr (f d) (f a)))
def mxC (f : Nat → Int) (c d : Nat) : Nat → Int := upd f c (had (f c) (f d))
theorem mx_all (f : Nat → Int) (a b c d : Nat) (x y : Int) (hab : a ≠ b) (hac : a ≠ c) (had_ : a ≠ d) (hbc : b ≠ c) (hbd : b ≠ d) (hcd : c ≠ d) :
    mxD 25 (mxC (mxD 24 (mxA (mxD 20 (mxC (mxD 16 (mxA f a b x) d a) c d) b c) a b y) d a) c d) b c = bMx f a b c d x y := by
  have hba := hab.symm
  have hca := hac.symm
  have hda := had_.symm
  have hcb := hbc.symm
  have hdb := hbd.symm
  have hdc := hcd.symm
  funext j
  unfold mxA mxC mxD bMx
  simp only [upd, hab, hac, had_, hbc, hbd, hcd, hba, hca, hda, hcb, hdb, hdc, if_false, if_true]
  by_cases ea : j = a
  · subst ea; simp only [hab, hac, had_, if_false, if_true]; rfl
  · by_cases eb : j = b
    · subst eb; simp only [hbc, hbd, hba, if_false, if_true]; rfl
    · by_cases ec : j = c
      · subst ec; simp only [hca, hcb, hcd, if_false, if_true]; rfl
      · by_cases ed : j = d
        · subst ed; simp only [hda, hdb, hdc, if_false, if_true]; rfl
        · simp only [ea, eb, ec, ed, if_false]
structure MI (w : World) (B : Nat) (f : Nat → Int) (w' : World) : Prop where
  has : Has w' B .u32 16 f
  lt : B < w.heap.size
  gr : w.grownBy w' (some B)
theorem MI.init {w : World} {B : Nat} {f : Nat → Int} (h : Has w B .u32 16 f) (hl : B < w.heap.size) : MI w B f w := ⟨h, hl, ⟨rfl, rfl, rfl, Nat.le_refl _, fun _ _ _ => rfl⟩⟩
theorem MI.call {w w' w'' : World} {B : Nat} {f : Nat → Int} (h : MI w B f w') (l : Below w'.heap.size w' w'') : MI w B f w'' :=
  ⟨h.has.below l (Nat.lt_of_lt_of_le h.lt h.gr.size), h.lt, ⟨l.os.trans h.gr.os, l.tape.trans h.gr.tape, l.output.trans h.gr.output, Nat.le_trans h.gr.size l.size, fun j hj hne => (l.block j (Nat.lt_of_lt_of_le hj h.gr.size)).trans (h.gr.block j hj hne)⟩⟩
theorem MI.drew {w w' : World} {B : Nat} {f : Nat → Int} (h : MI w B f w') : MI w B f w'.drew := h.call (Below.refl _ _).drew
theorem MI.drewN {w w' : World} {B : Nat} {f : Nat → Int} (h : MI w B f w') (q : Nat) : MI w B f (w'.drewN q) := h.call (below_drewN (Below.refl _ _))
theorem MI.set {w w' : World} {B : Nat} {f : Nat → Int} (h : MI w B f w') (i : Nat) (hi : i < 16) (x : Int) : MI w B (upd f i x) (w'.setCell ⟨B, i, none⟩ (.int .u32 x)) := by
  have hb : Below B w' (w'.setCell ⟨B, i, none⟩ (.int .u32 x)) := below_setAll (Below.refl B w') B (Nat.le_refl _) i [.int .u32 x]
  exact ⟨h.has.set i hi x, h.lt, ⟨hb.os.trans h.gr.os, hb.tape.trans h.gr.tape, hb.output.trans h.gr.output, Nat.le_trans h.gr.size hb.size, fun j hj hne => (heap_setCell_other w' ⟨B, i, none⟩ j _ (fun e => hne (by rw [e]))).trans (h.gr.block j hj hne)⟩⟩
theorem idxV (b cap i : Nat) (hi : i < 16) (w : World) {o : Oper} {a : Act} (x y : Operand) (ho : o.op = .indexAddr 74 x y) (hx : a.eval x = .slice (some ⟨b, 0, none⟩) 16 cap) (hy : a.eval y = .int .i64 (i : Int)) :
    (execOp a.eval o).run Tryd.prog w = .ok (.value (.pointer (some ⟨b, i, none⟩))) w := by
  have h := idxSl (P := Tryd.prog) 74 60 16 cap .i64 ⟨b, 0, none⟩ i x y Tryd.underlying74 (fun _ => by kernel_rfl) hi ho hx hy w
  rw [Addr.add_mid, Nat.zero_add] at h
  exact h
theorem refMix_any (B cap a b c d : Nat) (x y : Int) (f : Nat → Int) (hf : In V 16 f) (ha : a < 16) (hb : b < 16) (hc : c < 16) (hd : d < 16) (hab : a ≠ b) (hac : a ≠ c) (had_ : a ≠ d) (hbc : b ≠ c) (hbd : b ≠ d) (hcd : c ≠ d) (w : World) (hB : Has w B .u32 16 f) (hl : B < w.heap.size) :
    Calls Tryd.prog 51 #[.slice (some ⟨B, 0, none⟩) 16 cap, .int .i64 a, .int .i64 b, .int .i64 c, .int .i64 d, .int .u32 x, .int .u32 y] w fun e w' => e = .returned (.tuple #[]) ∧ MI w B (bMx f a b c d x y) w' := by
  have K := MI.init hB hl
  go_enter Tryd.func51, Tryd.ntmps51
  have F0 := show Hid (In V 16 f) from hf
  go_upto_region 0 with fail
  refine wp_region_C (S := fun w' => MI w B (f) w') 14 (by kernel_rfl) K.drew ?_
  clear K
  intro K
  generalize w.drew = v0 at K ⊢
  refine pureCg (i := 0) (some 14) rfl (.slice (some ⟨B, 0, none⟩) 16 cap) rfl (by decide) rfl (fun _ => by kernel_rfl) K ?_
  simp only [aP, lI, l0, lS]
  refine pureCg (i := 1) (some 15) rfl (.int .i64 (a : Int)) rfl (by decide) rfl (fun _ => by kernel_rfl) K ?_
  simp only [aP, lI, l0, lS]
  refine pureCg (i := 2) (some 16) rfl (.slice (some ⟨B, 0, none⟩) 16 cap) rfl (by decide) rfl (fun _ => by kernel_rfl) K ?_
  simp only [aP, lI, l0, lS]
  refine pureCg (i := 3) (some 17) rfl (.int .i64 (a : Int)) rfl (by decide) rfl (fun _ => by kernel_rfl) K ?_
  simp only [aP, lI, l0, lS]
  refine pureCg (i := 4) (some 18) rfl (.pointer (some ⟨B, a, none⟩)) rfl (by decide) rfl (fun w' => idxV B cap a ha w' _ _ rfl rfl rfl) K ?_
  simp only [aP, lI, l0, lS]
  refine cellC (i := 5) (some 19) rfl .u32 (.int .u32 ((f) a)) B a 60 _ rfl rfl (by kernel_rfl) rfl rfl rfl (by kernel_rfl) (by kernel_rfl) (by kernel_rfl) (by kernel_rfl) (fun _ _ _ h => h) Tryd.underlying60 K (fun _ h => h.has.cell a ha) ?_
  simp only [aP, lI, l0, lS]
  refine pureCg (i := 6) (some 20) rfl (.slice (some ⟨B, 0, none⟩) 16 cap) rfl (by decide) rfl (fun _ => by kernel_rfl) K ?_
  simp only [aP, lI, l0, lS]
  refine pureCg (i := 7) (some 21) rfl (.int .i64 (b : Int)) rfl (by decide) rfl (fun _ => by kernel_rfl) K ?_
  simp only [aP, lI, l0, lS]
  refine pureCg (i := 8) (some 22) rfl (.pointer (some ⟨B, b, none⟩)) rfl (by decide) rfl (fun w' => idxV B cap b hb w' _ _ rfl rfl rfl) K ?_
  simp only [aP, lI, l0, lS]
  refine cellC (i := 9) (some 23) rfl .u32 (.int .u32 ((f) b)) B b 60 _ rfl rfl (by kernel_rfl) rfl rfl rfl (by kernel_rfl) (by kernel_rfl) (by kernel_rfl) (by kernel_rfl) (fun _ _ _ h => h) Tryd.underlying60 K (fun _ h => h.has.cell b hb) ?_
  simp only [aP, lI, l0, lS]
  refine pureCg (i := 10) (some 24) rfl (.int .u32 (had ((f) a) ((f) b))) rfl (by decide) rfl (fun w => addI .u32 _ _ _ _ _ _ _ rfl rfl rfl (IntKind.wrap_u32' _) w) K ?_
  simp only [aP, lI, l0, lS]
  refine pureCg (i := 11) (some 25) rfl (.int .u32 x) rfl (by decide) rfl (fun _ => by kernel_rfl) K ?_
  simp only [aP, lI, l0, lS]
  refine pureCg (i := 12) (some 26) rfl (.int .u32 (had (had ((f) a) ((f) b)) x)) rfl (by decide) rfl (fun w => addI .u32 _ _ _ _ _ _ _ rfl rfl rfl (IntKind.wrap_u32' _) w) K ?_
  simp only [aP, lI, l0, lS]
  refine pureCg (i := 13) (some 27) rfl (.pointer (some ⟨B, a, none⟩)) rfl (by decide) rfl (fun w' => idxV B cap a ha w' _ _ rfl rfl rfl) K ?_
  simp only [aP, lI, l0, lS]
  refine storeC (S2 := fun _ => True) none rfl .u32 (had (had ((f) a) ((f) b)) x) B a 60 _ _ (by kernel_rfl) rfl rfl rfl rfl rfl (by rw [K.has.cell a ha]; rfl) (K.has.free a ha) (by kernel_rfl) (by kernel_rfl) ?_
  simp only [Act.put]
  refine wpAnyH_done (by kernel_rfl) ?_ _
  have F1 := show Hid (In V 16 (mxA (f) a b x)) from F0.out.upd a _ (had_in _ _).1 (had_in _ _).2
  replace K : MI w B (mxA (f) a b x) _ := K.set a ha (had (had ((f) a) ((f) b)) x)
  generalize v0.setCell ⟨B, a, none⟩ (.int .u32 (had (had ((f) a) ((f) b)) x)) = w1 at K ⊢
  go_upto_region 1 with fail
  refine wp_region_C (S := fun w' => MI w B (mxA (f) a b x) w') 13 (by kernel_rfl) K.drew ?_
  clear K
  intro K
  generalize w1.drew = v1 at K ⊢
  refine pureCg (i := 0) (some 28) rfl (.slice (some ⟨B, 0, none⟩) 16 cap) rfl (by decide) rfl (fun _ => by kernel_rfl) K ?_
  simp only [aP, lI, l0, lS]
  refine pureCg (i := 1) (some 29) rfl (.int .i64 (d : Int)) rfl (by decide) rfl (fun _ => by kernel_rfl) K ?_
  simp only [aP, lI, l0, lS]
  refine pureCg (i := 2) (some 30) rfl (.slice (some ⟨B, 0, none⟩) 16 cap) rfl (by decide) rfl (fun _ => by kernel_rfl) K ?_
  simp only [aP, lI, l0, lS]
  refine pureCg (i := 3) (some 31) rfl (.int .i64 (d : Int)) rfl (by decide) rfl (fun _ => by kernel_rfl) K ?_
  simp only [aP, lI, l0, lS]
  refine pureCg (i := 4) (some 32) rfl (.pointer (some ⟨B, d, none⟩)) rfl (by decide) rfl (fun w' => idxV B cap d hd w' _ _ rfl rfl rfl) K ?_
  simp only [aP, lI, l0, lS]
  refine cellC (i := 5) (some 33) rfl .u32 (.int .u32 ((mxA (f) a b x) d)) B d 60 _ rfl rfl (by kernel_rfl) rfl rfl rfl (by kernel_rfl) (by kernel_rfl) (by kernel_rfl) (by kernel_rfl) (fun _ _ _ h => h) Tryd.underlying60 K (fun _ h => h.has.cell d hd) ?_
  simp only [aP, lI, l0, lS]
  refine pureCg (i := 6) (some 34) rfl (.slice (some ⟨B, 0, none⟩) 16 cap) rfl (by decide) rfl (fun _ => by kernel_rfl) K ?_
  simp only [aP, lI, l0, lS]
  refine pureCg (i := 7) (some 35) rfl (.int .i64 (a : Int)) rfl (by decide) rfl (fun _ => by kernel_rfl) K ?_
  simp only [aP, lI, l0, lS]
  refine pureCg (i := 8) (some 36) rfl (.pointer (some ⟨B, a, none⟩)) rfl (by decide) rfl (fun w' => idxV B cap a ha w' _ _ rfl rfl rfl) K ?_
  simp only [aP, lI, l0, lS]
  refine cellC (i := 9) (some 37) rfl .u32 (.int .u32 ((mxA (f) a b x) a)) B a 60 _ rfl rfl (by kernel_rfl) rfl rfl rfl (by kernel_rfl) (by kernel_rfl) (by kernel_rfl) (by kernel_rfl) (fun _ _ _ h => h) Tryd.underlying60 K (fun _ h => h.has.cell a ha) ?_
  simp only [aP, lI, l0, lS]
  refine pureCg (i := 10) (some 38) rfl (.int .u32 (hxr ((mxA (f) a b x) d) ((mxA (f) a b x) a))) rfl (by decide) rfl (fun w => xorI .u32 _ _ _ _ _ _ _ rfl rfl rfl rfl w) K ?_
  simp only [aP, lI, l0, lS]
  refine callMC (i := 11) (some 39) rfl (by kernel_rfl) rfl rfl (fun _ => by kernel_rfl) (ror_any 16 (by decide) _ (hxr_in _ _ (F1.out d hd) (F1.out a ha)) _) ?_
  rintro e u1 ⟨q1, rfl, rfl⟩
  replace K := K.drewN q1
  refine ⟨_, rfl, K, ?_⟩
  simp only [aP, lI, l0, lS]
  refine pureCg (i := 12) (some 40) rfl (.pointer (some ⟨B, d, none⟩)) rfl (by decide) rfl (fun w' => idxV B cap d hd w' _ _ rfl rfl rfl) K ?_
  simp only [aP, lI, l0, lS]
  refine storeC (S2 := fun _ => True) none rfl .u32 (hrl 16 (hxr ((mxA (f) a b x) d) ((mxA (f) a b x) a))) B d 60 _ _ (by kernel_rfl) rfl rfl rfl rfl rfl (by rw [K.has.cell d hd]; rfl) (K.has.free d hd) (by kernel_rfl) (by kernel_rfl) ?_
  simp only [Act.put]
  refine wpAnyH_done (by kernel_rfl) ?_ _
  have F2 := show Hid (In V 16 (mxD 16 (mxA (f) a b x) d a)) from F1.out.upd d _ (hrl_in _ _ (hxr_in _ _ (F1.out d hd) (F1.out a ha))).1 (hrl_in _ _ (hxr_in _ _ (F1.out d hd) (F1.out a ha))).2
  replace K : MI w B (mxD 16 (mxA (f) a b x) d a) _ := K.set d hd (hrl 16 (hxr ((mxA (f) a b x) d) ((mxA (f) a b x) a)))
  generalize (v1.drewN q1).setCell ⟨B, d, none⟩ (.int .u32 (hrl 16 (hxr ((mxA (f) a b x) d) ((mxA (f) a b x) a)))) = w2 at K ⊢
  go_upto_region 2 with fail
  refine wp_region_C (S := fun w' => MI w B (mxD 16 (mxA (f) a b x) d a) w') 12 (by kernel_rfl) K.drew ?_
  clear K
  intro K
  generalize w2.drew = v2 at K ⊢
  refine pureCg (i := 0) (some 41) rfl (.slice (some ⟨B, 0, none⟩) 16 cap) rfl (by decide) rfl (fun _ => by kernel_rfl) K ?_
  simp only [aP, lI, l0, lS]
  refine pureCg (i := 1) (some 42) rfl (.int .i64 (c : Int)) rfl (by decide) rfl (fun _ => by kernel_rfl) K ?_
  simp only [aP, lI, l0, lS]
  refine pureCg (i := 2) (some 43) rfl (.slice (some ⟨B, 0, none⟩) 16 cap) rfl (by decide) rfl (fun _ => by kernel_rfl) K ?_
  simp only [aP, lI, l0, lS]
  refine pureCg (i := 3) (some 44) rfl (.int .i64 (c : Int)) rfl (by decide) rfl (fun _ => by kernel_rfl) K ?_
  simp only [aP, lI, l0, lS]
  refine pureCg (i := 4) (some 45) rfl (.pointer (some ⟨B, c, none⟩)) rfl (by decide) rfl (fun w' => idxV B cap c hc w' _ _ rfl rfl rfl) K ?_
  simp only [aP, lI, l0, lS]
  refine cellC (i := 5) (some 46) rfl .u32 (.int .u32 ((mxD 16 (mxA (f) a b x) d a) c)) B c 60 _ rfl rfl (by kernel_rfl) rfl rfl rfl (by kernel_rfl) (by kernel_rfl) (by kernel_rfl) (by kernel_rfl) (fun _ _ _ h => h) Tryd.underlying60 K (fun _ h => h.has.cell c hc) ?_
  simp only [aP, lI, l0, lS]
  refine pureCg (i := 6) (some 47) rfl (.slice (some ⟨B, 0, none⟩) 16 cap) rfl (by decide) rfl (fun _ => by kernel_rfl) K ?_
  simp only [aP, lI, l0, lS]
  refine pureCg (i := 7) (some 48) rfl (.int .i64 (d : Int)) rfl (by decide) rfl (fun _ => by kernel_rfl) K ?_
  simp only [aP, lI, l0, lS]
  refine pureCg (i := 8) (some 49) rfl (.pointer (some ⟨B, d, none⟩)) rfl (by decide) rfl (fun w' => idxV B cap d hd w' _ _ rfl rfl rfl) K ?_
  simp only [aP, lI, l0, lS]
  refine cellC (i := 9) (some 50) rfl .u32 (.int .u32 ((mxD 16 (mxA (f) a b x) d a) d)) B d 60 _ rfl rfl (by kernel_rfl) rfl rfl rfl (by kernel_rfl) (by kernel_rfl) (by kernel_rfl) (by kernel_rfl) (fun _ _ _ h => h) Tryd.underlying60 K (fun _ h => h.has.cell d hd) ?_
  simp only [aP, lI, l0, lS]
  refine pureCg (i := 10) (some 51) rfl (.int .u32 (had ((mxD 16 (mxA (f) a b x) d a) c) ((mxD 16 (mxA (f) a b x) d a) d))) rfl (by decide) rfl (fun w => addI .u32 _ _ _ _ _ _ _ rfl rfl rfl (IntKind.wrap_u32' _) w) K ?_
  simp only [aP, lI, l0, lS]
  refine pureCg (i := 11) (some 52) rfl (.pointer (some ⟨B, c, none⟩)) rfl (by decide) rfl (fun w' => idxV B cap c hc w' _ _ rfl rfl rfl) K ?_
  simp only [aP, lI, l0, lS]
  refine storeC (S2 := fun _ => True) none rfl .u32 (had ((mxD 16 (mxA (f) a b x) d a) c) ((mxD 16 (mxA (f) a b x) d a) d)) B c 60 _ _ (by kernel_rfl) rfl rfl rfl rfl rfl (by rw [K.has.cell c hc]; rfl) (K.has.free c hc) (by kernel_rfl) (by kernel_rfl) ?_
  simp only [Act.put]
  refine wpAnyH_done (by kernel_rfl) ?_ _
  have F3 := show Hid (In V 16 (mxC (mxD 16 (mxA (f) a b x) d a) c d)) from F2.out.upd c _ (had_in _ _).1 (had_in _ _).2
  replace K : MI w B (mxC (mxD 16 (mxA (f) a b x) d a) c d) _ := K.set c hc (had ((mxD 16 (mxA (f) a b x) d a) c) ((mxD 16 (mxA (f) a b x) d a) d))
  generalize v2.setCell ⟨B, c, none⟩ (.int .u32 (had ((mxD 16 (mxA (f) a b x) d a) c) ((mxD 16 (mxA (f) a b x) d a) d))) = w3 at K ⊢
  go_upto_region 3 with fail
  refine wp_region_C (S := fun w' => MI w B (mxC (mxD 16 (mxA (f) a b x) d a) c d) w') 13 (by kernel_rfl) K.drew ?_
  clear K
  intro K
  generalize w3.drew = v3 at K ⊢
  refine pureCg (i := 0) (some 53) rfl (.slice (some ⟨B, 0, none⟩) 16 cap) rfl (by decide) rfl (fun _ => by kernel_rfl) K ?_
  simp only [aP, lI, l0, lS]
  refine pureCg (i := 1) (some 54) rfl (.int .i64 (b : Int)) rfl (by decide) rfl (fun _ => by kernel_rfl) K ?_
  simp only [aP, lI, l0, lS]
  refine pureCg (i := 2) (some 55) rfl (.slice (some ⟨B, 0, none⟩) 16 cap) rfl (by decide) rfl (fun _ => by kernel_rfl) K ?_
  simp only [aP, lI, l0, lS]
  refine pureCg (i := 3) (some 56) rfl (.int .i64 (b : Int)) rfl (by decide) rfl (fun _ => by kernel_rfl) K ?_
  simp only [aP, lI, l0, lS]
  refine pureCg (i := 4) (some 57) rfl (.pointer (some ⟨B, b, none⟩)) rfl (by decide) rfl (fun w' => idxV B cap b hb w' _ _ rfl rfl rfl) K ?_
  simp only [aP, lI, l0, lS]
  refine cellC (i := 5) (some 58) rfl .u32 (.int .u32 ((mxC (mxD 16 (mxA (f) a b x) d a) c d) b)) B b 60 _ rfl rfl (by kernel_rfl) rfl rfl rfl (by kernel_rfl) (by kernel_rfl) (by kernel_rfl) (by kernel_rfl) (fun _ _ _ h => h) Tryd.underlying60 K (fun _ h => h.has.cell b hb) ?_
  simp only [aP, lI, l0, lS]
  refine pureCg (i := 6) (some 59) rfl (.slice (some ⟨B, 0, none⟩) 16 cap) rfl (by decide) rfl (fun _ => by kernel_rfl) K ?_
  simp only [aP, lI, l0, lS]
  refine pureCg (i := 7) (some 60) rfl (.int .i64 (c : Int)) rfl (by decide) rfl (fun _ => by kernel_rfl) K ?_
  simp only [aP, lI, l0, lS]
  refine pureCg (i := 8) (some 61) rfl (.pointer (some ⟨B, c, none⟩)) rfl (by decide) rfl (fun w' => idxV B cap c hc w' _ _ rfl rfl rfl) K ?_
  simp only [aP, lI, l0, lS]
  refine cellC (i := 9) (some 62) rfl .u32 (.int .u32 ((mxC (mxD 16 (mxA (f) a b x) d a) c d) c)) B c 60 _ rfl rfl (by kernel_rfl) rfl rfl rfl (by kernel_rfl) (by kernel_rfl) (by kernel_rfl) (by kernel_rfl) (fun _ _ _ h => h) Tryd.underlying60 K (fun _ h => h.has.cell c hc) ?_
  simp only [aP, lI, l0, lS]
  refine pureCg (i := 10) (some 63) rfl (.int .u32 (hxr ((mxC (mxD 16 (mxA (f) a b x) d a) c d) b) ((mxC (mxD 16 (mxA (f) a b x) d a) c d) c))) rfl (by decide) rfl (fun w => xorI .u32 _ _ _ _ _ _ _ rfl rfl rfl rfl w) K ?_
  simp only [aP, lI, l0, lS]
  refine callMC (i := 11) (some 64) rfl (by kernel_rfl) rfl rfl (fun _ => by kernel_rfl) (ror_any 12 (by decide) _ (hxr_in _ _ (F3.out b hb) (F3.out c hc)) _) ?_
  rintro e u3 ⟨q3, rfl, rfl⟩
  replace K := K.drewN q3
  refine ⟨_, rfl, K, ?_⟩
  simp only [aP, lI, l0, lS]
  refine pureCg (i := 12) (some 65) rfl (.pointer (some ⟨B, b, none⟩)) rfl (by decide) rfl (fun w' => idxV B cap b hb w' _ _ rfl rfl rfl) K ?_
  simp only [aP, lI, l0, lS]
  refine storeC (S2 := fun _ => True) none rfl .u32 (hrl 20 (hxr ((mxC (mxD 16 (mxA (f) a b x) d a) c d) b) ((mxC (mxD 16 (mxA (f) a b x) d a) c d) c))) B b 60 _ _ (by kernel_rfl) rfl rfl rfl rfl rfl (by rw [K.has.cell b hb]; rfl) (K.has.free b hb) (by kernel_rfl) (by kernel_rfl) ?_
  simp only [Act.put]
  refine wpAnyH_done (by kernel_rfl) ?_ _
  have F4 := show Hid (In V 16 (mxD 20 (mxC (mxD 16 (mxA (f) a b x) d a) c d) b c)) from F3.out.upd b _ (hrl_in _ _ (hxr_in _ _ (F3.out b hb) (F3.out c hc))).1 (hrl_in _ _ (hxr_in _ _ (F3.out b hb) (F3.out c hc))).2
  replace K : MI w B (mxD 20 (mxC (mxD 16 (mxA (f) a b x) d a) c d) b c) _ := K.set b hb (hrl 20 (hxr ((mxC (mxD 16 (mxA (f) a b x) d a) c d) b) ((mxC (mxD 16 (mxA (f) a b x) d a) c d) c)))
  generalize (v3.drewN q3).setCell ⟨B, b, none⟩ (.int .u32 (hrl 20 (hxr ((mxC (mxD 16 (mxA (f) a b x) d a) c d) b) ((mxC (mxD 16 (mxA (f) a b x) d a) c d) c)))) = w4 at K ⊢
  go_upto_region 4 with fail
  refine wp_region_C (S := fun w' => MI w B (mxD 20 (mxC (mxD 16 (mxA (f) a b x) d a) c d) b c) w') 14 (by kernel_rfl) K.drew ?_
  clear K
  intro K
  generalize w4.drew = v4 at K ⊢
  refine pureCg (i := 0) (some 66) rfl (.slice (some ⟨B, 0, none⟩) 16 cap) rfl (by decide) rfl (fun _ => by kernel_rfl) K ?_
  simp only [aP, lI, l0, lS]
  refine pureCg (i := 1) (some 67) rfl (.int .i64 (a : Int)) rfl (by decide) rfl (fun _ => by kernel_rfl) K ?_
  simp only [aP, lI, l0, lS]
  refine pureCg (i := 2) (some 68) rfl (.slice (some ⟨B, 0, none⟩) 16 cap) rfl (by decide) rfl (fun _ => by kernel_rfl) K ?_
  simp only [aP, lI, l0, lS]
  refine pureCg (i := 3) (some 69) rfl (.int .i64 (a : Int)) rfl (by decide) rfl (fun _ => by kernel_rfl) K ?_
  simp only [aP, lI, l0, lS]
  refine pureCg (i := 4) (some 70) rfl (.pointer (some ⟨B, a, none⟩)) rfl (by decide) rfl (fun w' => idxV B cap a ha w' _ _ rfl rfl rfl) K ?_
  simp only [aP, lI, l0, lS]
  refine cellC (i := 5) (some 71) rfl .u32 (.int .u32 ((mxD 20 (mxC (mxD 16 (mxA (f) a b x) d a) c d) b c) a)) B a 60 _ rfl rfl (by kernel_rfl) rfl rfl rfl (by kernel_rfl) (by kernel_rfl) (by kernel_rfl) (by kernel_rfl) (fun _ _ _ h => h) Tryd.underlying60 K (fun _ h => h.has.cell a ha) ?_
  simp only [aP, lI, l0, lS]
  refine pureCg (i := 6) (some 72) rfl (.slice (some ⟨B, 0, none⟩) 16 cap) rfl (by decide) rfl (fun _ => by kernel_rfl) K ?_
  simp only [aP, lI, l0, lS]
  refine pureCg (i := 7) (some 73) rfl (.int .i64 (b : Int)) rfl (by decide) rfl (fun _ => by kernel_rfl) K ?_
  simp only [aP, lI, l0, lS]
  refine pureCg (i := 8) (some 74) rfl (.pointer (some ⟨B, b, none⟩)) rfl (by decide) rfl (fun w' => idxV B cap b hb w' _ _ rfl rfl rfl) K ?_
  simp only [aP, lI, l0, lS]
  refine cellC (i := 9) (some 75) rfl .u32 (.int .u32 ((mxD 20 (mxC (mxD 16 (mxA (f) a b x) d a) c d) b c) b)) B b 60 _ rfl rfl (by kernel_rfl) rfl rfl rfl (by kernel_rfl) (by kernel_rfl) (by kernel_rfl) (by kernel_rfl) (fun _ _ _ h => h) Tryd.underlying60 K (fun _ h => h.has.cell b hb) ?_
  simp only [aP, lI, l0, lS]
  refine pureCg (i := 10) (some 76) rfl (.int .u32 (had ((mxD 20 (mxC (mxD 16 (mxA (f) a b x) d a) c d) b c) a) ((mxD 20 (mxC (mxD 16 (mxA (f) a b x) d a) c d) b c) b))) rfl (by decide) rfl (fun w => addI .u32 _ _ _ _ _ _ _ rfl rfl rfl (IntKind.wrap_u32' _) w) K ?_
  simp only [aP, lI, l0, lS]
  refine pureCg (i := 11) (some 77) rfl (.int .u32 y) rfl (by decide) rfl (fun _ => by kernel_rfl) K ?_
  simp only [aP, lI, l0, lS]
  refine pureCg (i := 12) (some 78) rfl (.int .u32 (had (had ((mxD 20 (mxC (mxD 16 (mxA (f) a b x) d a) c d) b c) a) ((mxD 20 (mxC (mxD 16 (mxA (f) a b x) d a) c d) b c) b)) y)) rfl (by decide) rfl (fun w => addI .u32 _ _ _ _ _ _ _ rfl rfl rfl (IntKind.wrap_u32' _) w) K ?_
  simp only [aP, lI, l0, lS]
  refine pureCg (i := 13) (some 79) rfl (.pointer (some ⟨B, a, none⟩)) rfl (by decide) rfl (fun w' => idxV B cap a ha w' _ _ rfl rfl rfl) K ?_
  simp only [aP, lI, l0, lS]
  refine storeC (S2 := fun _ => True) none rfl .u32 (had (had ((mxD 20 (mxC (mxD 16 (mxA (f) a b x) d a) c d) b c) a) ((mxD 20 (mxC (mxD 16 (mxA (f) a b x) d a) c d) b c) b)) y) B a 60 _ _ (by kernel_rfl) rfl rfl rfl rfl rfl (by rw [K.has.cell a ha]; rfl) (K.has.free a ha) (by kernel_rfl) (by kernel_rfl) ?_
  simp only [Act.put]
  refine wpAnyH_done (by kernel_rfl) ?_ _
  have F5 := show Hid (In V 16 (mxA (mxD 20 (mxC (mxD 16 (mxA (f) a b x) d a) c d) b c) a b y)) from F4.out.upd a _ (had_in _ _).1 (had_in _ _).2
  replace K : MI w B (mxA (mxD 20 (mxC (mxD 16 (mxA (f) a b x) d a) c d) b c) a b y) _ := K.set a ha (had (had ((mxD 20 (mxC (mxD 16 (mxA (f) a b x) d a) c d) b c) a) ((mxD 20 (mxC (mxD 16 (mxA (f) a b x) d a) c d) b c) b)) y)
  generalize v4.setCell ⟨B, a, none⟩ (.int .u32 (had (had ((mxD 20 (mxC (mxD 16 (mxA (f) a b x) d a) c d) b c) a) ((mxD 20 (mxC (mxD 16 (mxA (f) a b x) d a) c d) b c) b)) y)) = w5 at K ⊢
  go_upto_region 5 with fail
  refine wp_region_C (S := fun w' => MI w B (mxA (mxD 20 (mxC (mxD 16 (mxA (f) a b x) d a) c d) b c) a b y) w') 13 (by kernel_rfl) K.drew ?_
  clear K
  intro K
  generalize w5.drew = v5 at K ⊢
  refine pureCg (i := 0) (some 80) rfl (.slice (some ⟨B, 0, none⟩) 16 cap) rfl (by decide) rfl (fun _ => by kernel_rfl) K ?_
  simp only [aP, lI, l0, lS]
  refine pureCg (i := 1) (some 81) rfl (.int .i64 (d : Int)) rfl (by decide) rfl (fun _ => by kernel_rfl) K ?_
  simp only [aP, lI, l0, lS]
  refine pureCg (i := 2) (some 82) rfl (.slice (some ⟨B, 0, none⟩) 16 cap) rfl (by decide) rfl (fun _ => by kernel_rfl) K ?_
  simp only [aP, lI, l0, lS]
  refine pureCg (i := 3) (some 83) rfl (.int .i64 (d : Int)) rfl (by decide) rfl (fun _ => by kernel_rfl) K ?_
  simp only [aP, lI, l0, lS]
  refine pureCg (i := 4) (some 84) rfl (.pointer (some ⟨B, d, none⟩)) rfl (by decide) rfl (fun w' => idxV B cap d hd w' _ _ rfl rfl rfl) K ?_
  simp only [aP, lI, l0, lS]
  refine cellC (i := 5) (some 85) rfl .u32 (.int .u32 ((mxA (mxD 20 (mxC (mxD 16 (mxA (f) a b x) d a) c d) b c) a b y) d)) B d 60 _ rfl rfl (by kernel_rfl) rfl rfl rfl (by kernel_rfl) (by kernel_rfl) (by kernel_rfl) (by kernel_rfl) (fun _ _ _ h => h) Tryd.underlying60 K (fun _ h => h.has.cell d hd) ?_
  simp only [aP, lI, l0, lS]
  refine pureCg (i := 6) (some 86) rfl (.slice (some ⟨B, 0, none⟩) 16 cap) rfl (by decide) rfl (fun _ => by kernel_rfl) K ?_
  simp only [aP, lI, l0, lS]
  refine pureCg (i := 7) (some 87) rfl (.int .i64 (a : Int)) rfl (by decide) rfl (fun _ => by kernel_rfl) K ?_
  simp only [aP, lI, l0, lS]
  refine pureCg (i := 8) (some 88) rfl (.pointer (some ⟨B, a, none⟩)) rfl (by decide) rfl (fun w' => idxV B cap a ha w' _ _ rfl rfl rfl) K ?_
  simp only [aP, lI, l0, lS]
  refine cellC (i := 9) (some 89) rfl .u32 (.int .u32 ((mxA (mxD 20 (mxC (mxD 16 (mxA (f) a b x) d a) c d) b c) a b y) a)) B a 60 _ rfl rfl (by kernel_rfl) rfl rfl rfl (by kernel_rfl) (by kernel_rfl) (by kernel_rfl) (by kernel_rfl) (fun _ _ _ h => h) Tryd.underlying60 K (fun _ h => h.has.cell a ha) ?_
  simp only [aP, lI, l0, lS]
  refine pureCg (i := 10) (some 90) rfl (.int .u32 (hxr ((mxA (mxD 20 (mxC (mxD 16 (mxA (f) a b x) d a) c d) b c) a b y) d) ((mxA (mxD 20 (mxC (mxD 16 (mxA (f) a b x) d a) c d) b c) a b y) a))) rfl (by decide) rfl (fun w => xorI .u32 _ _ _ _ _ _ _ rfl rfl rfl rfl w) K ?_
  simp only [aP, lI, l0, lS]
  refine callMC (i := 11) (some 91) rfl (by kernel_rfl) rfl rfl (fun _ => by kernel_rfl) (ror_any 8 (by decide) _ (hxr_in _ _ (F5.out d hd) (F5.out a ha)) _) ?_
  rintro e u5 ⟨q5, rfl, rfl⟩
  replace K := K.drewN q5
  refine ⟨_, rfl, K, ?_⟩
  simp only [aP, lI, l0, lS]
  refine pureCg (i := 12) (some 92) rfl (.pointer (some ⟨B, d, none⟩)) rfl (by decide) rfl (fun w' => idxV B cap d hd w' _ _ rfl rfl rfl) K ?_
  simp only [aP, lI, l0, lS]
  refine storeC (S2 := fun _ => True) none rfl .u32 (hrl 24 (hxr ((mxA (mxD 20 (mxC (mxD 16 (mxA (f) a b x) d a) c d) b c) a b y) d) ((mxA (mxD 20 (mxC (mxD 16 (mxA (f) a b x) d a) c d) b c) a b y) a))) B d 60 _ _ (by kernel_rfl) rfl rfl rfl rfl rfl (by rw [K.has.cell d hd]; rfl) (K.has.free d hd) (by kernel_rfl) (by kernel_rfl) ?_
  simp only [Act.put]
  refine wpAnyH_done (by kernel_rfl) ?_ _
  have F6 := show Hid (In V 16 (mxD 24 (mxA (mxD 20 (mxC (mxD 16 (mxA (f) a b x) d a) c d) b c) a b y) d a)) from F5.out.upd d _ (hrl_in _ _ (hxr_in _ _ (F5.out d hd) (F5.out a ha))).1 (hrl_in _ _ (hxr_in _ _ (F5.out d hd) (F5.out a ha))).2
  replace K : MI w B (mxD 24 (mxA (mxD 20 (mxC (mxD 16 (mxA (f) a b x) d a) c d) b c) a b y) d a) _ := K.set d hd (hrl 24 (hxr ((mxA (mxD 20 (mxC (mxD 16 (mxA (f) a b x) d a) c d) b c) a b y) d) ((mxA (mxD 20 (mxC (mxD 16 (mxA (f) a b x) d a) c d) b c) a b y) a)))
  generalize (v5.drewN q5).setCell ⟨B, d, none⟩ (.int .u32 (hrl 24 (hxr ((mxA (mxD 20 (mxC (mxD 16 (mxA (f) a b x) d a) c d) b c) a b y) d) ((mxA (mxD 20 (mxC (mxD 16 (mxA (f) a b x) d a) c d) b c) a b y) a)))) = w6 at K ⊢
  go_upto_region 6 with fail
  refine wp_region_C (S := fun w' => MI w B (mxD 24 (mxA (mxD 20 (mxC (mxD 16 (mxA (f) a b x) d a) c d) b c) a b y) d a) w') 12 (by kernel_rfl) K.drew ?_
  clear K
  intro K
  generalize w6.drew = v6 at K ⊢
  refine pureCg (i := 0) (some 93) rfl (.slice (some ⟨B, 0, none⟩) 16 cap) rfl (by decide) rfl (fun _ => by kernel_rfl) K ?_
  simp only [aP, lI, l0, lS]
  refine pureCg (i := 1) (some 94) rfl (.int .i64 (c : Int)) rfl (by decide) rfl (fun _ => by kernel_rfl) K ?_
  simp only [aP, lI, l0, lS]
  refine pureCg (i := 2) (some 95) rfl (.slice (some ⟨B, 0, none⟩) 16 cap) rfl (by decide) rfl (fun _ => by kernel_rfl) K ?_
  simp only [aP, lI, l0, lS]
  refine pureCg (i := 3) (some 96) rfl (.int .i64 (c : Int)) rfl (by decide) rfl (fun _ => by kernel_rfl) K ?_
  simp only [aP, lI, l0, lS]
  refine pureCg (i := 4) (some 97) rfl (.pointer (some ⟨B, c, none⟩)) rfl (by decide) rfl (fun w' => idxV B cap c hc w' _ _ rfl rfl rfl) K ?_
  simp only [aP, lI, l0, lS]
  refine cellC (i := 5) (some 98) rfl .u32 (.int .u32 ((mxD 24 (mxA (mxD 20 (mxC (mxD 16 (mxA (f) a b x) d a) c d) b c) a b y) d a) c)) B c 60 _ rfl rfl (by kernel_rfl) rfl rfl rfl (by kernel_rfl) (by kernel_rfl) (by kernel_rfl) (by kernel_rfl) (fun _ _ _ h => h) Tryd.underlying60 K (fun _ h => h.has.cell c hc) ?_
  simp only [aP, lI, l0, lS]
  refine pureCg (i := 6) (some 99) rfl (.slice (some ⟨B, 0, none⟩) 16 cap) rfl (by decide) rfl (fun _ => by kernel_rfl) K ?_
  simp only [aP, lI, l0, lS]
  refine pureCg (i := 7) (some 100) rfl (.int .i64 (d : Int)) rfl (by decide) rfl (fun _ => by kernel_rfl) K ?_
  simp only [aP, lI, l0, lS]
  refine pureCg (i := 8) (some 101) rfl (.pointer (some ⟨B, d, none⟩)) rfl (by decide) rfl (fun w' => idxV B cap d hd w' _ _ rfl rfl rfl) K ?_
  simp only [aP, lI, l0, lS]
  refine cellC (i := 9) (some 102) rfl .u32 (.int .u32 ((mxD 24 (mxA (mxD 20 (mxC (mxD 16 (mxA (f) a b x) d a) c d) b c) a b y) d a) d)) B d 60 _ rfl rfl (by kernel_rfl) rfl rfl rfl (by kernel_rfl) (by kernel_rfl) (by kernel_rfl) (by kernel_rfl) (fun _ _ _ h => h) Tryd.underlying60 K (fun _ h => h.has.cell d hd) ?_
  simp only [aP, lI, l0, lS]
  refine pureCg (i := 10) (some 103) rfl (.int .u32 (had ((mxD 24 (mxA (mxD 20 (mxC (mxD 16 (mxA (f) a b x) d a) c d) b c) a b y) d a) c) ((mxD 24 (mxA (mxD 20 (mxC (mxD 16 (mxA (f) a b x) d a) c d) b c) a b y) d a) d))) rfl (by decide) rfl (fun w => addI .u32 _ _ _ _ _ _ _ rfl rfl rfl (IntKind.wrap_u32' _) w) K ?_
  simp only [aP, lI, l0, lS]
  refine pureCg (i := 11) (some 104) rfl (.pointer (some ⟨B, c, none⟩)) rfl (by decide) rfl (fun w' => idxV B cap c hc w' _ _ rfl rfl rfl) K ?_
  simp only [aP, lI, l0, lS]
  refine storeC (S2 := fun _ => True) none rfl .u32 (had ((mxD 24 (mxA (mxD 20 (mxC (mxD 16 (mxA (f) a b x) d a) c d) b c) a b y) d a) c) ((mxD 24 (mxA (mxD 20 (mxC (mxD 16 (mxA (f) a b x) d a) c d) b c) a b y) d a) d)) B c 60 _ _ (by kernel_rfl) rfl rfl rfl rfl rfl (by rw [K.has.cell c hc]; rfl) (K.has.free c hc) (by kernel_rfl) (by kernel_rfl) ?_
  simp only [Act.put]
  refine wpAnyH_done (by kernel_rfl) ?_ _
  have F7 := show Hid (In V 16 (mxC (mxD 24 (mxA (mxD 20 (mxC (mxD 16 (mxA (f) a b x) d a) c d) b c) a b y) d a) c d)) from F6.out.upd c _ (had_in _ _).1 (had_in _ _).2
  replace K : MI w B (mxC (mxD 24 (mxA (mxD 20 (mxC (mxD 16 (mxA (f) a b x) d a) c d) b c) a b y) d a) c d) _ := K.set c hc (had ((mxD 24 (mxA (mxD 20 (mxC (mxD 16 (mxA (f) a b x) d a) c d) b c) a b y) d a) c) ((mxD 24 (mxA (mxD 20 (mxC (mxD 16 (mxA (f) a b x) d a) c d) b c) a b y) d a) d))
  generalize v6.setCell ⟨B, c, none⟩ (.int .u32 (had ((mxD 24 (mxA (mxD 20 (mxC (mxD 16 (mxA (f) a b x) d a) c d) b c) a b y) d a) c) ((mxD 24 (mxA (mxD 20 (mxC (mxD 16 (mxA (f) a b x) d a) c d) b c) a b y) d a) d))) = w7 at K ⊢
  go_upto_region 7 with fail
  refine wp_region_C (S := fun w' => MI w B (mxC (mxD 24 (mxA (mxD 20 (mxC (mxD 16 (mxA (f) a b x) d a) c d) b c) a b y) d a) c d) w') 13 (by kernel_rfl) K.drew ?_
  clear K
  intro K
  generalize w7.drew = v7 at K ⊢
  refine pureCg (i := 0) (some 105) rfl (.slice (some ⟨B, 0, none⟩) 16 cap) rfl (by decide) rfl (fun _ => by kernel_rfl) K ?_
  simp only [aP, lI, l0, lS]
  refine pureCg (i := 1) (some 106) rfl (.int .i64 (b : Int)) rfl (by decide) rfl (fun _ => by kernel_rfl) K ?_
  simp only [aP, lI, l0, lS]
  refine pureCg (i := 2) (some 107) rfl (.slice (some ⟨B, 0, none⟩) 16 cap) rfl (by decide) rfl (fun _ => by kernel_rfl) K ?_
  simp only [aP, lI, l0, lS]
  refine pureCg (i := 3) (some 108) rfl (.int .i64 (b : Int)) rfl (by decide) rfl (fun _ => by kernel_rfl) K ?_
  simp only [aP, lI, l0, lS]
  refine pureCg (i := 4) (some 109) rfl (.pointer (some ⟨B, b, none⟩)) rfl (by decide) rfl (fun w' => idxV B cap b hb w' _ _ rfl rfl rfl) K ?_
  simp only [aP, lI, l0, lS]
  refine cellC (i := 5) (some 110) rfl .u32 (.int .u32 ((mxC (mxD 24 (mxA (mxD 20 (mxC (mxD 16 (mxA (f) a b x) d a) c d) b c) a b y) d a) c d) b)) B b 60 _ rfl rfl (by kernel_rfl) rfl rfl rfl (by kernel_rfl) (by kernel_rfl) (by kernel_rfl) (by kernel_rfl) (fun _ _ _ h => h) Tryd.underlying60 K (fun _ h => h.has.cell b hb) ?_
  simp only [aP, lI, l0, lS]
  refine pureCg (i := 6) (some 111) rfl (.slice (some ⟨B, 0, none⟩) 16 cap) rfl (by decide) rfl (fun _ => by kernel_rfl) K ?_
  simp only [aP, lI, l0, lS]
  refine pureCg (i := 7) (some 112) rfl (.int .i64 (c : Int)) rfl (by decide) rfl (fun _ => by kernel_rfl) K ?_
  simp only [aP, lI, l0, lS]
  refine pureCg (i := 8) (some 113) rfl (.pointer (some ⟨B, c, none⟩)) rfl (by decide) rfl (fun w' => idxV B cap c hc w' _ _ rfl rfl rfl) K ?_
  simp only [aP, lI, l0, lS]
  refine cellC (i := 9) (some 114) rfl .u32 (.int .u32 ((mxC (mxD 24 (mxA (mxD 20 (mxC (mxD 16 (mxA (f) a b x) d a) c d) b c) a b y) d a) c d) c)) B c 60 _ rfl rfl (by kernel_rfl) rfl rfl rfl (by kernel_rfl) (by kernel_rfl) (by kernel_rfl) (by kernel_rfl) (fun _ _ _ h => h) Tryd.underlying60 K (fun _ h => h.has.cell c hc) ?_
  simp only [aP, lI, l0, lS]
  refine pureCg (i := 10) (some 115) rfl (.int .u32 (hxr ((mxC (mxD 24 (mxA (mxD 20 (mxC (mxD 16 (mxA (f) a b x) d a) c d) b c) a b y) d a) c d) b) ((mxC (mxD 24 (mxA (mxD 20 (mxC (mxD 16 (mxA (f) a b x) d a) c d) b c) a b y) d a) c d) c))) rfl (by decide) rfl (fun w => xorI .u32 _ _ _ _ _ _ _ rfl rfl rfl rfl w) K ?_
  simp only [aP, lI, l0, lS]
  refine callMC (i := 11) (some 116) rfl (by kernel_rfl) rfl rfl (fun _ => by kernel_rfl) (ror_any 7 (by decide) _ (hxr_in _ _ (F7.out b hb) (F7.out c hc)) _) ?_
  rintro e u7 ⟨q7, rfl, rfl⟩
  replace K := K.drewN q7
  refine ⟨_, rfl, K, ?_⟩
  simp only [aP, lI, l0, lS]
  refine pureCg (i := 12) (some 117) rfl (.pointer (some ⟨B, b, none⟩)) rfl (by decide) rfl (fun w' => idxV B cap b hb w' _ _ rfl rfl rfl) K ?_
  simp only [aP, lI, l0, lS]
  refine storeC (S2 := fun _ => True) none rfl .u32 (hrl 25 (hxr ((mxC (mxD 24 (mxA (mxD 20 (mxC (mxD 16 (mxA (f) a b x) d a) c d) b c) a b y) d a) c d) b) ((mxC (mxD 24 (mxA (mxD 20 (mxC (mxD 16 (mxA (f) a b x) d a) c d) b c) a b y) d a) c d) c))) B b 60 _ _ (by kernel_rfl) rfl rfl rfl rfl rfl (by rw [K.has.cell b hb]; rfl) (K.has.free b hb) (by kernel_rfl) (by kernel_rfl) ?_
  simp only [Act.put]
  refine wpAnyH_done (by kernel_rfl) ?_ _
  have F8 := show Hid (In V 16 (mxD 25 (mxC (mxD 24 (mxA (mxD 20 (mxC (mxD 16 (mxA (f) a b x) d a) c d) b c) a b y) d a) c d) b c)) from F7.out.upd b _ (hrl_in _ _ (hxr_in _ _ (F7.out b hb) (F7.out c hc))).1 (hrl_in _ _ (hxr_in _ _ (F7.out b hb) (F7.out c hc))).2
  replace K : MI w B (mxD 25 (mxC (mxD 24 (mxA (mxD 20 (mxC (mxD 16 (mxA (f) a b x) d a) c d) b c) a b y) d a) c d) b c) _ := K.set b hb (hrl 25 (hxr ((mxC (mxD 24 (mxA (mxD 20 (mxC (mxD 16 (mxA (f) a b x) d a) c d) b c) a b y) d a) c d) b) ((mxC (mxD 24 (mxA (mxD 20 (mxC (mxD 16 (mxA (f) a b x) d a) c d) b c) a b y) d a) c d) c)))
  generalize (v7.drewN q7).setCell ⟨B, b, none⟩ (.int .u32 (hrl 25 (hxr ((mxC (mxD 24 (mxA (mxD 20 (mxC (mxD 16 (mxA (f) a b x) d a) c d) b c) a b y) d a) c d) b) ((mxC (mxD 24 (mxA (mxD 20 (mxC (mxD 16 (mxA (f) a b x) d a) c d) b c) a b y) d a) c d) c)))) = w8 at K ⊢
  rw [mx_all f a b c d x y hab hac had_ hbc hbd hcd] at K
  go_wp2
  go_end0
  exact ⟨rfl, K⟩
theorem refStart_any (w : World) :
    Calls Tryd.prog 45 #[] w fun e w' => ∃ B, e = .returned (.slice (some ⟨B, 0, none⟩) 8 8) ∧ (w.heap.size ≤ B ∧ B < w'.heap.size ∧ Has w' B .u32 8 iv) ∧ Below w.heap.size w w' := by
  have H := Has.new w .u32 8 iv 60 w.heap.size rfl
  have hb := (Below.refl w.heap.size w).alloc (Nat.le_refl _) (.cells (row .u32 8 iv).toArray 60)
  have hz := size_new w (.cells (row .u32 8 iv).toArray 60)
  go_enter Tryd.func45, Tryd.ntmps45
  go_upto_region 1 with fail
  refine wp_region_list ?_
  refine actL (w' := w.alloc (.cells (row .u32 8 iv).toArray 60)) (.slice (some ⟨w.heap.size, 0, none⟩) 8 8) rfl (by kernel_rfl) ?_
  simp only [aP, lI, l0, lS]
  refine pureL (.slice (some ⟨w.heap.size, 0, none⟩) 8 8) rfl (fun _ => by kernel_rfl) ?_
  simp only [aP, lI, l0]
  show Exit.then _ _ _ _ _
  generalize w.alloc (.cells (row .u32 8 iv).toArray 60) = w1 at H hb hz ⊢
  go_wp2
  go_ret
  exact ⟨w.heap.size, rfl, ⟨Nat.le_refl _, by omega, H⟩, hb⟩
structure SGT (w' : World) (O : Nat) (bs : Nat → Nat) : Prop where
  top : ∀ r, r < 10 → w'.cell? ⟨O, r, none⟩ = some (.slice (some ⟨bs r, 0, none⟩) 16 16)
  rows : ∀ r, r < 10 → Has w' (bs r) .i64 16 (fun i => ((sg r i : Nat) : Int)) ∧ bs r < w'.heap.size
  lt : O < w'.heap.size
theorem SGT.below {w w' : World} {O : Nat} {bs : Nat → Nat} (h : SGT w O bs) {B : Nat} (l : Below B w w') (hB : w.heap.size ≤ B) : SGT w' O bs :=
  ⟨fun r hr => by rw [l.cell (p := ⟨O, r, none⟩) (Nat.lt_of_lt_of_le h.lt hB)]; exact h.top r hr, fun r hr => ⟨(h.rows r hr).1.below l (Nat.lt_of_lt_of_le (h.rows r hr).2 hB), Nat.lt_of_lt_of_le (h.rows r hr).2 l.size⟩, Nat.lt_of_lt_of_le h.lt l.size⟩
theorem refRows_any (w : World) :
    Calls Tryd.prog 50 #[] w fun e w' => ∃ O bs, e = .returned (.slice (some ⟨O, 0, none⟩) 10 10) ∧ (w.heap.size ≤ O ∧ (∀ r, r < 10 → w.heap.size ≤ bs r) ∧ SGT w' O bs) ∧ Below w.heap.size w w' := by
  have K := Kr.init w
  go_enter Tryd.func50, Tryd.ntmps50
  go_upto_region 1 with fail
  refine wp_region_list ?_
  refine actL (w' := w.alloc (.cells (row .i64 16 (fun i => ((sg 0 i : Nat) : Int))).toArray 3)) (.slice (some ⟨w.heap.size, 0, none⟩) 16 16) rfl (by kernel_rfl) ?_
  simp only [aP, lI, l0, lS]
  have z0 := K.size
  replace K := K.box .i64 16 (fun i => ((sg 0 i : Nat) : Int)) 3 w.heap.size rfl
  generalize w.alloc (.cells (row .i64 16 (fun i => ((sg 0 i : Nat) : Int))).toArray 3) = w0 at K ⊢
  refine actL (w' := w0.alloc (.cells (row .i64 16 (fun i => ((sg 1 i : Nat) : Int))).toArray 3)) (.slice (some ⟨w0.heap.size, 0, none⟩) 16 16) rfl (by kernel_rfl) ?_
  simp only [aP, lI, l0, lS]
  have z1 := K.size
  replace K := K.box .i64 16 (fun i => ((sg 1 i : Nat) : Int)) 3 w0.heap.size rfl
  generalize w0.alloc (.cells (row .i64 16 (fun i => ((sg 1 i : Nat) : Int))).toArray 3) = w1 at K ⊢
  generalize w0.heap.size = B1 at K z1 ⊢
  refine actL (w' := w1.alloc (.cells (row .i64 16 (fun i => ((sg 2 i : Nat) : Int))).toArray 3)) (.slice (some ⟨w1.heap.size, 0, none⟩) 16 16) rfl (by kernel_rfl) ?_
  simp only [aP, lI, l0, lS]
  have z2 := K.size
  replace K := K.box .i64 16 (fun i => ((sg 2 i : Nat) : Int)) 3 w1.heap.size rfl
  generalize w1.alloc (.cells (row .i64 16 (fun i => ((sg 2 i : Nat) : Int))).toArray 3) = w2 at K ⊢
  generalize w1.heap.size = B2 at K z2 ⊢
  refine actL (w' := w2.alloc (.cells (row .i64 16 (fun i => ((sg 3 i : Nat) : Int))).toArray 3)) (.slice (some ⟨w2.heap.size, 0, none⟩) 16 16) rfl (by kernel_rfl) ?_
  simp only [aP, lI, l0, lS]
  have z3 := K.size
  replace K := K.box .i64 16 (fun i => ((sg 3 i : Nat) : Int)) 3 w2.heap.size rfl
  generalize w2.alloc (.cells (row .i64 16 (fun i => ((sg 3 i : Nat) : Int))).toArray 3) = w3 at K ⊢
  generalize w2.heap.size = B3 at K z3 ⊢
  refine actL (w' := w3.alloc (.cells (row .i64 16 (fun i => ((sg 4 i : Nat) : Int))).toArray 3)) (.slice (some ⟨w3.heap.size, 0, none⟩) 16 16) rfl (by kernel_rfl) ?_
  simp only [aP, lI, l0, lS]
  have z4 := K.size
  replace K := K.box .i64 16 (fun i => ((sg 4 i : Nat) : Int)) 3 w3.heap.size rfl
  generalize w3.alloc (.cells (row .i64 16 (fun i => ((sg 4 i : Nat) : Int))).toArray 3) = w4 at K ⊢
  generalize w3.heap.size = B4 at K z4 ⊢
  refine actL (w' := w4.alloc (.cells (row .i64 16 (fun i => ((sg 5 i : Nat) : Int))).toArray 3)) (.slice (some ⟨w4.heap.size, 0, none⟩) 16 16) rfl (by kernel_rfl) ?_
  simp only [aP, lI, l0, lS]
  have z5 := K.size
  replace K := K.box .i64 16 (fun i => ((sg 5 i : Nat) : Int)) 3 w4.heap.size rfl
  generalize w4.alloc (.cells (row .i64 16 (fun i => ((sg 5 i : Nat) : Int))).toArray 3) = w5 at K ⊢
  generalize w4.heap.size = B5 at K z5 ⊢
  refine actL (w' := w5.alloc (.cells (row .i64 16 (fun i => ((sg 6 i : Nat) : Int))).toArray 3)) (.slice (some ⟨w5.heap.size, 0, none⟩) 16 16) rfl (by kernel_rfl) ?_
  simp only [aP, lI, l0, lS]
  have z6 := K.size
  replace K := K.box .i64 16 (fun i => ((sg 6 i : Nat) : Int)) 3 w5.heap.size rfl
  generalize w5.alloc (.cells (row .i64 16 (fun i => ((sg 6 i : Nat) : Int))).toArray 3) = w6 at K ⊢
  generalize w5.heap.size = B6 at K z6 ⊢
  refine actL (w' := w6.alloc (.cells (row .i64 16 (fun i => ((sg 7 i : Nat) : Int))).toArray 3)) (.slice (some ⟨w6.heap.size, 0, none⟩) 16 16) rfl (by kernel_rfl) ?_
  simp only [aP, lI, l0, lS]
  have z7 := K.size
  replace K := K.box .i64 16 (fun i => ((sg 7 i : Nat) : Int)) 3 w6.heap.size rfl
  generalize w6.alloc (.cells (row .i64 16 (fun i => ((sg 7 i : Nat) : Int))).toArray 3) = w7 at K ⊢
  generalize w6.heap.size = B7 at K z7 ⊢
  refine actL (w' := w7.alloc (.cells (row .i64 16 (fun i => ((sg 8 i : Nat) : Int))).toArray 3)) (.slice (some ⟨w7.heap.size, 0, none⟩) 16 16) rfl (by kernel_rfl) ?_
  simp only [aP, lI, l0, lS]
  have z8 := K.size
  replace K := K.box .i64 16 (fun i => ((sg 8 i : Nat) : Int)) 3 w7.heap.size rfl
  generalize w7.alloc (.cells (row .i64 16 (fun i => ((sg 8 i : Nat) : Int))).toArray 3) = w8 at K ⊢
  generalize w7.heap.size = B8 at K z8 ⊢
  refine actL (w' := w8.alloc (.cells (row .i64 16 (fun i => ((sg 9 i : Nat) : Int))).toArray 3)) (.slice (some ⟨w8.heap.size, 0, none⟩) 16 16) rfl (by kernel_rfl) ?_
  simp only [aP, lI, l0, lS]
  have z9 := K.size
  replace K := K.box .i64 16 (fun i => ((sg 9 i : Nat) : Int)) 3 w8.heap.size rfl
  generalize w8.alloc (.cells (row .i64 16 (fun i => ((sg 9 i : Nat) : Int))).toArray 3) = w9 at K ⊢
  generalize w8.heap.size = B9 at K z9 ⊢
  refine actL (w' := w9.alloc (.cells #[.slice (some ⟨w.heap.size, 0, none⟩) 16 16, .slice (some ⟨B1, 0, none⟩) 16 16, .slice (some ⟨B2, 0, none⟩) 16 16, .slice (some ⟨B3, 0, none⟩) 16 16, .slice (some ⟨B4, 0, none⟩) 16 16, .slice (some ⟨B5, 0, none⟩) 16 16, .slice (some ⟨B6, 0, none⟩) 16 16, .slice (some ⟨B7, 0, none⟩) 16 16, .slice (some ⟨B8, 0, none⟩) 16 16, .slice (some ⟨B9, 0, none⟩) 16 16] 24)) (.slice (some ⟨w9.heap.size, 0, none⟩) 10 10) rfl (by kernel_rfl) ?_
  simp only [aP, lI, l0, lS]
  refine pureL (.slice (some ⟨w9.heap.size, 0, none⟩) 10 10) rfl (fun _ => by kernel_rfl) ?_
  simp only [aP, lI, l0]
  have K2 := K.call ((Below.refl w9.heap.size w9).alloc (Nat.le_refl _) (.cells #[.slice (some ⟨w.heap.size, 0, none⟩) 16 16, .slice (some ⟨B1, 0, none⟩) 16 16, .slice (some ⟨B2, 0, none⟩) 16 16, .slice (some ⟨B3, 0, none⟩) 16 16, .slice (some ⟨B4, 0, none⟩) 16 16, .slice (some ⟨B5, 0, none⟩) 16 16, .slice (some ⟨B6, 0, none⟩) 16 16, .slice (some ⟨B7, 0, none⟩) 16 16, .slice (some ⟨B8, 0, none⟩) 16 16, .slice (some ⟨B9, 0, none⟩) 16 16] 24))
  have hc : ∀ i, (w9.alloc (.cells #[.slice (some ⟨w.heap.size, 0, none⟩) 16 16, .slice (some ⟨B1, 0, none⟩) 16 16, .slice (some ⟨B2, 0, none⟩) 16 16, .slice (some ⟨B3, 0, none⟩) 16 16, .slice (some ⟨B4, 0, none⟩) 16 16, .slice (some ⟨B5, 0, none⟩) 16 16, .slice (some ⟨B6, 0, none⟩) 16 16, .slice (some ⟨B7, 0, none⟩) 16 16, .slice (some ⟨B8, 0, none⟩) 16 16, .slice (some ⟨B9, 0, none⟩) 16 16] 24)).cell? ⟨w9.heap.size, i, none⟩ = #[.slice (some ⟨w.heap.size, 0, none⟩) 16 16, .slice (some ⟨B1, 0, none⟩) 16 16, .slice (some ⟨B2, 0, none⟩) 16 16, .slice (some ⟨B3, 0, none⟩) 16 16, .slice (some ⟨B4, 0, none⟩) 16 16, .slice (some ⟨B5, 0, none⟩) 16 16, .slice (some ⟨B6, 0, none⟩) 16 16, .slice (some ⟨B7, 0, none⟩) 16 16, .slice (some ⟨B8, 0, none⟩) 16 16, .slice (some ⟨B9, 0, none⟩) 16 16][i]? := fun i => World.cell?_alloc_at _ _ _ _ rfl
  have hz := size_new w9 (.cells #[.slice (some ⟨w.heap.size, 0, none⟩) 16 16, .slice (some ⟨B1, 0, none⟩) 16 16, .slice (some ⟨B2, 0, none⟩) 16 16, .slice (some ⟨B3, 0, none⟩) 16 16, .slice (some ⟨B4, 0, none⟩) 16 16, .slice (some ⟨B5, 0, none⟩) 16 16, .slice (some ⟨B6, 0, none⟩) 16 16, .slice (some ⟨B7, 0, none⟩) 16 16, .slice (some ⟨B8, 0, none⟩) 16 16, .slice (some ⟨B9, 0, none⟩) 16 16] 24)
  generalize w9.alloc (.cells #[.slice (some ⟨w.heap.size, 0, none⟩) 16 16, .slice (some ⟨B1, 0, none⟩) 16 16, .slice (some ⟨B2, 0, none⟩) 16 16, .slice (some ⟨B3, 0, none⟩) 16 16, .slice (some ⟨B4, 0, none⟩) 16 16, .slice (some ⟨B5, 0, none⟩) 16 16, .slice (some ⟨B6, 0, none⟩) 16 16, .slice (some ⟨B7, 0, none⟩) 16 16, .slice (some ⟨B8, 0, none⟩) 16 16, .slice (some ⟨B9, 0, none⟩) 16 16] 24) = w10 at K2 hc hz ⊢
  have hs9 := K.size
  have hb9 := K.base
  clear K
  show Exit.then _ _ _ _ _
  have hS : SGT w10 w9.heap.size (fun r => [w.heap.size, B1, B2, B3, B4, B5, B6, B7, B8, B9].getD r 0) := ⟨fun r hr => by
    rw [hc]
    match r, hr with
    | 0, _ | 1, _ | 2, _ | 3, _ | 4, _ | 5, _ | 6, _ | 7, _ | 8, _ | 9, _ => rfl, fun r hr => by
    match r, hr with
    | 0, _ => exact ⟨K2.get _ _ _ _ (mT _ (mT _ (mT _ (mT _ (mT _ (mT _ (mT _ (mT _ (mT _ mS))))))))), by show w.heap.size < w10.heap.size; omega⟩
    | 1, _ => exact ⟨K2.get _ _ _ _ (mT _ (mT _ (mT _ (mT _ (mT _ (mT _ (mT _ (mT _ mS)))))))), by show B1 < w10.heap.size; omega⟩
    | 2, _ => exact ⟨K2.get _ _ _ _ (mT _ (mT _ (mT _ (mT _ (mT _ (mT _ (mT _ mS))))))), by show B2 < w10.heap.size; omega⟩
    | 3, _ => exact ⟨K2.get _ _ _ _ (mT _ (mT _ (mT _ (mT _ (mT _ (mT _ mS)))))), by show B3 < w10.heap.size; omega⟩
    | 4, _ => exact ⟨K2.get _ _ _ _ (mT _ (mT _ (mT _ (mT _ (mT _ mS))))), by show B4 < w10.heap.size; omega⟩
    | 5, _ => exact ⟨K2.get _ _ _ _ (mT _ (mT _ (mT _ (mT _ mS)))), by show B5 < w10.heap.size; omega⟩
    | 6, _ => exact ⟨K2.get _ _ _ _ (mT _ (mT _ (mT _ mS))), by show B6 < w10.heap.size; omega⟩
    | 7, _ => exact ⟨K2.get _ _ _ _ (mT _ (mT _ mS)), by show B7 < w10.heap.size; omega⟩
    | 8, _ => exact ⟨K2.get _ _ _ _ (mT _ mS), by show B8 < w10.heap.size; omega⟩
    | 9, _ => exact ⟨K2.get _ _ _ _ mS, by show B9 < w10.heap.size; omega⟩, by omega⟩
  have hB := K2.below
  have hge : ∀ r, r < 10 → w.heap.size ≤ [w.heap.size, B1, B2, B3, B4, B5, B6, B7, B8, B9].getD r 0 := fun r hr => by
    match r, hr with
    | 0, _ => show w.heap.size ≤ w.heap.size; omega
    | 1, _ => show w.heap.size ≤ B1; omega
    | 2, _ => show w.heap.size ≤ B2; omega
    | 3, _ => show w.heap.size ≤ B3; omega
    | 4, _ => show w.heap.size ≤ B4; omega
    | 5, _ => show w.heap.size ≤ B5; omega
    | 6, _ => show w.heap.size ≤ B6; omega
    | 7, _ => show w.heap.size ≤ B7; omega
    | 8, _ => show w.heap.size ≤ B8; omega
    | 9, _ => show w.heap.size ≤ B9; omega
  clear K2 hc
  go_wp2
  go_ret
  exact ⟨w9.heap.size, _, rfl, ⟨by omega, hge, hS⟩, hB⟩
theorem one32 : One Tryd.prog 60 .u32 4 := ⟨by kernel_rfl⟩
theorem idxW (b len cap i : Nat) (hi : i < len) (w : World) {o : Oper} {a : Act} (x y : Operand) (ho : o.op = .indexAddr 74 x y) (hx : a.eval x = .slice (some ⟨b, 0, none⟩) len cap) (hy : a.eval y = .int .i64 (i : Int)) :
    (execOp a.eval o).run Tryd.prog w = .ok (.value (.pointer (some ⟨b, i, none⟩))) w := by
  have h := idxSl (P := Tryd.prog) 74 60 len cap .i64 ⟨b, 0, none⟩ i x y Tryd.underlying74 (fun _ => by kernel_rfl) hi ho hx hy w
  rw [Addr.add_mid, Nat.zero_add] at h
  exact h
end Go.Proofs.YtckohmdmjhaknaaDoor
