/- BLAKE2s: mixing, pressing, a text's hash: plain facts on numbers; the examples reckoned. -/
import Derived.Test.YtmchfdfmcobenaaDoorHa
import Derived.Test.YtmchfdfmcobenaaDoorGn
namespace Go.Proofs.YtmchfdfmcobenaaDoor
open Go.RowKit

/-- Mixing four words with two. -/
def mA (a b x : Int) : Int := had (had a b) x
def mD (p : Nat) (d a : Int) : Int := hrl p (hxr d a)
def bA1 (a b x : Int) : Int := mA a b x
def bD1 (a b d x : Int) : Int := mD 16 d (bA1 a b x)
def bC1 (a b c d x : Int) : Int := had c (bD1 a b d x)
def bB1 (a b c d x : Int) : Int := mD 20 b (bC1 a b c d x)
def bA (a b c d x y : Int) : Int := mA (bA1 a b x) (bB1 a b c d x) y
def bD (a b c d x y : Int) : Int := mD 24 (bD1 a b d x) (bA a b c d x y)
def bC (a b c d x y : Int) : Int := had (bC1 a b c d x) (bD a b c d x y)
def bB (a b c d x y : Int) : Int := mD 25 (bB1 a b c d x) (bC a b c d x y)
theorem mD_in (p : Nat) (d a : Int) (hd : 0 ≤ d ∧ d < V) (ha : 0 ≤ a ∧ a < V) : 0 ≤ mD p d a ∧ mD p d a < V := hrl_in _ _ (hxr_in _ _ hd ha)
theorem bA_in (a b c d x y : Int) : 0 ≤ bA a b c d x y ∧ bA a b c d x y < V := had_in _ _
theorem bD1_in (a b d x : Int) (hd : 0 ≤ d ∧ d < V) : 0 ≤ bD1 a b d x ∧ bD1 a b d x < V := mD_in _ _ _ hd (had_in _ _)
theorem bB1_in (a b c d x : Int) (hb : 0 ≤ b ∧ b < V) : 0 ≤ bB1 a b c d x ∧ bB1 a b c d x < V := mD_in _ _ _ hb (had_in _ _)
theorem bD_in (a b c d x y : Int) (hd : 0 ≤ d ∧ d < V) : 0 ≤ bD a b c d x y ∧ bD a b c d x y < V := mD_in _ _ _ (bD1_in a b d x hd) (had_in _ _)
theorem bC_in (a b c d x y : Int) : 0 ≤ bC a b c d x y ∧ bC a b c d x y < V := had_in _ _
theorem bB_in (a b c d x y : Int) (hb : 0 ≤ b ∧ b < V) : 0 ≤ bB a b c d x y ∧ bB a b c d x y < V := mD_in _ _ _ (bB1_in a b c d x hb) (had_in _ _)
/-- Four places of a row, mixed. -/
def bMx (v : Nat → Int) (a b c d : Nat) (x y : Int) : Nat → Int :=
  upd (upd (upd (upd v a (bA (v a) (v b) (v c) (v d) x y)) b (bB (v a) (v b) (v c) (v d) x y)) c (bC (v a) (v b) (v c) (v d) x y)) d (bD (v a) (v b) (v c) (v d) x y)
theorem bMx_in (v : Nat → Int) (a b c d : Nat) (x y : Int) (hb : b < 16) (hd : d < 16) (h : In V 16 v) : In V 16 (bMx v a b c d x y) :=
  (((h.upd _ _ (bA_in _ _ _ _ _ _).1 (bA_in _ _ _ _ _ _).2).upd _ _ (bB_in _ _ _ _ _ _ (h b hb)).1 (bB_in _ _ _ _ _ _ (h b hb)).2).upd _ _ (bC_in _ _ _ _ _ _).1 (bC_in _ _ _ _ _ _).2).upd _ _ (bD_in _ _ _ _ _ _ (h d hd)).1 (bD_in _ _ _ _ _ _ (h d hd)).2
/-- The rows. -/
def sgL : List Nat := [0, 1, 2, 3, 4, 5, 6, 7, 8, 9, 10, 11, 12, 13, 14, 15, 14, 10, 4, 8, 9, 15, 13, 6, 1, 12, 0, 2, 11, 7, 5, 3, 11, 8, 12, 0, 5, 2, 15, 13, 10, 14, 3, 6, 7, 1, 9, 4, 7, 9, 3, 1, 13, 12, 11, 14, 2, 6, 5, 10, 4, 0, 15, 8, 9, 0, 5, 7, 2, 4, 10, 15, 14, 1, 11, 12, 6, 8, 3, 13, 2, 12, 6, 10, 0, 11, 8, 3, 4, 13, 7, 5, 15, 14, 1, 9, 12, 5, 1, 15, 14, 13, 4, 10, 0, 7, 6, 3, 9, 2, 8, 11, 13, 11, 7, 14, 12, 1, 3, 9, 5, 0, 15, 4, 8, 6, 2, 10, 6, 15, 14, 9, 11, 3, 0, 8, 12, 2, 13, 7, 1, 4, 10, 5, 10, 2, 8, 4, 7, 6, 1, 5, 15, 11, 9, 14, 3, 12, 13, 0]
def sg (r i : Nat) : Nat := sgL.getD (16 * r + i) 0
theorem sg_lt (r i : Nat) : sg r i < 16 := by
  unfold sg
  rw [List.getD_eq_getElem?_getD]
  cases e : sgL[16 * r + i]? with
  | none => simp
  | some x =>
    have h : ∀ x ∈ sgL, x < 16 := by decide +kernel
    simpa using h x (List.mem_of_getElem? e)
/-- One of a row's eight mixings, so many of them, so many rows. -/
def bAt (m : Nat → Int) (s : Nat → Nat) (v : Nat → Int) (i : Nat) : Nat → Int := bMx v (pA i) (pB i) (pC i) (pD i) (m (s (2 * i))) (m (s (2 * i + 1)))
def bN (m : Nat → Int) (s : Nat → Nat) (v : Nat → Int) : Nat → Nat → Int
  | 0 => v
  | i + 1 => bAt m s (bN m s v i) i
def bR (m : Nat → Int) (v : Nat → Int) : Nat → Nat → Int
  | 0 => v
  | r + 1 => bN m (sg r) (bR m v r) 8
theorem bAt_in (m : Nat → Int) (s : Nat → Nat) (v : Nat → Int) (i : Nat) (h : In V 16 v) : In V 16 (bAt m s v i) := bMx_in _ _ _ _ _ _ _ (by have := pB_lt i; omega) (by have := pD_lt i; omega) h
theorem bN_in (m : Nat → Int) (s : Nat → Nat) (v : Nat → Int) (h : In V 16 v) : ∀ i, In V 16 (bN m s v i)
  | 0 => h
  | i + 1 => bAt_in _ _ _ _ (bN_in m s v h i)
theorem bR_in (m : Nat → Int) (v : Nat → Int) (h : In V 16 v) : ∀ r, In V 16 (bR m v r)
  | 0 => h
  | r + 1 => bN_in _ _ _ (bR_in m v h r) 8
/-- The words IV; what a pressing begins with; pressing. -/
def iv : Nat → Int := bl [1779033703, 3144134277, 1013904242, 2773480762, 1359893119, 2600822924, 528734635, 1541459225]
theorem iv_in : In V 8 iv := fun j hj => by
  match j, hj with
  | 0, _ | 1, _ | 2, _ | 3, _ | 4, _ | 5, _ | 6, _ | 7, _ => decide
def bst (h : Nat → Int) (t : Int) (last : Bool) : Nat → Int := six (h 0) (h 1) (h 2) (h 3) (h 4) (h 5) (h 6) (h 7) (iv 0) (iv 1) (iv 2) (iv 3) (hxr (iv 4) (t % 4294967296)) (hxr (iv 5) (t / 4294967296 % 4294967296)) (if last then 4294967295 - iv 6 else iv 6) (iv 7)
def bpw (z : Nat → Int) : Nat → Int := fun i => w32 z (4 * i)
def bpr (h : Nat → Int) (z : Nat → Int) (t : Int) (last : Bool) : Nat → Int := fun i => hxr (hxr (h i) (bR (bpw z) (bst h t last) 10 i)) (bR (bpw z) (bst h t last) 10 (i + 8))
theorem bst_in (h : Nat → Int) (t : Int) (last : Bool) (hh : In V 8 h) : In V 16 (bst h t last) :=
  six_in _ _ _ _ _ _ _ _ _ _ _ _ _ _ _ _ (hh 0 (by omega)) (hh 1 (by omega)) (hh 2 (by omega)) (hh 3 (by omega)) (hh 4 (by omega)) (hh 5 (by omega)) (hh 6 (by omega)) (hh 7 (by omega)) (iv_in 0 (by omega)) (iv_in 1 (by omega)) (iv_in 2 (by omega)) (iv_in 3 (by omega))
    (hxr_in _ _ (iv_in 4 (by omega)) (by simp only [V]; omega)) (hxr_in _ _ (iv_in 5 (by omega)) (by simp only [V]; omega)) (by have h6 := iv_in 6 (by omega); simp only [V] at h6 ⊢; split <;> omega) (iv_in 7 (by omega))
theorem bpr_in (h z : Nat → Int) (t : Int) (last : Bool) (hh : In V 8 h) : In V 8 (bpr h z t last) := fun j hj =>
  hxr_in _ _ (hxr_in _ _ (hh j hj) (bR_in _ _ (bst_in h t last hh) 10 j (by omega))) (bR_in _ _ (bst_in h t last hh) 10 (j + 8) (by omega))
/-- A text behind its key; how many bytes it has, how many pieces. -/
def btl (kl len : Nat) : Nat := (if kl = 0 then 0 else 64) + len
def btx (kl : Nat) (key : Nat → Int) (len : Nat) (z : Nat → Int) : Nat → Int := fun j =>
  if kl = 0 then (if j < len then z j else 0) else if j < 64 then (if j < kl then key j else 0) else if j < 64 + len then z (j - 64) else 0
def bnb (kl len : Nat) : Nat := if btl kl len = 0 then 1 else (btl kl len + 63) / 64
theorem btx_in (kl : Nat) (key : Nat → Int) (len : Nat) (z : Nat → Int) (hk : In 256 kl key) (hz : In 256 len z) (j : Nat) : 0 ≤ btx kl key len z j ∧ btx kl key len z j < 256 := by
  unfold btx
  split
  · split
    · exact hz _ (by assumption)
    · omega
  · split
    · split
      · exact hk _ (by assumption)
      · omega
    · split
      · exact hz _ (by omega)
      · omega
def bh0 (kl size : Nat) : Nat → Int := upd iv 0 (hxr (hxr (hxr (iv 0) 16842752) (256 * (kl : Int))) (size : Int))
theorem bh0_in (kl size : Nat) (hk : kl ≤ 32) (hs : size ≤ 32) : In V 8 (bh0 kl size) := by
  have h := hxr_in _ _ (hxr_in _ _ (hxr_in _ _ (iv_in 0 (by omega)) (show 0 ≤ (16842752 : Int) ∧ (16842752 : Int) < V by decide)) (show 0 ≤ 256 * (kl : Int) ∧ 256 * (kl : Int) < V by simp only [V]; omega)) (show 0 ≤ (size : Int) ∧ (size : Int) < V by simp only [V]; omega)
  exact iv_in.upd _ _ h.1 h.2
def bH (kl : Nat) (key : Nat → Int) (size len : Nat) (z : Nat → Int) : Nat → Nat → Int
  | 0 => bh0 kl size
  | i + 1 => bpr (bH kl key size len z i) (fun j => btx kl key len z (64 * i + j)) ((min (64 * i + 64) (btl kl len) : Nat) : Int) (decide (i + 1 = bnb kl len))
theorem bH_in (kl : Nat) (key : Nat → Int) (size len : Nat) (z : Nat → Int) (hk : kl ≤ 32) (hs : size ≤ 32) : ∀ i, In V 8 (bH kl key size len z i)
  | 0 => bh0_in kl size hk hs
  | i + 1 => bpr_in _ _ _ _ (bH_in kl key size len z hk hs i)
/-- A text's hash. -/
def bsum (kl : Nat) (key : Nat → Int) (size len : Nat) (z : Nat → Int) : Nat → Int := fun j => b32 (bH kl key size len z (bnb kl len) (j / 4)) (j % 4)
theorem bsum_in (kl : Nat) (key : Nat → Int) (size len : Nat) (z : Nat → Int) (n : Nat) : In 256 n (bsum kl key size len z) := fun j _ => b32_in _ _ (Nat.mod_lt _ (by decide))
def bhash (len : Nat) (z : Nat → Int) : Nat → Int := bsum 0 (fun _ => 0) 32 len z
theorem bAt_six0 (m : Nat → Int) (s : Nat → Nat) (x0 x1 x2 x3 x4 x5 x6 x7 x8 x9 x10 x11 x12 x13 x14 x15 : Int) : bAt m s (six x0 x1 x2 x3 x4 x5 x6 x7 x8 x9 x10 x11 x12 x13 x14 x15) 0 = six (bA x0 x4 x8 x12 (m (s 0)) (m (s 1))) x1 x2 x3 (bB x0 x4 x8 x12 (m (s 0)) (m (s 1))) x5 x6 x7 (bC x0 x4 x8 x12 (m (s 0)) (m (s 1))) x9 x10 x11 (bD x0 x4 x8 x12 (m (s 0)) (m (s 1))) x13 x14 x15 := by
  show upd (upd (upd (upd (six x0 x1 x2 x3 x4 x5 x6 x7 x8 x9 x10 x11 x12 x13 x14 x15) 0 (bA x0 x4 x8 x12 (m (s 0)) (m (s 1)))) 4 (bB x0 x4 x8 x12 (m (s 0)) (m (s 1)))) 8 (bC x0 x4 x8 x12 (m (s 0)) (m (s 1)))) 12 (bD x0 x4 x8 x12 (m (s 0)) (m (s 1))) = _
  rw [upd_six0, upd_six4, upd_six8, upd_six12]
theorem bAt_six1 (m : Nat → Int) (s : Nat → Nat) (x0 x1 x2 x3 x4 x5 x6 x7 x8 x9 x10 x11 x12 x13 x14 x15 : Int) : bAt m s (six x0 x1 x2 x3 x4 x5 x6 x7 x8 x9 x10 x11 x12 x13 x14 x15) 1 = six x0 (bA x1 x5 x9 x13 (m (s 2)) (m (s 3))) x2 x3 x4 (bB x1 x5 x9 x13 (m (s 2)) (m (s 3))) x6 x7 x8 (bC x1 x5 x9 x13 (m (s 2)) (m (s 3))) x10 x11 x12 (bD x1 x5 x9 x13 (m (s 2)) (m (s 3))) x14 x15 := by
  show upd (upd (upd (upd (six x0 x1 x2 x3 x4 x5 x6 x7 x8 x9 x10 x11 x12 x13 x14 x15) 1 (bA x1 x5 x9 x13 (m (s 2)) (m (s 3)))) 5 (bB x1 x5 x9 x13 (m (s 2)) (m (s 3)))) 9 (bC x1 x5 x9 x13 (m (s 2)) (m (s 3)))) 13 (bD x1 x5 x9 x13 (m (s 2)) (m (s 3))) = _
  rw [upd_six1, upd_six5, upd_six9, upd_six13]
theorem bAt_six2 (m : Nat → Int) (s : Nat → Nat) (x0 x1 x2 x3 x4 x5 x6 x7 x8 x9 x10 x11 x12 x13 x14 x15 : Int) : bAt m s (six x0 x1 x2 x3 x4 x5 x6 x7 x8 x9 x10 x11 x12 x13 x14 x15) 2 = six x0 x1 (bA x2 x6 x10 x14 (m (s 4)) (m (s 5))) x3 x4 x5 (bB x2 x6 x10 x14 (m (s 4)) (m (s 5))) x7 x8 x9 (bC x2 x6 x10 x14 (m (s 4)) (m (s 5))) x11 x12 x13 (bD x2 x6 x10 x14 (m (s 4)) (m (s 5))) x15 := by
  show upd (upd (upd (upd (six x0 x1 x2 x3 x4 x5 x6 x7 x8 x9 x10 x11 x12 x13 x14 x15) 2 (bA x2 x6 x10 x14 (m (s 4)) (m (s 5)))) 6 (bB x2 x6 x10 x14 (m (s 4)) (m (s 5)))) 10 (bC x2 x6 x10 x14 (m (s 4)) (m (s 5)))) 14 (bD x2 x6 x10 x14 (m (s 4)) (m (s 5))) = _
  rw [upd_six2, upd_six6, upd_six10, upd_six14]
theorem bAt_six3 (m : Nat → Int) (s : Nat → Nat) (x0 x1 x2 x3 x4 x5 x6 x7 x8 x9 x10 x11 x12 x13 x14 x15 : Int) : bAt m s (six x0 x1 x2 x3 x4 x5 x6 x7 x8 x9 x10 x11 x12 x13 x14 x15) 3 = six x0 x1 x2 (bA x3 x7 x11 x15 (m (s 6)) (m (s 7))) x4 x5 x6 (bB x3 x7 x11 x15 (m (s 6)) (m (s 7))) x8 x9 x10 (bC x3 x7 x11 x15 (m (s 6)) (m (s 7))) x12 x13 x14 (bD x3 x7 x11 x15 (m (s 6)) (m (s 7))) := by
  show upd (upd (upd (upd (six x0 x1 x2 x3 x4 x5 x6 x7 x8 x9 x10 x11 x12 x13 x14 x15) 3 (bA x3 x7 x11 x15 (m (s 6)) (m (s 7)))) 7 (bB x3 x7 x11 x15 (m (s 6)) (m (s 7)))) 11 (bC x3 x7 x11 x15 (m (s 6)) (m (s 7)))) 15 (bD x3 x7 x11 x15 (m (s 6)) (m (s 7))) = _
  rw [upd_six3, upd_six7, upd_six11, upd_six15]
theorem bAt_six4 (m : Nat → Int) (s : Nat → Nat) (x0 x1 x2 x3 x4 x5 x6 x7 x8 x9 x10 x11 x12 x13 x14 x15 : Int) : bAt m s (six x0 x1 x2 x3 x4 x5 x6 x7 x8 x9 x10 x11 x12 x13 x14 x15) 4 = six (bA x0 x5 x10 x15 (m (s 8)) (m (s 9))) x1 x2 x3 x4 (bB x0 x5 x10 x15 (m (s 8)) (m (s 9))) x6 x7 x8 x9 (bC x0 x5 x10 x15 (m (s 8)) (m (s 9))) x11 x12 x13 x14 (bD x0 x5 x10 x15 (m (s 8)) (m (s 9))) := by
  show upd (upd (upd (upd (six x0 x1 x2 x3 x4 x5 x6 x7 x8 x9 x10 x11 x12 x13 x14 x15) 0 (bA x0 x5 x10 x15 (m (s 8)) (m (s 9)))) 5 (bB x0 x5 x10 x15 (m (s 8)) (m (s 9)))) 10 (bC x0 x5 x10 x15 (m (s 8)) (m (s 9)))) 15 (bD x0 x5 x10 x15 (m (s 8)) (m (s 9))) = _
  rw [upd_six0, upd_six5, upd_six10, upd_six15]
theorem bAt_six5 (m : Nat → Int) (s : Nat → Nat) (x0 x1 x2 x3 x4 x5 x6 x7 x8 x9 x10 x11 x12 x13 x14 x15 : Int) : bAt m s (six x0 x1 x2 x3 x4 x5 x6 x7 x8 x9 x10 x11 x12 x13 x14 x15) 5 = six x0 (bA x1 x6 x11 x12 (m (s 10)) (m (s 11))) x2 x3 x4 x5 (bB x1 x6 x11 x12 (m (s 10)) (m (s 11))) x7 x8 x9 x10 (bC x1 x6 x11 x12 (m (s 10)) (m (s 11))) (bD x1 x6 x11 x12 (m (s 10)) (m (s 11))) x13 x14 x15 := by
  show upd (upd (upd (upd (six x0 x1 x2 x3 x4 x5 x6 x7 x8 x9 x10 x11 x12 x13 x14 x15) 1 (bA x1 x6 x11 x12 (m (s 10)) (m (s 11)))) 6 (bB x1 x6 x11 x12 (m (s 10)) (m (s 11)))) 11 (bC x1 x6 x11 x12 (m (s 10)) (m (s 11)))) 12 (bD x1 x6 x11 x12 (m (s 10)) (m (s 11))) = _
  rw [upd_six1, upd_six6, upd_six11, upd_six12]
theorem bAt_six6 (m : Nat → Int) (s : Nat → Nat) (x0 x1 x2 x3 x4 x5 x6 x7 x8 x9 x10 x11 x12 x13 x14 x15 : Int) : bAt m s (six x0 x1 x2 x3 x4 x5 x6 x7 x8 x9 x10 x11 x12 x13 x14 x15) 6 = six x0 x1 (bA x2 x7 x8 x13 (m (s 12)) (m (s 13))) x3 x4 x5 x6 (bB x2 x7 x8 x13 (m (s 12)) (m (s 13))) (bC x2 x7 x8 x13 (m (s 12)) (m (s 13))) x9 x10 x11 x12 (bD x2 x7 x8 x13 (m (s 12)) (m (s 13))) x14 x15 := by
  show upd (upd (upd (upd (six x0 x1 x2 x3 x4 x5 x6 x7 x8 x9 x10 x11 x12 x13 x14 x15) 2 (bA x2 x7 x8 x13 (m (s 12)) (m (s 13)))) 7 (bB x2 x7 x8 x13 (m (s 12)) (m (s 13)))) 8 (bC x2 x7 x8 x13 (m (s 12)) (m (s 13)))) 13 (bD x2 x7 x8 x13 (m (s 12)) (m (s 13))) = _
  rw [upd_six2, upd_six7, upd_six8, upd_six13]
theorem bAt_six7 (m : Nat → Int) (s : Nat → Nat) (x0 x1 x2 x3 x4 x5 x6 x7 x8 x9 x10 x11 x12 x13 x14 x15 : Int) : bAt m s (six x0 x1 x2 x3 x4 x5 x6 x7 x8 x9 x10 x11 x12 x13 x14 x15) 7 = six x0 x1 x2 (bA x3 x4 x9 x14 (m (s 14)) (m (s 15))) (bB x3 x4 x9 x14 (m (s 14)) (m (s 15))) x5 x6 x7 x8 (bC x3 x4 x9 x14 (m (s 14)) (m (s 15))) x10 x11 x12 x13 (bD x3 x4 x9 x14 (m (s 14)) (m (s 15))) x15 := by
  show upd (upd (upd (upd (six x0 x1 x2 x3 x4 x5 x6 x7 x8 x9 x10 x11 x12 x13 x14 x15) 3 (bA x3 x4 x9 x14 (m (s 14)) (m (s 15)))) 4 (bB x3 x4 x9 x14 (m (s 14)) (m (s 15)))) 9 (bC x3 x4 x9 x14 (m (s 14)) (m (s 15)))) 14 (bD x3 x4 x9 x14 (m (s 14)) (m (s 15))) = _
  rw [upd_six3, upd_six4, upd_six9, upd_six14]
/-- A row's eight mixings, each number reckoned at once. -/
def evb8 {α : Type} (m : Nat → Int) (s : Nat → Nat) (x0 x1 x2 x3 x4 x5 x6 x7 x8 x9 x10 x11 x12 x13 x14 x15 : Int) (f : Int → Int → Int → Int → Int → Int → Int → Int → Int → Int → Int → Int → Int → Int → Int → Int → α) : α :=
  forceI (had (had x0 x4) (m (s 0))) fun x0 => forceI (hrl 16 (hxr x12 x0)) fun x12 => forceI (had x8 x12) fun x8 => forceI (hrl 20 (hxr x4 x8)) fun x4 =>
  forceI (had (had x0 x4) (m (s 1))) fun x0 => forceI (hrl 24 (hxr x12 x0)) fun x12 => forceI (had x8 x12) fun x8 => forceI (hrl 25 (hxr x4 x8)) fun x4 =>
  forceI (had (had x1 x5) (m (s 2))) fun x1 => forceI (hrl 16 (hxr x13 x1)) fun x13 => forceI (had x9 x13) fun x9 => forceI (hrl 20 (hxr x5 x9)) fun x5 =>
  forceI (had (had x1 x5) (m (s 3))) fun x1 => forceI (hrl 24 (hxr x13 x1)) fun x13 => forceI (had x9 x13) fun x9 => forceI (hrl 25 (hxr x5 x9)) fun x5 =>
  forceI (had (had x2 x6) (m (s 4))) fun x2 => forceI (hrl 16 (hxr x14 x2)) fun x14 => forceI (had x10 x14) fun x10 => forceI (hrl 20 (hxr x6 x10)) fun x6 =>
  forceI (had (had x2 x6) (m (s 5))) fun x2 => forceI (hrl 24 (hxr x14 x2)) fun x14 => forceI (had x10 x14) fun x10 => forceI (hrl 25 (hxr x6 x10)) fun x6 =>
  forceI (had (had x3 x7) (m (s 6))) fun x3 => forceI (hrl 16 (hxr x15 x3)) fun x15 => forceI (had x11 x15) fun x11 => forceI (hrl 20 (hxr x7 x11)) fun x7 =>
  forceI (had (had x3 x7) (m (s 7))) fun x3 => forceI (hrl 24 (hxr x15 x3)) fun x15 => forceI (had x11 x15) fun x11 => forceI (hrl 25 (hxr x7 x11)) fun x7 =>
  forceI (had (had x0 x5) (m (s 8))) fun x0 => forceI (hrl 16 (hxr x15 x0)) fun x15 => forceI (had x10 x15) fun x10 => forceI (hrl 20 (hxr x5 x10)) fun x5 =>
  forceI (had (had x0 x5) (m (s 9))) fun x0 => forceI (hrl 24 (hxr x15 x0)) fun x15 => forceI (had x10 x15) fun x10 => forceI (hrl 25 (hxr x5 x10)) fun x5 =>
  forceI (had (had x1 x6) (m (s 10))) fun x1 => forceI (hrl 16 (hxr x12 x1)) fun x12 => forceI (had x11 x12) fun x11 => forceI (hrl 20 (hxr x6 x11)) fun x6 =>
  forceI (had (had x1 x6) (m (s 11))) fun x1 => forceI (hrl 24 (hxr x12 x1)) fun x12 => forceI (had x11 x12) fun x11 => forceI (hrl 25 (hxr x6 x11)) fun x6 =>
  forceI (had (had x2 x7) (m (s 12))) fun x2 => forceI (hrl 16 (hxr x13 x2)) fun x13 => forceI (had x8 x13) fun x8 => forceI (hrl 20 (hxr x7 x8)) fun x7 =>
  forceI (had (had x2 x7) (m (s 13))) fun x2 => forceI (hrl 24 (hxr x13 x2)) fun x13 => forceI (had x8 x13) fun x8 => forceI (hrl 25 (hxr x7 x8)) fun x7 =>
  forceI (had (had x3 x4) (m (s 14))) fun x3 => forceI (hrl 16 (hxr x14 x3)) fun x14 => forceI (had x9 x14) fun x9 => forceI (hrl 20 (hxr x4 x9)) fun x4 =>
  forceI (had (had x3 x4) (m (s 15))) fun x3 => forceI (hrl 24 (hxr x14 x3)) fun x14 => forceI (had x9 x14) fun x9 => forceI (hrl 25 (hxr x4 x9)) fun x4 =>
  f x0 x1 x2 x3 x4 x5 x6 x7 x8 x9 x10 x11 x12 x13 x14 x15
def evF (m : Nat → Int) : Nat → Nat → Int → Int → Int → Int → Int → Int → Int → Int → Int → Int → Int → Int → Int → Int → Int → Int → Nat → Int
  | 0, _, x0, x1, x2, x3, x4, x5, x6, x7, x8, x9, x10, x11, x12, x13, x14, x15 => six x0 x1 x2 x3 x4 x5 x6 x7 x8 x9 x10 x11 x12 x13 x14 x15
  | n + 1, r, x0, x1, x2, x3, x4, x5, x6, x7, x8, x9, x10, x11, x12, x13, x14, x15 => evb8 m (sg r) x0 x1 x2 x3 x4 x5 x6 x7 x8 x9 x10 x11 x12 x13 x14 x15 (evF m n (r + 1))
/-- So many rows, from one on. -/
def bF (m : Nat → Int) : Nat → Nat → (Nat → Int) → Nat → Int
  | 0, _, v => v
  | n + 1, r, v => bF m n (r + 1) (bN m (sg r) v 8)
theorem bF_eq (m v : Nat → Int) : ∀ n r, bF m n r (bR m v r) = bR m v (r + n)
  | 0, _ => rfl
  | n + 1, r => by
    show bF m n (r + 1) (bR m v (r + 1)) = _
    rw [bF_eq m v n (r + 1), show r + 1 + n = r + (n + 1) by omega]
theorem evF_eq (m : Nat → Int) : ∀ (n r : Nat) (x0 x1 x2 x3 x4 x5 x6 x7 x8 x9 x10 x11 x12 x13 x14 x15 : Int), evF m n r x0 x1 x2 x3 x4 x5 x6 x7 x8 x9 x10 x11 x12 x13 x14 x15 = bF m n r (six x0 x1 x2 x3 x4 x5 x6 x7 x8 x9 x10 x11 x12 x13 x14 x15)
  | 0, _, _, _, _, _, _, _, _, _, _, _, _, _, _, _, _, _ => rfl
  | n + 1, r, x0, x1, x2, x3, x4, x5, x6, x7, x8, x9, x10, x11, x12, x13, x14, x15 => by
    show evb8 m (sg r) x0 x1 x2 x3 x4 x5 x6 x7 x8 x9 x10 x11 x12 x13 x14 x15 (evF m n (r + 1)) = bF m n (r + 1) (bAt m (sg r) (bAt m (sg r) (bAt m (sg r) (bAt m (sg r) (bAt m (sg r) (bAt m (sg r) (bAt m (sg r) (bAt m (sg r) (six x0 x1 x2 x3 x4 x5 x6 x7 x8 x9 x10 x11 x12 x13 x14 x15) 0) 1) 2) 3) 4) 5) 6) 7)
    rw [bAt_six0, bAt_six1, bAt_six2, bAt_six3, bAt_six4, bAt_six5, bAt_six6, bAt_six7, ← evF_eq m n (r + 1)]
    simp only [evb8, forceI_eq]
    rfl
/-- One piece, reckoned. -/
def evP (h z : Nat → Int) (t : Int) (last : Bool) : Nat → Int := fun i => hxr (hxr (h i) (evF (bpw z) 10 0 (h 0) (h 1) (h 2) (h 3) (h 4) (h 5) (h 6) (h 7) (iv 0) (iv 1) (iv 2) (iv 3) (hxr (iv 4) (t % 4294967296)) (hxr (iv 5) (t / 4294967296 % 4294967296)) (if last then 4294967295 - iv 6 else iv 6) (iv 7) i))
  (evF (bpw z) 10 0 (h 0) (h 1) (h 2) (h 3) (h 4) (h 5) (h 6) (h 7) (iv 0) (iv 1) (iv 2) (iv 3) (hxr (iv 4) (t % 4294967296)) (hxr (iv 5) (t / 4294967296 % 4294967296)) (if last then 4294967295 - iv 6 else iv 6) (iv 7) (i + 8))
theorem evP_eq (h z : Nat → Int) (t : Int) (last : Bool) : bpr h z t last = evP h z t last := by
  have e : ∀ v, bR (bpw z) v 10 = bF (bpw z) 10 0 v := fun v => (bF_eq (bpw z) v 10 0).symm
  funext i
  unfold bpr evP bst
  rw [e, evF_eq]
/-- The examples. -/
def zabc : Nat → Int := bl [97, 98, 99]
theorem hash_abc : bhash 3 zabc 0 = 0x50 ∧ bhash 3 zabc 1 = 0x8c ∧ bhash 3 zabc 30 = 0x59 ∧ bhash 3 zabc 31 = 0x82 := by
  have e : bH 0 (fun _ => 0) 32 3 zabc 1 = evP (bh0 0 32) (fun j => btx 0 (fun _ => 0) 3 zabc (64 * 0 + j)) 3 true := evP_eq _ _ _ _
  have e0 : ∀ j, bhash 3 zabc j = b32 (bH 0 (fun _ => 0) 32 3 zabc 1 (j / 4)) (j % 4) := fun _ => rfl
  rw [e0, e0, e0, e0, e]
  decide +kernel
theorem hash_none (z : Nat → Int) : bhash 0 z 0 = 0x69 ∧ bhash 0 z 1 = 0x21 ∧ bhash 0 z 31 = 0xf9 := by
  have e : bH 0 (fun _ => 0) 32 0 z 1 = evP (bh0 0 32) (fun _ => 0) 0 true := by
    rw [← evP_eq]
    show bpr (bh0 0 32) (fun j => btx 0 (fun _ => 0) 0 z (64 * 0 + j)) 0 true = _
    congr 1
  have e0 : ∀ j, bhash 0 z j = b32 (bH 0 (fun _ => 0) 32 0 z 1 (j / 4)) (j % 4) := fun _ => rfl
  rw [e0, e0, e0, e]
  decide +kernel
end Go.Proofs.YtmchfdfmcobenaaDoor
