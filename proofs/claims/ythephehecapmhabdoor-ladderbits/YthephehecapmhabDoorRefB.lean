/- What the document's own reduce comes to: the least bytes of a number of 32 digits. -/
import Derived.Test.YthephehecapmhabDoorRefA
namespace Go.Proofs.YthephehecapmhabDoor
open Go.RowKit

/-- The digits lie in their block, room for the answer in another. -/
structure RS (f : Nat → Int) (B : Nat) (w w' : World) : Prop where
  ht : Has w' B .i64 32 f
  hr : Has w' w.heap.size .u8 32 (fun _ => 0)
  below : Below B w w'
  size : w.heap.size + 1 ≤ w'.heap.size
theorem RS.drew {f : Nat → Int} {B : Nat} {w w' : World} (h : RS f B w w') : RS f B w w'.drew := ⟨h.ht.drew, h.hr.drew, h.below.drew, h.size⟩
theorem RS.drewN {f : Nat → Int} {B : Nat} {w w' : World} (h : RS f B w w') {q : Nat} : RS f B w (w'.drewN q) := ⟨h.ht.drewN, h.hr.drewN, ⟨h.below.os, h.below.tape, h.below.output, h.below.size, h.below.block⟩, h.size⟩
theorem RS.set {f : Nat → Int} {B : Nat} {w w' : World} (h : RS f B w w') (hB : B < w.heap.size) (k : Nat) (hk : k < 32) (x : Int) : RS (upd f k x) B w (w'.setCell ⟨B, k, none⟩ (.int .i64 x)) :=
  ⟨h.ht.set k hk x, h.hr.set_other _ _ (by simp; omega), h.below.setCell (by simp) _, by have := h.size; simp; omega⟩
theorem RS.call {f : Nat → Int} {B : Nat} {w w' w'' : World} (h : RS f B w w') (hB : B < w.heap.size) (l : Below w'.heap.size w' w'') : RS f B w w'' :=
  ⟨h.ht.below l (by have := h.size; omega), h.hr.below l (by have := h.size; omega), h.below.trans (l.mono (by have := h.size; omega)), by have := h.size; have := l.size; omega⟩

/-- Behind the first loop's rounds up to m. -/
def F1 (f : Nat → Int) (m : Nat) : Nat → Int := fun j => if j < m then f j + 38 * f (j + 16) else f j
theorem F1_step (f : Nat → Int) (m : Nat) : upd (F1 f m) m (F1 f m m + 38 * F1 f m (m + 16)) = F1 f (m + 1) := by
  funext j
  unfold upd F1
  by_cases e : j = m
  · subst e
    have h : ¬ j + 16 < j := by omega
    simp [h]
  · rw [if_neg e]
    by_cases h : j < m
    · rw [if_pos h, if_pos (by omega)]
    · rw [if_neg h, if_neg (by omega)]

theorem val_add (M : Int) (f g : Nat → Int) (c : Int) : ∀ n, val M (fun j => f j + c * g j) n = val M f n + c * val M g n
  | 0 => by simp [val]
  | n + 1 => by
    simp only [val]
    rw [val_add M f g c n, Int.mul_add, Int.mul_add, Int.mul_left_comm]
    omega
theorem val_split (M : Int) (f : Nat → Int) (n : Nat) : ∀ k, val M f (n + k) = val M f n + M ^ n * val M (fun j => f (j + n)) k
  | 0 => by simp [val]
  | k + 1 => by
    rw [← Nat.add_assoc, val_succ, val_succ, val_split M f n k, Int.mul_add, ← Int.mul_assoc, Int.pow_add, Nat.add_comm k n]
    omega
theorem D16 : D ^ 16 = 115792089237316195423570985008687907853269984665640564039457584007913129639936 := by decide
theorem F1_val (f : Nat → Int) : val D (F1 f 16) 16 % Q = val D f 32 % Q := by
  have e : val D (F1 f 16) 16 = val D f 16 + 38 * val D (fun j => f (j + 16)) 16 := by
    rw [← val_add]
    exact val_congr D 16 fun j hj => by unfold F1; rw [if_pos hj]
  rw [e, val_split D f 16 16, D16]
  simp only [Q]
  omega

/-- The number in a block, as the world has it. -/
def num (B : Nat) (w : World) : Int := val D (fun j => match w.cell? ⟨B, j, none⟩ with | some (.int _ n) => n | _ => 0) 16
theorem num_eq {w : World} {B : Nat} {f : Nat → Int} (h : Has w B .i64 32 f) : num B w = val D f 16 := val_congr D 16 fun j hj => by rw [h.cell j (by omega)]
/-- What the rounds of the second loop lower. -/
def mu2 (B : Nat) (r : Value) (w : World) : Nat := 2 * (num B w).toNat + (if 0 < intOf r then 1 else 0)
def mu4 (B : Nat) (w : World) : Nat := (num B w).toNat

structure R2 (v : Int) (r : Int) (f : Nat → Int) (B : Nat) (w w' : World) : Prop where
  r0 : 0 ≤ r
  big : ∀ j, j < 16 → 0 ≤ f j ∧ f j ≤ 70368744177664
  eq : val D f 16 % Q = v % Q
  inn : r = 0 → In D 16 f
  rs : RS f B w w'

structure R3 (f : Nat → Int) (k : Nat) (r : Int) (g : Nat → Int) (B : Nat) (w w' : World) : Prop where
  r0 : 0 ≤ r
  r1 : r ≤ 2147483648
  done : ∀ j, j < k → 0 ≤ g j ∧ g j < 65536
  rest : ∀ j, k ≤ j → g j = f j
  eq : val D g k + D ^ k * r = val D f k
  rs : RS g B w w'
theorem R3.step {f : Nat → Int} {k : Nat} {r : Int} {g : Nat → Int} {B : Nat} {w w' : World} (h : R3 f k r g B w w') (hB : B < w.heap.size) (hk : k < 16) (hf : ∀ j, j < 16 → 0 ≤ f j ∧ f j ≤ 70368744177664) :
    R3 f (k + 1) ((r + g k) / 65536) (upd g k ((r + g k) % 65536)) B w (w'.setCell ⟨B, k, none⟩ (.int .i64 ((r + g k) % 65536))) := by
  have r0 := h.r0; have r1 := h.r1
  have e0 := h.rest k (Nat.le_refl k)
  have b := hf k hk
  rw [← e0] at b
  refine ⟨by omega, by omega, fun j hj => ?_, fun j hj => ?_, ?_, h.rs.set hB k (by omega) _⟩
  · by_cases e : j = k
    · subst e; rw [upd_same]; omega
    · rw [upd_other _ _ _ _ e]; exact h.done j (by omega)
  · rw [upd_other _ _ _ _ (by omega)]; exact h.rest j (by omega)
  · rw [val_succ, val_succ, val_upd _ _ _ _ _ (Nat.le_refl k), upd_same, Int.pow_succ, Int.mul_assoc, ← e0]
    have e1 : D ^ k * ((r + g k) % 65536) + D ^ k * (D * ((r + g k) / 65536)) = D ^ k * r + D ^ k * g k := by
      rw [← Int.mul_add, ← Int.mul_add]
      congr 1
      simp only [D]
      omega
    have e2 := h.eq
    omega
theorem R3.next {v : Int} {f : Nat → Int} {r r0 : Int} {g : Nat → Int} {B : Nat} {w w0 w' : World} (h : R3 f 16 r g B w w') (hB : B < w.heap.size) (h2 : R2 v r0 f B w w0) :
    R2 v r (upd g 0 (g 0 + 38 * r)) B w (w'.setCell ⟨B, 0, none⟩ (.int .i64 (g 0 + 38 * r))) := by
  have a0 := h.r0; have a1 := h.r1
  have d0 := h.done 0 (by omega)
  refine ⟨a0, fun j hj => ?_, ?_, fun hr => ?_, h.rs.set hB 0 (by omega) _⟩
  · by_cases e : j = 0
    · subst e; rw [upd_same]; omega
    · rw [upd_other _ _ _ _ e]; have := h.done j hj; omega
  · rw [val_upd_in D g 0 _ 16 (by omega), ← h2.eq, ← h.eq, D16, Int.pow_zero, Int.one_mul, Int.one_mul]
    simp only [Q]
    omega
  · subst hr
    have e : upd g 0 (g 0 + 38 * 0) = g := by funext j; unfold upd; split <;> simp_all
    rw [e]
    exact fun j hj => h.done j hj
theorem R3.less {v : Int} {f : Nat → Int} {r r0 : Int} {g : Nat → Int} {B : Nat} {w w0 w' : World} (h : R3 f 16 r g B w w') (hB : B < w.heap.size) (h2 : R2 v r0 f B w w0) (hr : 0 < r0) :
    mu2 B (.int .i64 r) (w'.setCell ⟨B, 0, none⟩ (.int .i64 (g 0 + 38 * r))) < mu2 B (.int .i64 r0) w0 := by
  have e := h.eq
  have a0 := h.r0
  have b := val_in D (by decide) g 16 h.done
  have n1 := num_eq (h.next hB h2).rs.ht
  have n2 := num_eq h2.rs.ht
  rw [val_upd_in D g 0 _ 16 (by omega), Int.pow_zero, Int.one_mul, Int.one_mul] at n1
  rw [D16] at e b
  show 2 * (num B _).toNat + (if 0 < r then 1 else 0) < 2 * (num B w0).toNat + (if 0 < r0 then 1 else 0)
  rw [n1, n2, if_pos hr]
  by_cases h0 : r = 0
  · subst h0; rw [if_neg (by omega)]; omega
  · rw [if_pos (by omega)]; omega

/-- Behind k rounds of taking the prime away. -/
structure R5 (f : Nat → Int) (k : Nat) (l : Int) (g : Nat → Int) (B : Nat) (w w' : World) : Prop where
  l01 : l = 0 ∨ l = -1
  done : ∀ j, j < k → 0 ≤ g j ∧ g j < 65536
  rest : ∀ j, k ≤ j → g j = f j
  eq : val D g k + val D pD k + D ^ k * l = val D f k
  rs : RS g B w w'
theorem R5.step {f : Nat → Int} {k : Nat} {l : Int} {g : Nat → Int} {B : Nat} {w w' : World} (h : R5 f k l g B w w') (hB : B < w.heap.size) (hk : k < 16) (hf : In D 16 f) (l' : Int) (hl : l' = if l + g k - pD k < 0 then -1 else 0) :
    R5 f (k + 1) l' (upd g k ((l + g k - pD k + 131072) % 65536)) B w (w'.setCell ⟨B, k, none⟩ (.int .i64 ((l + g k - pD k + 131072) % 65536))) := by
  have e0 := h.rest k (Nat.le_refl k)
  have b := hf k hk
  have p := pD_in k
  rw [← e0] at b
  have b' : 0 ≤ g k ∧ g k < 65536 := b
  have l01 := h.l01
  have es : (l + g k - pD k + 131072) % 65536 + D * l' = l + g k - pD k := by
    simp only [D]
    rw [hl]
    split <;> omega
  refine ⟨by rw [hl]; split <;> simp, fun j hj => ?_, fun j hj => ?_, ?_, h.rs.set hB k (by omega) _⟩
  · by_cases e : j = k
    · subst e; rw [upd_same]; omega
    · rw [upd_other _ _ _ _ e]; exact h.done j (by omega)
  · rw [upd_other _ _ _ _ (by omega)]; exact h.rest j (by omega)
  · rw [val_succ, val_succ, val_succ, val_upd _ _ _ _ _ (Nat.le_refl k), upd_same, Int.pow_succ, Int.mul_assoc, ← e0]
    have e1 : D ^ k * ((l + g k - pD k + 131072) % 65536) + D ^ k * (D * l') = D ^ k * l + D ^ k * g k - D ^ k * pD k := by
      rw [← Int.mul_add, es, Int.mul_sub, Int.mul_add]
    have e2 := h.eq
    omega
theorem R5.next {f : Nat → Int} {l : Int} {g : Nat → Int} {B : Nat} {w w' : World} (h : R5 f 16 l g B w w') (hf : In D 16 f) (hQ : Q ≤ val D f 16) : In D 16 g ∧ val D g 16 = val D f 16 - Q := by
  have b := val_in D (by decide) g 16 h.done
  have b2 := val_in D (by decide) f 16 hf
  have e := h.eq
  have l01 := h.l01
  rw [val_pD, D16] at e
  rw [D16] at b b2
  simp only [Q] at *
  refine ⟨h.done, ?_⟩
  omega

structure R4 (v : Int) (f : Nat → Int) (B : Nat) (w w' : World) : Prop where
  inn : In D 16 f
  eq : val D f 16 % Q = v % Q
  rs : RS f B w w'

/-- Behind k rounds of writing the bytes. -/
structure R6 (f : Nat → Int) (k : Nat) (h : Nat → Int) (B O : Nat) (w w' : World) : Prop where
  inn : In 256 32 h
  eq : val 256 h (2 * k) = val D f k
  ho : Has w' O .u8 32 h
  rs : RS f B w w'
theorem R6.step {f : Nat → Int} {k : Nat} {h : Nat → Int} {B O : Nat} {w w' : World} (hI : R6 f k h B O w w') (hO : w.heap.size < O) (hB : B < w.heap.size) (hk : k < 16) (hf : In D 16 f) :
    R6 f (k + 1) (upd (upd h (2 * k) (f k % 256)) (2 * k + 1) (f k / 256)) B O w ((w'.setCell ⟨O, 2 * k, none⟩ (.int .u8 (f k % 256))).setCell ⟨O, 2 * k + 1, none⟩ (.int .u8 (f k / 256))) := by
  have b : 0 ≤ f k ∧ f k < 65536 := hf k hk
  refine ⟨(hI.inn.upd _ _ (by omega) (by omega)).upd _ _ (by omega) (by omega), ?_, (hI.ho.set _ (by omega) _).set _ (by omega) _, ⟨(hI.rs.ht.set_other _ _ (by simp; omega)).set_other _ _ (by simp; omega), (hI.rs.hr.set_other _ _ (by simp; omega)).set_other _ _ (by simp; omega), (hI.rs.below.setCell (by simp; omega) _).setCell (by simp; omega) _, by have := hI.rs.size; simp; omega⟩⟩
  have e : 2 * (k + 1) = 2 * k + 1 + 1 := by omega
  have e1 : (256 : Int) ^ (2 * k) = D ^ k := by rw [Int.pow_mul, show (256 : Int) ^ 2 = D from by decide]
  have e2 : (256 : Int) ^ (2 * k + 1) = D ^ k * 256 := by rw [Int.pow_succ, e1]
  rw [e, val_succ, val_succ, val_succ, val_upd _ _ _ _ _ (by omega), val_upd _ _ _ _ _ (Nat.le_refl _), upd_same, upd_other _ _ _ _ (by omega), upd_same, e1, e2, hI.eq, Int.mul_assoc]
  have e3 : D ^ k * f k = D ^ k * (f k % 256) + D ^ k * (256 * (f k / 256)) := by
    rw [← Int.mul_add]
    congr 1
    omega
  rw [e3]
  omega

end Go.Proofs.YthephehecapmhabDoor
