/- The document's own reduce: what its loops keep. -/
import Derived.Test.YtnphoennagmiaaaDoorRd
import Derived.Test.YtnphoennagmiaaaDoorCp
namespace Go.Proofs.YtnphoennagmiaaaDoor
open Go.RowKit

/-- A digit's bound. -/
abbrev D : Int := 67108864
theorem D5 : D ^ 5 = 1361129467683753853853498429727072845824 := by decide

/-- What stands from the fifth digit on counts five times. -/
def addU (f : Nat → Int) (k : Nat) : Nat → Int := fun j => (if j < k ∧ j < 5 then f j else 0) + (if j + 5 < k then 5 * f (j + 5) else 0)
theorem addU_low (f : Nat → Int) (k : Nat) (hk : k < 5) : ∀ j, upd (addU f k) k (addU f k k + f k) j = addU f (k + 1) j := fun j => by
  unfold upd addU
  by_cases e : j = k
  · subst e
    simp [hk]
    omega
  · rw [if_neg e]
    by_cases c : j < k
    · have c2 : j < k + 1 := by omega
      have c3 : ¬ j + 5 < k := by omega
      have c4 : ¬ j + 5 < k + 1 := by omega
      simp [c, c2, c3, c4]
    · have c2 : ¬ j < k + 1 := by omega
      have c3 : ¬ j + 5 < k := by omega
      have c4 : ¬ j + 5 < k + 1 := by omega
      simp [c, c2, c3, c4]
theorem addU_high (f : Nat → Int) (k : Nat) (hk : 5 ≤ k) : ∀ j, upd (addU f k) (k - 5) (addU f k (k - 5) + 5 * f k) j = addU f (k + 1) j := fun j => by
  unfold upd addU
  by_cases e : j = k - 5
  · subst e
    have c0 : ¬ k - 5 + 5 < k := by omega
    have c1 : k - 5 + 5 < k + 1 := by omega
    have c2 : k - 5 + 5 = k := by omega
    have c3 : k - 5 < k := by omega
    have c4 : k - 5 < k + 1 := by omega
    rw [if_pos rfl, if_neg c0, if_pos c1, c2, Int.add_zero]
    by_cases c5 : k - 5 < 5
    · rw [if_pos ⟨c3, c5⟩, if_pos ⟨c4, c5⟩]
    · rw [if_neg (fun h => c5 h.2), if_neg (fun h => c5 h.2)]
  · rw [if_neg e]
    have c1 : (j < k ∧ j < 5) ↔ (j < k + 1 ∧ j < 5) := by omega
    have c2 : (j + 5 < k) ↔ (j + 5 < k + 1) := by omega
    simp only [c1, c2]
theorem addU_in (f : Nat → Int) (n k : Nat) (M : Int) (hn : 0 < n) (hf : ∀ j, j < n → 0 ≤ f j ∧ f j ≤ M) (hk : k ≤ n) (j : Nat) : 0 ≤ addU f k j ∧ addU f k j ≤ 6 * M := by
  unfold addU
  have hM := hf 0 (by omega)
  by_cases c1 : j < k ∧ j < 5
  · have a := hf j (by omega)
    by_cases c2 : j + 5 < k
    · have b := hf (j + 5) (by omega)
      rw [if_pos c1, if_pos c2]; omega
    · rw [if_pos c1, if_neg c2]; omega
  · by_cases c2 : j + 5 < k
    · have b := hf (j + 5) (by omega)
      rw [if_neg c1, if_pos c2]; omega
    · rw [if_neg c1, if_neg c2]; omega
theorem fold_mod (l h : Int) : (l + 5 * h) % Q = (l + 1361129467683753853853498429727072845824 * h) % Q := by simp only [Q]; omega
theorem addU_val6 (f : Nat → Int) : val D (addU f 6) 5 % Q = val D f 6 % Q := by
  have e : val D (addU f 6) 5 = val D f 5 + 5 * f 5 := by
    simp [val, addU]
    simp only [D]
    omega
  have e2 : val D f 6 = val D f 5 + D ^ 5 * f 5 := rfl
  rw [e, e2, D5, fold_mod]
theorem addU_val11 (f : Nat → Int) : val D (addU f 11) 6 % Q = val D f 11 % Q := by
  have e : val D (addU f 11) 6 = val D f 5 + 5 * val D (fun j => f (5 + j)) 6 := by
    simp [val, addU]
    simp only [D]
    omega
  have e2 := val_split D f 5 6
  rw [show (5 + 6 : Nat) = 11 from rfl, D5] at e2
  rw [e, e2, fold_mod]

/-- The number in a block, as the world has it. -/
def num (B : Nat) (w : World) : Int := val D (fun j => match w.cell? ⟨B, j, none⟩ with | some (.int _ n) => n | _ => 0) 5
theorem num_eq {w : World} {B : Nat} {f : Nat → Int} (h : Has w B .i64 5 f) : num B w = val D f 5 := val_congr D 5 fun j hj => by rw [h.cell j (by omega)]
def mu2 (B : Nat) (r : Value) (w : World) : Nat := 2 * (num B w).toNat + (if 0 < intOf r then 1 else 0)

/-- The digits lie in their block, room for the answer in another. -/
structure RS (f : Nat → Int) (w w' : World) : Prop where
  hd : Has w' (w.heap.size + 1) .i64 5 f
  hr : Has w' w.heap.size .u8 17 (fun _ => 0)
  fr : Fr w 2 w'
theorem RS.set {f : Nat → Int} {w w' : World} (h : RS f w w') (k : Nat) (hk : k < 5) (x : Int) : RS (upd f k x) w (w'.setCell ⟨w.heap.size + 1, k, none⟩ (.int .i64 x)) :=
  ⟨h.hd.set k hk x, h.hr.set_other _ _ (by simp), h.fr.set _ _ (by simp)⟩

/-- Ahead of the while loop's rounds. -/
structure RA (v : Int) (n B : Nat) (f : Nat → Int) (w w' : World) : Prop where
  cs : n = 5 ∨ n = 6 ∨ n = 11
  big : ∀ j, j < n → 0 ≤ f j ∧ f j ≤ (if n = 11 then 72057594037927936 else if n = 6 then 432345564227567616 else 2594073385365405696)
  eq : val D f n % Q = v % Q
  ht : Has w' B .i64 n f
  hB : B < w'.heap.size
  ne : B ≠ w.heap.size ∧ B ≠ w.heap.size + 1
  rs : RS (fun _ => 0) w w'

/-- Behind k rounds of the loop that folds. -/
structure UI (n B U : Nat) (f : Nat → Int) (m k : Nat) (w w' : World) : Prop where
  ht : Has w' B .i64 n f
  hu : Has w' U .i64 m (addU f k)
  hB : B < w'.heap.size
  hU : U < w'.heap.size
  rs : RS (fun _ => 0) w w'
theorem UI.low {n B U : Nat} {f : Nat → Int} {m k : Nat} {w w' : World} (h : UI n B U f m k w w') (hk : k < 5) (hm : 5 ≤ m) (hne : U ≠ B) (hlo : w.heap.size + 2 ≤ U) :
    UI n B U f m (k + 1) w ((w'.setCell ⟨U, k, none⟩ (.int .i64 (addU f k k + f k))).drew) :=
  ⟨(h.ht.set_other _ _ (by simpa using hne)).drew, (Has.congr (h.hu.set k (by omega) _) fun j _ => addU_low f k hk j).drew, by have := h.hB; simpa using this, by have := h.hU; simpa using this, ⟨(h.rs.hd.set_other _ _ (by simp; omega)).drew, (h.rs.hr.set_other _ _ (by simp; omega)).drew, (h.rs.fr.set _ _ (by simp; omega)).drew⟩⟩
theorem UI.high {n B U : Nat} {f : Nat → Int} {m k : Nat} {w w' : World} (h : UI n B U f m k w w') (hk : 5 ≤ k) (hkm : k - 5 < m) (hne : U ≠ B) (hlo : w.heap.size + 2 ≤ U) :
    UI n B U f m (k + 1) w ((w'.setCell ⟨U, k - 5, none⟩ (.int .i64 (addU f k (k - 5) + 5 * f k))).drew) :=
  ⟨(h.ht.set_other _ _ (by simpa using hne)).drew, (Has.congr (h.hu.set (k - 5) hkm _) fun j _ => addU_high f k hk j).drew, by have := h.hB; simpa using this, by have := h.hU; simpa using this, ⟨(h.rs.hd.set_other _ _ (by simp; omega)).drew, (h.rs.hr.set_other _ _ (by simp; omega)).drew, (h.rs.fr.set _ _ (by simp; omega)).drew⟩⟩

/-- Behind k rounds of the loop that copies. -/
structure CI (B : Nat) (f : Nat → Int) (k : Nat) (g : Nat → Int) (w w' : World) : Prop where
  done : ∀ j, j < k → g j = f j
  ht : Has w' B .i64 5 f
  rs : RS g w w'
theorem CI.step {B : Nat} {f : Nat → Int} {k : Nat} {g : Nat → Int} {w w' : World} (h : CI B f k g w w') (hk : k < 5) (ne : B ≠ w.heap.size + 1) : CI B f (k + 1) (upd g k (f k)) w (w'.setCell ⟨w.heap.size + 1, k, none⟩ (.int .i64 (f k))) := by
  refine ⟨fun j hj => ?_, h.ht.set_other _ _ (by simp; omega), h.rs.set k hk _⟩
  by_cases e : j = k
  · subst e; rw [upd_same]
  · rw [upd_other _ _ _ _ e]; exact h.done j (by omega)

structure R2 (v : Int) (r : Int) (f : Nat → Int) (w w' : World) : Prop where
  r0 : 0 ≤ r
  big : ∀ j, j < 5 → 0 ≤ f j ∧ f j ≤ 2594073385365405696
  eq : val D f 5 % Q = v % Q
  inn : r = 0 → In D 5 f
  rs : RS f w w'
structure R3 (f : Nat → Int) (k : Nat) (r : Int) (g : Nat → Int) (w w' : World) : Prop where
  r0 : 0 ≤ r
  r1 : r ≤ 137438953472
  done : ∀ j, j < k → 0 ≤ g j ∧ g j < 67108864
  rest : ∀ j, k ≤ j → g j = f j
  eq : val D g k + D ^ k * r = val D f k
  rs : RS g w w'
theorem R3.step {f : Nat → Int} {k : Nat} {r : Int} {g : Nat → Int} {w w' : World} (h : R3 f k r g w w') (hk : k < 5) (hf : ∀ j, j < 5 → 0 ≤ f j ∧ f j ≤ 2594073385365405696) :
    R3 f (k + 1) ((r + g k) / 67108864) (upd g k ((r + g k) % 67108864)) w (w'.setCell ⟨w.heap.size + 1, k, none⟩ (.int .i64 ((r + g k) % 67108864))) := by
  have r0 := h.r0; have r1 := h.r1
  have e0 := h.rest k (Nat.le_refl k)
  have b := hf k hk
  rw [← e0] at b
  refine ⟨by omega, by omega, fun j hj => ?_, fun j hj => ?_, ?_, h.rs.set k (by omega) _⟩
  · by_cases e : j = k
    · subst e; rw [upd_same]; omega
    · rw [upd_other _ _ _ _ e]; exact h.done j (by omega)
  · rw [upd_other _ _ _ _ (by omega)]; exact h.rest j (by omega)
  · rw [val_succ, val_succ, val_upd _ _ _ _ _ (Nat.le_refl k), upd_same, Int.pow_succ, Int.mul_assoc, ← e0]
    have e1 : D ^ k * ((r + g k) % 67108864) + D ^ k * (D * ((r + g k) / 67108864)) = D ^ k * r + D ^ k * g k := by
      rw [← Int.mul_add, ← Int.mul_add]
      congr 1
      simp only [D]
      omega
    have e2 := h.eq
    omega
theorem R3.next {v : Int} {f : Nat → Int} {r r0 : Int} {g : Nat → Int} {w w0 w' : World} (h : R3 f 5 r g w w') (h2 : R2 v r0 f w w0) :
    R2 v r (upd g 0 (g 0 + 5 * r)) w (w'.setCell ⟨w.heap.size + 1, 0, none⟩ (.int .i64 (g 0 + 5 * r))) := by
  have a0 := h.r0; have a1 := h.r1
  have d0 := h.done 0 (by omega)
  refine ⟨a0, fun j hj => ?_, ?_, fun hr => ?_, h.rs.set 0 (by omega) _⟩
  · by_cases e : j = 0
    · subst e; rw [upd_same]; omega
    · rw [upd_other _ _ _ _ e]; have := h.done j hj; omega
  · rw [val_upd_in D g 0 _ 5 (by omega), ← h2.eq, ← h.eq, D5, Int.pow_zero, Int.one_mul, Int.one_mul]
    simp only [Q]
    omega
  · subst hr
    have e : upd g 0 (g 0 + 5 * 0) = g := by funext j; unfold upd; split <;> simp_all
    rw [e]
    exact fun j hj => h.done j hj
theorem R3.less {v : Int} {f : Nat → Int} {r r0 : Int} {g : Nat → Int} {w w0 w' : World} (h : R3 f 5 r g w w') (h2 : R2 v r0 f w w0) (hr : 0 < r0) :
    mu2 (w.heap.size + 1) (.int .i64 r) (w'.setCell ⟨w.heap.size + 1, 0, none⟩ (.int .i64 (g 0 + 5 * r))) < mu2 (w.heap.size + 1) (.int .i64 r0) w0 := by
  have e := h.eq
  have a0 := h.r0
  have b := val_in D (by decide) g 5 h.done
  have n1 := num_eq (h.next h2).rs.hd
  have n2 := num_eq h2.rs.hd
  rw [val_upd_in D g 0 _ 5 (by omega), Int.pow_zero, Int.one_mul, Int.one_mul] at n1
  rw [D5] at e b
  show 2 * (num _ _).toNat + (if 0 < r then 1 else 0) < 2 * (num _ w0).toNat + (if 0 < r0 then 1 else 0)
  rw [n1, n2, if_pos hr]
  by_cases h0 : r = 0
  · subst h0; rw [if_neg (by omega)]; omega
  · rw [if_pos (by omega)]; omega

theorem v5 (f : Nat → Int) : val D f 5 = f 0 + 67108864 * f 1 + 4503599627370496 * f 2 + 302231454903657293676544 * f 3 + 20282409603651670423947251286016 * f 4 := by
  simp only [val, D]; omega
/-- When the number is at least 2^130 - 5. -/
theorem top_yes {f : Nat → Int} (h0 : 67108859 ≤ f 0) (hf : In D 5 f) (h1 : f 1 = 67108863) (h2 : f 2 = 67108863) (h3 : f 3 = 67108863) (h4 : f 4 = 67108863) : val D f 5 = Q + (f 0 - 67108859) ∧ f 0 - 67108859 < 5 := by
  have := hf 0 (by omega)
  rw [v5, h1, h2, h3, h4]
  simp only [Q, D] at *
  omega
theorem top_no {f : Nat → Int} (hf : In D 5 f) (h : ¬ (67108859 ≤ f 0 ∧ f 1 = 67108863 ∧ f 2 = 67108863 ∧ f 3 = 67108863 ∧ f 4 = 67108863)) : val D f 5 < Q := by
  have i0 := hf 0 (by omega)
  have i1 := hf 1 (by omega)
  have i2 := hf 2 (by omega)
  have i3 := hf 3 (by omega)
  have i4 := hf 4 (by omega)
  rw [v5]
  simp only [Q, D] at *
  generalize f 0 = x0 at *
  generalize f 1 = x1 at *
  generalize f 2 = x2 at *
  generalize f 3 = x3 at *
  generalize f 4 = x4 at *
  omega

/-- Behind k rounds of writing the bits. -/
structure R6 (V : Nat) (k : Nat) (dB O : Nat) (w w' : World) : Prop where
  ho : Has w' O .u8 17 (dg 8 (V % 2 ^ k))
  hg : Has w' dB .i64 5 (dg 26 V)
  hr : Has w' w.heap.size .u8 17 (fun _ => 0)
  fr : Fr w 2 w'
theorem R6.step {V k dB O : Nat} {w w' : World} (h : R6 V k dB O w w') (hk : k < 130) (hO : w.heap.size < O) (hne : O ≠ dB) (x : Int) (hx : x = dg 8 (V % 2 ^ k) (k / 8) + ((V / 2 ^ k % 2 : Nat) : Int) * ((2 ^ (k % 8) : Nat) : Int)) :
    R6 V (k + 1) dB O w ((w'.setCell ⟨O, k / 8, none⟩ (.int .u8 x)).drew) :=
  ⟨(Has.congr (h.ho.set (k / 8) (by omega) x) fun j _ => dg_up 8 V k j (by decide) x hx).drew, (h.hg.set_other _ _ (by simpa using hne)).drew, (h.hr.set_other _ _ (by simp; omega)).drew, (h.fr.set _ _ (by simp; omega)).drew⟩
end Go.Proofs.YtnphoennagmiaaaDoor
