/- What the statements' walks want of a text's tag: plain facts. -/
import Derived.Test.YtnphoennagmiaaaDoorPa
import Derived.Test.YtnphoennagmiaaaDoorOw
namespace Go.Proofs.YtnphoennagmiaaaDoor
open Go.RowKit

theorem Kr.congr {w w' : World} {m : Nat} {l : List (Nat × IntKind × Nat × (Nat → Int))} {R : List (Nat × Nat)} {b : Nat} {k : IntKind} {n : Nat} {f : Nat → Int} (h : Kr w m ((b, k, n, f) :: l) R w') (g : Nat → Int) (e : ∀ j, j < n → f j = g j) : Kr w m ((b, k, n, g) :: l) R w' :=
  ⟨fun p hp => by
    rcases List.mem_cons.1 hp with rfl | hp
    · exact ⟨(h.get _ _ _ _ List.mem_cons_self).congr e, (h.rows _ List.mem_cons_self).2⟩
    · exact h.rows p (List.mem_cons_of_mem _ hp), h.room, fun p hp q hq => by
    rcases List.mem_cons.1 hp with rfl | hp
    · exact h.apart _ List.mem_cons_self q hq
    · exact h.apart p (List.mem_cons_of_mem _ hp) q hq, h.size, h.base, h.below⟩

theorem pS_in (k : Nat → Int) (hk : In 256 32 k) : 0 ≤ pS k ∧ pS k < 340282366920938463463374607431768211456 := val_in 256 (by decide) (fun j => k (16 + j)) 16 (fun j hj => hk (16 + j) (by omega))
theorem acc_congr {r r' : Int} {len : Nat} {z y : Nat → Int} (hr : r = r') (hz : ∀ j, j < len → z j = y j) : ∀ i, acc r len z i = acc r' len y i
  | 0 => rfl
  | i + 1 => by
    have hp : val 256 (piece len z i) 17 = val 256 (piece len y i) 17 := val_congr 256 17 fun j _ => by
      unfold piece blk
      split
      · split
        · exact hz _ (by unfold pcN at *; omega)
        · rfl
      · rfl
    show ((acc r len z i + val 256 (piece len z i) 17) * r) % Q = ((acc r' len y i + val 256 (piece len y i) 17) * r') % Q
    rw [acc_congr hr hz i, hp, hr]
/-- Of no bytes: the second half. -/
theorem ptag_none (k : Nat → Int) (hk : In 256 32 k) (z : Nat → Int) : ptag k 0 z = val 256 (fun j => k (16 + j)) 16 := by
  have h := pS_in k hk
  have e : ptag k 0 z = (0 + pS k) % 340282366920938463463374607431768211456 := rfl
  rw [e, Int.zero_add, Int.emod_eq_of_lt h.1 h.2]
  rfl
/-- A key whose first half is trimmed. -/
def oth (k : Nat → Int) : Nat → Int := fun j => if j < 16 then trimT k j else k j
theorem oth_in (k : Nat → Int) (hk : In 256 32 k) : In 256 32 (oth k) := fun j hj => by
  unfold oth
  split
  · exact trimT_in k (fun i hi => hk i (by omega)) j (by assumption)
  · exact hk j hj
theorem ptag_oth (k : Nat → Int) (len : Nat) (z : Nat → Int) : ptag (oth k) len z = ptag k len z := by
  have e1 : pR (oth k) = pR k := val_congr 256 16 fun j hj => by
    have : trimT (oth k) j = trimT (trimT k) j := by
      have e : oth k j = trimT k j := by unfold oth; rw [if_pos hj]
      simp only [trimT, e]
    rw [this, trimT_twice]
  have e2 : pS (oth k) = pS k := val_congr 256 16 fun j _ => by
    show oth k (16 + j) = k (16 + j)
    unfold oth; rw [if_neg (by omega)]
  unfold ptag
  rw [acc_congr e1 (fun _ _ => rfl), e2]
/-- A key whose second half is noughts. -/
def bar (k : Nat → Int) : Nat → Int := fun j => if j < 16 then k j else 0
theorem bar_in (k : Nat → Int) (hk : In 256 32 k) : In 256 32 (bar k) := fun j hj => by
  unfold bar
  split
  · exact hk j hj
  · omega
theorem bar_R (k : Nat → Int) : pR (bar k) = pR k := val_congr 256 16 fun j hj => by
  have e : bar k j = k j := by unfold bar; rw [if_pos hj]
  simp only [trimT, e]
theorem val_noughts (n : Nat) : val 256 (fun _ => 0) n = 0 := by
  induction n with
  | zero => rfl
  | succ n ih =>
    have e : val 256 (fun _ => 0) (n + 1) = val 256 (fun _ => 0) n + 256 ^ n * 0 := rfl
    rw [e, ih]; rfl
theorem bar_S (k : Nat → Int) : pS (bar k) = 0 := by
  have e : pS (bar k) = val 256 (fun _ => 0) 16 := val_congr 256 16 fun j _ => by
    show bar k (16 + j) = 0
    unfold bar; rw [if_neg (by omega)]
  rw [e]; decide
theorem ptag_halves (k : Nat → Int) (len : Nat) (z : Nat → Int) (x : Int) (hx : x = ptag (bar k) len z) : (x % Q + val 256 (fun j => k (16 + j)) 16) % 340282366920938463463374607431768211456 = ptag k len z := by
  have e : ptag k len z = (acc (pR k) len z (npc len) % Q + val 256 (fun j => k (16 + j)) 16) % 340282366920938463463374607431768211456 := rfl
  have e2 : ptag (bar k) len z = (acc (pR k) len z (npc len) % Q + 0) % 340282366920938463463374607431768211456 := by
    unfold ptag
    rw [acc_congr (bar_R k) (fun _ _ => rfl), bar_S]
  rw [hx, e, e2]
  generalize acc (pR k) len z (npc len) % Q = A
  generalize val 256 (fun j => k (16 + j)) 16 = s
  unfold Q
  omega
/-- One piece, two pieces. -/
theorem ptag_one (k f z : Nat → Int) (a : Int) (ha : a = (val 256 (blk 16 f) 17 * val 256 (byB (trimT k)) 17) % Q) : ptag (bar k) (16 + 0) (app f 16 z) = (a % Q + val 256 (fun _ => 0) 16) % 340282366920938463463374607431768211456 := by
  have hp : val 256 (piece (16 + 0) (app f 16 z) 0) 17 = val 256 (blk 16 f) 17 := val_congr 256 17 fun j _ => by
    show blk 16 (fun j => app f 16 z (16 * 0 + j)) j = blk 16 f j
    unfold blk app
    split
    · split
      · show (if 16 * 0 + j < 16 then f (16 * 0 + j) else z (16 * 0 + j - 16)) = f j
        rw [if_pos (by omega), show 16 * 0 + j = j by omega]
      · rfl
    · rfl
  have e : ptag (bar k) (16 + 0) (app f 16 z) = (((0 + val 256 (piece (16 + 0) (app f 16 z) 0) 17) * pR (bar k)) % Q % Q + pS (bar k)) % 340282366920938463463374607431768211456 := rfl
  rw [e, hp, bar_S, bar_R, val_noughts, ha, byB_val, Int.zero_add]
  rfl
theorem ptag_two (k f z : Nat → Int) (n : Nat) (h0 : 0 < n) (hn : n ≤ 16) (a s a2 : Int) (ha : a = (val 256 (blk 16 f) 17 * val 256 (byB (trimT k)) 17) % Q) (hs : s = (a + val 256 (blk n z) 17) % Q) (h2 : a2 = (s * val 256 (byB (trimT k)) 17) % Q) :
    ptag (bar k) (16 + n) (app f 16 z) = (a2 % Q + val 256 (fun _ => 0) 16) % 340282366920938463463374607431768211456 := by
  have en : npc (16 + n) = 2 := by unfold npc; omega
  have q0 : pcN (16 + n) 0 = 16 := by unfold pcN; omega
  have q1 : pcN (16 + n) 1 = n := by unfold pcN; omega
  have hp0 : val 256 (piece (16 + n) (app f 16 z) 0) 17 = val 256 (blk 16 f) 17 := val_congr 256 17 fun j _ => by
    unfold piece
    rw [q0]
    unfold blk app
    split
    · split
      · show (if 16 * 0 + j < 16 then f (16 * 0 + j) else z (16 * 0 + j - 16)) = f j
        rw [if_pos (by omega), show 16 * 0 + j = j by omega]
      · rfl
    · rfl
  have hp1 : val 256 (piece (16 + n) (app f 16 z) 1) 17 = val 256 (blk n z) 17 := val_congr 256 17 fun j _ => by
    unfold piece
    rw [q1]
    unfold blk app
    split
    · split
      · show (if 16 * 1 + j < 16 then f (16 * 1 + j) else z (16 * 1 + j - 16)) = z j
        rw [if_neg (by omega), show 16 * 1 + j - 16 = j by omega]
      · rfl
    · omega
  have e1 : a = acc (pR (bar k)) (16 + n) (app f 16 z) 1 := by
    show a = ((0 + val 256 (piece (16 + n) (app f 16 z) 0) 17) * pR (bar k)) % Q
    rw [hp0, bar_R, ha, byB_val, Int.zero_add]
    rfl
  have e2 : a2 = acc (pR (bar k)) (16 + n) (app f 16 z) 2 := acc_step (by rw [hs, hp1, e1]) (by rw [byB_val, bar_R]; rfl) h2
  unfold ptag
  rw [en, ← e2, bar_S, val_noughts]
end Go.Proofs.YtnphoennagmiaaaDoor
