/- What Pick answers: one of two keys, by a bit. -/
import Derived.Test.YthephehecapmhabDoorSave
import Derived.Test.YthephehecapmhabDoorStep
namespace Go.Proofs.YthephehecapmhabDoor
open Go.RowKit

theorem pick8 (x y cv : Int) (hx : 0 ≤ x) (hx' : x < 256) (hy : 0 ≤ y) (hy' : y < 256) (hc : cv = 0 ∨ cv = 1) :
    bits BinOp.xor IntKind.u8 x (bits BinOp.and IntKind.u8 (IntKind.u8.wrap (-cv)) (bits BinOp.xor IntKind.u8 x y)) = if cv = 1 then y else x := by
  obtain ⟨x, rfl⟩ := Int.eq_ofNat_of_zero_le hx
  obtain ⟨y, rfl⟩ := Int.eq_ofNat_of_zero_le hy
  have hxn : x < 2 ^ 8 := by omega
  have hyn : y < 2 ^ 8 := by omega
  have hz : x ^^^ y < 256 := Nat.xor_lt_two_pow hxn hyn
  rw [u8_xor_nat x y (by omega) (by omega)]
  rcases hc with rfl | rfl
  · have e : IntKind.u8.wrap (-0) = ((0 : Nat) : Int) := by rw [IntKind.wrap_u8']; rfl
    rw [e, u8_and_nat 0 _ (by omega) hz, Nat.zero_and, u8_xor_nat x 0 (by omega) (by omega), Nat.xor_zero]
    simp
  · have e : IntKind.u8.wrap (-1) = ((255 : Nat) : Int) := by rw [IntKind.wrap_u8']; rfl
    have e2 : 255 &&& (x ^^^ y) = x ^^^ y := by
      have h := Nat.and_two_pow_sub_one_eq_mod (x ^^^ y) 8
      rw [Nat.and_comm, show (255 : Nat) = 2 ^ 8 - 1 from rfl, h]
      exact Nat.mod_eq_of_lt hz
    rw [e, u8_and_nat _ _ (by omega) hz, e2, u8_xor_nat x _ (by omega) hz, ← Nat.xor_assoc, Nat.xor_self, Nat.zero_xor]
    simp

theorem bit_and (bit : Int) (h0 : 0 ≤ bit) (h1 : bit < 256) : bits BinOp.and IntKind.u8 bit 1 = bit % 2 := by
  obtain ⟨b, rfl⟩ := Int.eq_ofNat_of_zero_le h0
  have := u8_and_nat b 1 (by omega) (by omega)
  rw [Nat.and_one_is_mod] at this
  rw [show (1 : Int) = ((1 : Nat) : Int) from rfl, this]
  omega

structure XInv (a b : Nat → Int) (cv : Int) (w : World) (k : Nat) (m : Nat → Int) (w' : World) : Prop where
  done : ∀ j, j < k → m j = if cv = 1 then b j else a j
  rest : ∀ j, k ≤ j → m j = a j
  ha : Has w' w.heap.size .u8 32 m
  hb : Has w' (w.heap.size + 1) .u8 32 b
  hr : Has w' (w.heap.size + 1 + 1) .u8 32 (fun _ => 0)
  fr : Fr w 3 w'
theorem XInv.step {a b : Nat → Int} {cv : Int} {w : World} {k : Nat} {m : Nat → Int} {w' : World} (h : XInv a b cv w k m w') (ha : In 256 32 a) (hb : In 256 32 b) (hc : cv = 0 ∨ cv = 1) (hk : k < 32) :
    XInv a b cv w (k + 1) (upd m k (if cv = 1 then b k else a k)) ((w'.setCell ⟨w.heap.size, k, none⟩ (.int .u8 (bits BinOp.xor IntKind.u8 (m k) (bits BinOp.and IntKind.u8 (IntKind.u8.wrap (-cv)) (bits BinOp.xor IntKind.u8 (m k) (b k)))))).drew) := by
  rw [h.rest k (Nat.le_refl k), pick8 (a k) (b k) cv (ha k hk).1 (ha k hk).2 (hb k hk).1 (hb k hk).2 hc]
  refine ⟨fun j hj => ?_, fun j hj => ?_, (h.ha.set k hk _).drew, (h.hb.set_other _ _ (by simp)).drew, (h.hr.set_other _ _ (by simp; omega)).drew, (h.fr.set _ _ (by simp)).drew⟩
  · by_cases e : j = k
    · subst e; rw [upd_same]
    · rw [upd_other _ _ _ _ e]; exact h.done j (by omega)
  · rw [upd_other _ _ _ _ (by omega)]; exact h.rest j (by omega)

/-- b, if the bit is odd; else a. -/
def sel (bit : Int) (a b : Nat → Int) : Nat → Int := if bit % 2 = 1 then b else a
theorem sel_in (bit : Int) (a b : Nat → Int) (ha : In 256 32 a) (hb : In 256 32 b) : In 256 32 (sel bit a b) := by unfold sel; split <;> assumption

set_option maxRecDepth 10000 in
set_option maxHeartbeats 2000000 in
theorem pick_any (bit : Int) (hbit : 0 ≤ bit ∧ bit < 256) (a b : Nat → Int) (ha : In 256 32 a) (hb : In 256 32 b) (w : World) :
    Calls Tryd.prog 19 #[.int .u8 bit, (.agg (row .u8 32 (a)).toArray), (.agg (row .u8 32 (b)).toArray)] w fun e w' => e = .returned (.agg (row .u8 32 (sel bit a b)).toArray) ∧ Below w.heap.size w w' := by
  have hm := bit_and bit hbit.1 hbit.2
  have hc : bit % 2 = 0 ∨ bit % 2 = 1 := by omega
  have hs : ∀ j, (if bit % 2 = 1 then b j else a j) = sel bit a b j := fun j => by unfold sel; split <;> rfl
  have HS := show Hid _ from hs
  have HC := show Hid _ from hc
  clear hs hc
  generalize hcv : bit % 2 = cv at *
  clear hcv
  go_enter Tryd.func19, Tryd.ntmps19
  go_wp2
  go_loopw [12] (fun i w' => ∃ (k : Nat) (m : Nat → Int), k ≤ 32 ∧ i = .int .i64 k ∧ XInv a b cv w k m w') (fun i _ => 32 - (intOf i).toNat)
  case atStart => exact ⟨0, a, by omega, rfl, ⟨fun j hj => by omega, fun _ _ => rfl, ((Has.new w _ _ _ _ _ rfl).alloc _ (by simp)).alloc _ (by simp; omega), (Has.new _ _ _ _ _ _ (by simp)).alloc _ (by simp), key_zero _ _ _ (by simp), (((Fr.refl w).alloc _).alloc _).alloc _⟩⟩
  case round =>
    obtain ⟨k, m, hk, rfl, hI⟩ := hrel
    by_cases hlt : k < 32
    · have HX := show Hid _ from hI.step ha hb HC.out hlt
      have c1 := hI.ha.cell k hlt
      have c2 := hI.hb.cell k hlt
      have f1 := hI.ha.free k hlt
      have g1 : (0 : Int) ≤ (k : Int) := by omega
      have g2 : (k : Int) < 32 := by omega
      clear hI hm
      generalize m k = x at *
      generalize b k = y at *
      go_wp2
      go_region
      go_wp2
      go_roundw
      case rel => exact ⟨k + 1, _, by omega, by go_num, HX.out⟩
      case measure => simp [intOf]; omega
    · obtain rfl : k = 32 := by omega
      have hA := hI.ha.congr (g := sel bit a b) (fun j hj => by rw [hI.done j hj]; exact HS.out j)
      have hz := hI.hr
      clear hm hlt hk
      go_wp2_with (first | (refine wpList_load_mid rfl 23 _ rfl (w.heap.size) 0 rfl (row .u8 32 (sel bit a b)) _ (Has.range (hA)) Tryd.underlying23 rfl (key_info _) ?_) | (refine wpList_store_mid rfl 23 _ _ rfl (w.heap.size + 1 + 1) 0 (row .u8 32 (sel bit a b)).toArray rfl rfl (key_there (hz)) (key_info' _) (all_oneCell_toArray (row_one _ _ _)) ?_))
      exact bodyPost_ret (v := (.agg (row .u8 32 (sel bit a b)).toArray)) (results_row Tryd.results19 rfl (Has.all hz.there .u8 (sel bit a b)).range Tryd.underlying23 rfl (key_info (sel bit a b))) rfl ⟨rfl, (hI.fr.setAll _ (by omega) _).below⟩
end Go.Proofs.YthephehecapmhabDoor
