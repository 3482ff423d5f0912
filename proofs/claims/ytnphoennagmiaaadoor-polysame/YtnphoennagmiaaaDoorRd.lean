/- What the document's own digits come to. -/
import Derived.Test.YtnphoennagmiaaaDoorCt
import Derived.Test.YtnphoennagmiaaaDoorDg
import Derived.BigRegion
namespace Go.Proofs.YtnphoennagmiaaaDoor
open Go.RowKit

theorem made6_zero (w : World) (t : TypeId) (b : Nat) (hb : b = w.heap.size) : Has (w.alloc (.cells #[.int .i64 0, .int .i64 0, .int .i64 0, .int .i64 0, .int .i64 0, .int .i64 0] t)) b .i64 6 (fun _ => 0) := Has.new w .i64 6 (fun _ => 0) t b hb
theorem made6 (w : World) : (Instr.makeSlice 42 (.int .i64 6) (.int .i64 6)).run Tryd.prog w = .ok (.slice (some ⟨w.heap.size, 0, none⟩) 6 6) (w.alloc (.cells #[.int .i64 0, .int .i64 0, .int .i64 0, .int .i64 0, .int .i64 0, .int .i64 0] 3)) := by kernel_rfl

/-- The number of 17 bytes. -/
def nb (a : Nat → Int) : Nat := (val 256 a 17).toNat
theorem nb_val (a : Nat → Int) (ha : In 256 17 a) : ((nb a : Nat) : Int) = val 256 a 17 := by
  have := val_in 256 (by decide) a 17 ha
  unfold nb
  omega
theorem nb_lt (a : Nat → Int) (ha : In 256 17 a) : nb a < 2 ^ 136 := by
  have := val_in 256 (by decide) a 17 ha
  rw [show (256 : Int) ^ 17 = 87112285931760246646623899502532662132736 from by decide] at this
  unfold nb
  omega
theorem nb_dg (a : Nat → Int) (ha : In 256 17 a) (j : Nat) (hj : j < 17) : a j = dg 8 (nb a) j := dg_of_val 8 17 256 (by decide) a ha j hj

structure DI (a : Nat → Int) (w : World) (k : Nat) (w' : World) : Prop where
  ha : Has w' w.heap.size .u8 17 a
  ht : Has w' (w.heap.size + 1) .i64 6 (dg 26 (nb a % 2 ^ k))
  fr : Fr w 2 w'
/-- A bit of a number, as the text takes it from a byte. -/
theorem bit8 (a : Nat → Int) (ha : In 256 17 a) (k : Nat) (hk : k < 136) : a (k / 8) / 2 ^ (k % 8) % 2 = ((nb a / 2 ^ k % 2 : Nat) : Int) := by
  rw [nb_dg a ha (k / 8) (by omega), ← bit_dg 8 (nb a) k (by decide)]
  unfold dg
  rw [Int.natCast_emod, Int.natCast_ediv, Int.natCast_pow]
  rfl
theorem dg_up (s A i j : Nat) (hs : 0 < s) (x : Int) (hx : x = dg s (A % 2 ^ i) (i / s) + ((A / 2 ^ i % 2 : Nat) : Int) * ((2 ^ (i % s) : Nat) : Int)) : upd (dg s (A % 2 ^ i)) (i / s) x j = dg s (A % 2 ^ (i + 1)) j := by
  have e := dgN_step s A i j hs
  by_cases c : j = i / s
  · subst c
    rw [upd_same, hx]
    rw [if_pos rfl] at e
    unfold dg
    rw [e, Int.natCast_add, Int.natCast_mul, Int.mul_comm]
  · rw [upd_other _ _ _ _ c]
    rw [if_neg c] at e
    unfold dg
    rw [e, Nat.add_zero]
theorem DI.step {a : Nat → Int} {w : World} {k : Nat} {w' : World} (h : DI a w k w') (hk : k < 136) (x : Int) (hx : x = dg 26 (nb a % 2 ^ k) (k / 26) + ((nb a / 2 ^ k % 2 : Nat) : Int) * ((2 ^ (k % 26) : Nat) : Int)) :
    DI a w (k + 1) ((w'.setCell ⟨w.heap.size + 1, k / 26, none⟩ (.int .i64 x)).drew) :=
  ⟨(h.ha.set_other _ _ (by simp)).drew, (Has.congr (h.ht.set (k / 26) (by omega) x) fun j _ => dg_up 26 (nb a) k j (by decide) x hx).drew, (h.fr.set _ _ (by simp)).drew⟩
theorem and_one8 : ∀ x : Fin 256, bits BinOp.and IntKind.u8 (x.val : Int) 1 = (x.val : Int) % 2 := by decide +kernel
theorem and1 (x : Int) (h : 0 ≤ x ∧ x < 256) : bits BinOp.and IntKind.u8 x 1 = x % 2 := by
  obtain ⟨n, rfl⟩ := Int.eq_ofNat_of_zero_le h.1
  exact and_one8 ⟨n, by omega⟩
theorem shr_in (x : Int) (h : 0 ≤ x ∧ x < 256) (q : Nat) : 0 ≤ x / 2 ^ q ∧ x / 2 ^ q < 256 := by
  obtain ⟨n, rfl⟩ := Int.eq_ofNat_of_zero_le h.1
  have e : (n : Int) / 2 ^ q = ((n / 2 ^ q : Nat) : Int) := by rw [Int.natCast_ediv, Int.natCast_pow]; rfl
  have := Nat.div_le_self n (2 ^ q)
  rw [e]
  generalize n / 2 ^ q = y at *
  omega
/-- What is added to a digit. -/
theorem digit_sum (d : Nat) (hd : d < 2 ^ 26) (x : Int) (h : 0 ≤ x ∧ x < 256) (b : Nat) (q r : Nat) (hb : x / 2 ^ q % 2 = (b : Int)) (hr : r < 26) :
    wrap64 ((d : Int) + wrap64 (wrap64 (bits BinOp.and IntKind.u8 (x / 2 ^ q) 1) * 2 ^ r)) = (d : Int) + (b : Int) * ((2 ^ r : Nat) : Int) := by
  have i := shr_in x h q
  rw [and1 _ i, hb]
  have hb2 : b < 2 := by omega
  have hp : 2 ^ r ≤ 2 ^ 25 := Nat.pow_le_pow_right (by decide) (by omega)
  have e : (2 : Int) ^ r = ((2 ^ r : Nat) : Int) := by rw [Int.natCast_pow]; rfl
  rw [e]
  generalize 2 ^ r = p at *
  have hc : b = 0 ∨ b = 1 := by omega
  unfold wrap64
  rcases hc with rfl | rfl <;> omega

set_option maxRecDepth 10000 in
set_option maxHeartbeats 4000000 in
theorem digits_any (a : Nat → Int) (ha : In 256 17 a) (w : World) :
    Calls Tryd.prog 22 #[(.agg (row .u8 17 (a)).toArray)] w fun e w' => ∃ B : Nat, e = .returned (.slice (some ⟨B, 0, none⟩) 6 6) ∧ (w.heap.size ≤ B ∧ B < w'.heap.size ∧ Has w' B .i64 6 (dg 26 (nb a))) ∧ Below w.heap.size w w' := by
  have hmk := made6
  go_enter Tryd.func22, Tryd.ntmps22
  go_wp2
  go_loopw [4] (fun i w' => ∃ k : Nat, k ≤ 136 ∧ i = .int .i64 k ∧ DI a w k w') (fun i _ => 136 - (intOf i).toNat)
  case atStart => exact ⟨0, by omega, rfl, ⟨(Has.new w _ _ _ _ _ rfl).alloc _ (by simp), (made6_zero _ _ _ (by simp)).congr (fun j _ => (dg_nought 26 (nb a) j).symm), ((Fr.refl w).alloc _).alloc _⟩⟩
  case round =>
    obtain ⟨k, hk, rfl, hI⟩ := hrel
    clear hmk
    by_cases hlt : k < 136
    · have HS := show Hid _ from fun x hx => hI.step hlt x hx
      have c1 := hI.ha.cell (k / 8) (by omega)
      have c2 := hI.ht.cell (k / 26) (by omega)
      have f1 := hI.ht.free (k / 26) (by omega)
      have i1 := ha (k / 8) (by omega)
      have i2 := dgN_lt 26 (nb a % 2 ^ k) (k / 26)
      have hb := bit8 a ha k hlt
      have g1 : (0 : Int) ≤ (k : Int) := by omega
      have g2 : (k : Int) < 136 := by omega
      have g3 : ((k : Int) / 8).toNat = k / 8 := by omega
      have g4 : ((k : Int) / 26).toNat = k / 26 := by omega
      have g5 : ((k : Int) % 8).toNat = k % 8 := by omega
      have g6 : ((k : Int) % 26).toNat = k % 26 := by omega
      have HE := show Hid _ from digit_sum (dgN 26 (nb a % 2 ^ k) (k / 26)) i2 (a (k / 8)) i1 (nb a / 2 ^ k % 2) (k % 8) (k % 26) hb (Nat.mod_lt _ (by decide))
      clear hI hb i2
      generalize a (k / 8) = x at *
      go_wp2
      go_region
      go_wp2
      go_roundw
      case rel => exact ⟨k + 1, by omega, by go_num, HS.out _ HE.out⟩
      case measure => simp [intOf]; omega
    · obtain rfl : k = 136 := by omega
      have hd := hI.ht.congr (g := dg 26 (nb a)) (fun j _ => by rw [Nat.mod_eq_of_lt (nb_lt a ha)])
      go_wp2
      go_ret
      exact ⟨_, rfl, ⟨by omega, by have := hI.fr.size; omega, hd⟩, hI.fr.below⟩
end Go.Proofs.YtnphoennagmiaaaDoor
