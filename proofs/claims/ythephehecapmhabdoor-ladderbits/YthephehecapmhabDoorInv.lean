/- What inverse comes to: a number to the power of 2^255 - 21, modulo 2^255 - 19. -/
import Derived.Test.YthephehecapmhabDoorProd
import Derived.Test.YthephehecapmhabDoorLeast
namespace Go.Proofs.YthephehecapmhabDoor
open Go.RowKit

/-- The power: 2^255 - 21. -/
def E : Nat := 57896044618658097711785492504343953926634992332820282019728792003956564819947

theorem E_top : E / 2 ^ 256 = 0 := by decide +kernel
def bitsOk (n : Nat) : Bool := (List.range n).all fun s => (eW (s / 64)).toNat / 2 ^ (s % 64) % 2 == E / 2 ^ s % 2
theorem bits_ok : bitsOk 256 = true := by decide +kernel
theorem bit_of (s : Nat) (h : s < 256) : (eW (s / 64)).toNat / 2 ^ (s % 64) % 2 = E / 2 ^ s % 2 := by
  have := List.all_eq_true.1 bits_ok s (List.mem_range.2 h)
  simpa using this
theorem eW_in : In W 4 eW
  | 0, _ => by decide
  | 1, _ => by decide
  | 2, _ => by decide
  | 3, _ => by decide
  | _ + 4, h => by omega

/-- Behind the rounds down to t. -/
structure VInv (a : Nat → Int) (w : World) (t : Nat) (m : Nat → Int) (w' : World) : Prop where
  inn : In W 4 m
  eq : val W m 4 % Q = val W a 4 ^ (E / 2 ^ t) % Q
  ha : Has w' w.heap.size .u64 4 a
  hr : Has w' (w.heap.size + 1) .u64 4 (fun _ => 0)
  hn : Has w' (w.heap.size + 1 + 1) .u64 4 m
  fr : Fr w 3 w'

theorem has_one (w : World) (t : TypeId) (b : Nat) (hb : b = w.heap.size) : Has (w.alloc (.cells #[.int .u64 1, .int .u64 0, .int .u64 0, .int .u64 0] t)) b .u64 4 (one 1) := Has.new w .u64 4 (one 1) t b hb

theorem bit_test (y : Int) (h0 : 0 ≤ y) (h1 : y < W) (k : Nat) : (bits BinOp.and IntKind.u64 (y / 2 ^ k) 1 == 1) = (y.toNat / 2 ^ k % 2 == 1) := by
  obtain ⟨y, rfl⟩ := Int.eq_ofNat_of_zero_le h0
  simp only [W] at h1
  have e : (y : Int) / 2 ^ k = ((y / 2 ^ k : Nat) : Int) := by simp
  have hlt : y / 2 ^ k < 18446744073709551616 := Nat.lt_of_le_of_lt (Nat.div_le_self _ _) (by omega)
  have e2 := u64_and_nat (y / 2 ^ k) 1 hlt (by omega)
  rw [e, show (1 : Int) = ((1 : Nat) : Int) from rfl, e2, Nat.and_one_is_mod, Int.toNat_natCast]
  generalize y / 2 ^ k % 2 = z
  by_cases hz : z = 1
  · subst hz; rfl
  · have a : ((z : Int) == ((1 : Nat) : Int)) = false := by simp; omega
    have b : (z == 1) = false := by simp; exact hz
    rw [a, b]

theorem half (s : Nat) : E / 2 ^ s = 2 * (E / 2 ^ (s + 1)) + E / 2 ^ s % 2 := by
  rw [Nat.pow_succ, ← Nat.div_div_eq_div_mul]
  omega

theorem VInv.even {a : Nat → Int} {w : World} {s : Nat} {m m1 : Nat → Int} {w' w1 : World} (h : VInv a w (s + 1) m w') (l : Below w'.heap.size w' w1) (s1 : In W 4 m1 ∧ val W m1 4 % Q = (val W m 4 * val W m 4) % Q) (hb : E / 2 ^ s % 2 = 0) :
    VInv a w s m1 (w1.setCells (w.heap.size + 1 + 1) 0 (row .u64 4 m1)) := by
  refine ⟨s1.1, ?_, (h.ha.call h.fr l (by omega)).setAll_other _ (by omega) 0 _, (h.hr.call h.fr l (by omega)).setAll_other _ (by omega) 0 _, Has.all (h.hn.call h.fr l (by omega)).there .u64 m1, (h.fr.call l).setAll _ (by omega) _⟩
  rw [half s, hb, Nat.add_zero, s1.2, Int.mul_emod, h.eq, ← Int.mul_emod, ← Int.pow_add, ← Nat.two_mul]

theorem VInv.odd {a : Nat → Int} {w : World} {s : Nat} {m m1 m2 : Nat → Int} {w' w1 w2 : World} (h : VInv a w (s + 1) m w') (l : Below w'.heap.size w' w1) (s1 : In W 4 m1 ∧ val W m1 4 % Q = (val W m 4 * val W m 4) % Q)
    (l2 : Below (w1.setCells (w.heap.size + 1 + 1) 0 (row .u64 4 m1)).heap.size (w1.setCells (w.heap.size + 1 + 1) 0 (row .u64 4 m1)) w2) (s2 : In W 4 m2 ∧ val W m2 4 % Q = (val W m1 4 * val W a 4) % Q) (hb : E / 2 ^ s % 2 = 1) :
    VInv a w s m2 (w2.setCells (w.heap.size + 1 + 1) 0 (row .u64 4 m2)) := by
  have f1 := (h.fr.call l).setAll (w.heap.size + 1 + 1) (by omega) (row .u64 4 m1)
  have a1 := (h.ha.call h.fr l (by omega)).setAll_other (w.heap.size + 1 + 1) (by omega) 0 (row .u64 4 m1)
  have r1 := (h.hr.call h.fr l (by omega)).setAll_other (w.heap.size + 1 + 1) (by omega) 0 (row .u64 4 m1)
  have n1 := Has.all (h.hn.call h.fr l (by omega)).there .u64 m1
  refine ⟨s2.1, ?_, (a1.call f1 l2 (by omega)).setAll_other _ (by omega) 0 _, (r1.call f1 l2 (by omega)).setAll_other _ (by omega) 0 _, Has.all (n1.call f1 l2 (by omega)).there .u64 m2, (f1.call l2).setAll _ (by omega) _⟩
  have e1 : val W m1 4 % Q = val W a 4 ^ (2 * (E / 2 ^ (s + 1))) % Q := by rw [s1.2, Int.mul_emod, h.eq, ← Int.mul_emod, ← Int.pow_add, ← Nat.two_mul]
  rw [half s, hb, Int.pow_succ, s2.2, Int.mul_emod (val W m1 4), e1, ← Int.mul_emod]

set_option maxRecDepth 10000 in
set_option maxHeartbeats 4000000 in
theorem inverse_any (a : Nat → Int) (ha : In W 4 a) (w : World) (hg : Glob w) :
    Calls Tryd.prog 27 #[(.agg (row .u64 4 (a)).toArray)] w fun e w' => ∃ m : Nat → Int, e = .returned (.agg (row .u64 4 (m)).toArray) ∧ (In W 4 m ∧ val W m 4 % Q = val W a 4 ^ E % Q) ∧ Below w.heap.size w w' := by
  go_enter Tryd.func27, Tryd.ntmps27
  go_wp2
  go_loopw [4] (fun i w' => ∃ (t : Nat) (z : Int) (m : Nat → Int), t ≤ 256 ∧ z = (t : Int) - 1 ∧ i = .int .i64 z ∧ VInv a w t m w') (fun i _ => (intOf i + 1).toNat)
  case atStart => exact ⟨256, 255, one 1, by omega, by decide, rfl, ⟨one_in 1 (by decide) (by decide), by rw [E_top, Int.pow_zero, val_one], ((Has.new w _ _ _ _ _ rfl).alloc _ (by simp)).alloc _ (by simp; omega), (has_zero _ _ _ (by simp)).alloc _ (by simp), has_one _ _ _ (by simp), (((Fr.refl w).alloc _).alloc _).alloc _⟩⟩
  case round =>
    obtain ⟨t, z, m, ht, hz, rfl, hI⟩ := hrel
    by_cases hlt : 0 < t
    · obtain ⟨s, rfl⟩ : ∃ s, t = s + 1 := ⟨t - 1, by omega⟩
      obtain rfl : z = (s : Int) := by omega
      have hn' := hI.hn
      have g1 : (0 : Int) ≤ (s : Int) := by omega
      have g2 : (s : Int) < 256 := by omega
      clear hz hlt
      go_wp2_with (refine wpList_load_mid rfl 46 _ rfl (w.heap.size + 1 + 1) 0 rfl (row .u64 4 (m)) _ (Has.range (hn')) Tryd.underlying46 rfl (num_info _) ?_)
      refine (product_any m m hI.inn hI.inn _).mono ?_
      rintro e w1 ⟨m1, rfl, s1, l1⟩
      have hn1 := hn'.call hI.fr l1 (by omega)
      have hg2 := (hg.fr ((hI.fr.call l1).setAll (w.heap.size + 1 + 1) (by omega) (row .u64 4 m1))).power (s / 64) (by omega)
      have HB := show Hid _ from bit_of s (by omega)
      have y1 := eW_in (s / 64) (by omega)
      have hm2 := Has.all hn1.there .u64 m1
      have ha2 := (hI.ha.call hI.fr l1 (by omega)).setAll_other (w.heap.size + 1 + 1) (by omega) 0 (row .u64 4 m1)
      have i1 := s1.1
      have H1 := show Hid _ from s1
      have HI := show Hid _ from hI
      clear s1 hn' hI
      generalize eW (s / 64) = y at *
      have hT := bit_test y y1.1 y1.2 (s % 64)
      have tok : True := trivial
      cases hb : (bits BinOp.and IntKind.u64 (y / 2 ^ (s % 64)) 1 == 1)
      · have hodd : E / 2 ^ s % 2 = 0 := by
          rw [hb] at hT
          have h2 : ¬ (y.toNat / 2 ^ (s % 64) % 2 = 1) := by simpa using hT.symm
          have h3 := HB.out
          omega
        have HO := show Hid _ from hodd
        clear hT hodd hm2 ha2
        go_wp2_with (have _t := tok; refine wpList_store_mid rfl 46 _ _ rfl (w.heap.size + 1 + 1) 0 (row .u64 4 (m1)).toArray rfl rfl (num_there (hn1)) (num_info' _) (all_oneCell_toArray (row_one _ _ _)) ?_; clear tok)
        go_roundw
        case rel => exact ⟨s, (s : Int) - 1, m1, by omega, rfl, rfl, HI.out.even l1 H1.out HO.out⟩
        case measure => simp [intOf]
      · have hodd : E / 2 ^ s % 2 = 1 := by
          rw [hb] at hT
          have h2 : y.toNat / 2 ^ (s % 64) % 2 = 1 := by simpa using hT.symm
          have h3 := HB.out
          omega
        have HO := show Hid _ from hodd
        clear hT hodd
        go_wp2_with (first | (have _t := tok; refine wpList_store_mid rfl 46 _ _ rfl (w.heap.size + 1 + 1) 0 (row .u64 4 (m1)).toArray rfl rfl (num_there (hn1)) (num_info' _) (all_oneCell_toArray (row_one _ _ _)) ?_; clear tok) | (refine wpList_load_mid rfl 46 _ rfl (w.heap.size + 1 + 1) 0 rfl (row .u64 4 (m1)) _ (Has.range (hm2)) Tryd.underlying46 rfl (num_info _) ?_) | (refine wpList_load_mid rfl 46 _ rfl (w.heap.size) 0 rfl (row .u64 4 (a)) _ (Has.range (ha2)) Tryd.underlying46 rfl (num_info _) ?_))
        refine (product_any m1 a i1 ha _).mono ?_
        rintro e w2 ⟨m2, rfl, s2, l2⟩
        have hn2 := hm2.below l2 (by rw [size_setAll]; have := (HI.out.fr.call l1).size; omega)
        have H2 := show Hid _ from s2
        clear s2 hm2 ha2 hg2 hn1
        go_wp2_with (refine wpList_store_mid rfl 46 _ _ rfl (w.heap.size + 1 + 1) 0 (row .u64 4 (m2)).toArray rfl rfl (num_there (hn2)) (num_info' _) (all_oneCell_toArray (row_one _ _ _)) ?_)
        go_roundw
        case rel => exact ⟨s, (s : Int) - 1, m2, by omega, rfl, rfl, HI.out.odd l1 H1.out l2 H2.out HO.out⟩
        case measure => simp [intOf]
    · obtain rfl : t = 0 := by omega
      obtain rfl : z = -1 := by omega
      have hn' := hI.hn
      have hz' := hI.hr
      have he : val W m 4 % Q = val W a 4 ^ E % Q := by have e := hI.eq; rwa [Nat.pow_zero, Nat.div_one] at e
      have HE := show Hid _ from he
      clear he hz hlt ht
      go_wp2_with (first | (refine wpList_load_mid rfl 46 _ rfl (w.heap.size + 1 + 1) 0 rfl (row .u64 4 (m)) _ (Has.range (hn')) Tryd.underlying46 rfl (num_info _) ?_) | (refine wpList_store_mid rfl 46 _ _ rfl (w.heap.size + 1) 0 (row .u64 4 (m)).toArray rfl rfl (num_there (hz')) (num_info' _) (all_oneCell_toArray (row_one _ _ _)) ?_))
      exact bodyPost_ret (v := (.agg (row .u64 4 (m)).toArray)) (results_row Tryd.results27 rfl (Has.all hz'.there .u64 m).range Tryd.underlying46 rfl (num_info m)) rfl ⟨m, rfl, ⟨hI.inn, HE.out⟩, (hI.fr.setAll _ (by omega) _).below⟩
end Go.Proofs.YthephehecapmhabDoor
