/- The base point's order is a prime above 2^252, so that no public key is refused as what another one shares. -/
import Derived.Test.YthephehecapmhabDoorAgree
namespace Go.Proofs.YthephehecapmhabDoor
open Go.RowKit

namespace Num
theorem prime_1224481 : Prime 1224481 := prime_of_tr 1224481 1106 (by decide) (by decide +kernel) (by decide)
theorem prime_531581 : Prime 531581 := prime_of_tr 531581 729 (by decide) (by decide +kernel) (by decide)
theorem prime_1257559732178653 : Prime 1257559732178653 :=
  prime_two 1224481 531581 1027014492 2365697292 2 prime_1224481 prime_531581 (by decide +kernel) (by decide +kernel) (by decide +kernel) (by decide +kernel) (by decide +kernel) (by decide +kernel) (by decide +kernel) (by decide +kernel) (by decide +kernel) (by decide +kernel)
theorem prime_4434155615661930479 : Prime 4434155615661930479 :=
  prime_one 1257559732178653 3526 2 prime_1257559732178653 (by decide +kernel) (by decide +kernel) (by decide +kernel) (by decide +kernel) (by decide +kernel) (by decide +kernel)
theorem prime_172054593956031949258510691 : Prime 172054593956031949258510691 :=
  prime_one 4434155615661930479 38802110 2 prime_4434155615661930479 (by decide +kernel) (by decide +kernel) (by decide +kernel) (by decide +kernel) (by decide +kernel) (by decide +kernel)
theorem prime_19757330305831588566944191468367130476339 : Prime 19757330305831588566944191468367130476339 :=
  prime_one 172054593956031949258510691 114831751082918 2 prime_172054593956031949258510691 (by decide +kernel) (by decide +kernel) (by decide +kernel) (by decide +kernel) (by decide +kernel) (by decide +kernel)
theorem prime_276602624281642239937218680557139826668747 : Prime 276602624281642239937218680557139826668747 :=
  prime_one 19757330305831588566944191468367130476339 14 2 prime_19757330305831588566944191468367130476339 (by decide +kernel) (by decide +kernel) (by decide +kernel) (by decide +kernel) (by decide +kernel) (by decide +kernel)
theorem prime_7237005577332262213973186563042994240857116359379907606001950938285454250989 : Prime 7237005577332262213973186563042994240857116359379907606001950938285454250989 :=
  prime_one 276602624281642239937218680557139826668747 26163907866482859529727157400808004 2 prime_276602624281642239937218680557139826668747 (by decide +kernel) (by decide +kernel) (by decide +kernel) (by decide +kernel) (by decide +kernel) (by decide +kernel)
end Num

namespace Ed
section
variable {n : Nat} [NeZero n] {d : Fin n} {iv : Fin n → Fin n}
theorem Fld.nil_of (h : Fld d iv) {k : Fin n} (hc : Con d k) {P : Pt n} (hP : On d P) (h1 : P.y = 1) : P = nil := by
  have hx : P.x = 0 := by
    have e := hP
    unfold On at e
    rw [h1] at e
    rcases h.dom (at_one _ e) with q | q
    · exact h.sq_zero q
    · exact absurd q (con_ne h hc)
  cases P
  simp only at h1 hx
  rw [h1, hx]; rfl
theorem Fld.two_nil (h : Fld d iv) {k : Fin n} (hc : Con d k) {P : Pt n} (hP : On d P) (h2 : P.y = -1) : mul d iv 2 P = nil := by
  have hx : P.x = 0 := by
    have e := hP
    unfold On at e
    rw [h2] at e
    rcases h.dom (at_minus _ e) with q | q
    · exact h.sq_zero q
    · exact absurd q (con_ne h hc)
  show sum d iv (sum d iv nil P) P = nil
  rw [sum_comm nil P, h.sum_nil]
  unfold sum nil
  obtain ⟨g1, g2, g3⟩ := dbl_minus (d := d) P.y (iv (1 + d * 0 * 0 * P.y * P.y)) h2
  rw [hx, g1, g2, g3, h.iv_one]
  rw [show (1 * 1 : Fin n) = 1 by clear h; grind]
theorem plus_zero (y : Fin n) (h : 1 + y = 0) : y = -1 := by grind
/-- What answers 0 has no more than two sums. -/
theorem Fld.two_of (h : Fld d iv) {k : Fin n} (hc : Con d k) {P : Pt n} (hP : On d P) (h0 : aff iv P = 0) : mul d iv 2 P = nil := by
  unfold aff at h0
  rcases h.dom h0 with q | q
  · exact h.two_nil hc hP (plus_zero _ q)
  · have h1 : 1 - P.y = 0 := by
      refine Classical.byContradiction fun hn => h.one_ne ?_
      rw [← h.inv _ hn, q, mul_z']
    rw [h.nil_of hc hP (one_sub _ h1), h.mul_nil]
theorem Fld.gcd_nil (h : Fld d iv) {P : Pt n} (hP : On d P) (a b : Nat) : mul d iv a P = nil → mul d iv b P = nil → mul d iv (Nat.gcd a b) P = nil := by
  refine Nat.gcd.induction (P := fun a b => mul d iv a P = nil → mul d iv b P = nil → mul d iv (Nat.gcd a b) P = nil) a b ?_ ?_
  · intro b _ hb
    rw [Nat.gcd_zero_left]; exact hb
  · intro a b _ ih ha hb
    rw [Nat.gcd_rec]
    refine ih ?_ ha
    rw [← Nat.div_add_mod b a, h.mul_add hP, ← h.mul_mul hP, ha, h.mul_nil, sum_comm, h.sum_nil] at hb
    exact hb
theorem pre_lt (bit : Nat → Bool) : ∀ i, pre bit i < 2 ^ i
  | 0 => Nat.zero_lt_one
  | i + 1 => by
    have ih := pre_lt bit i
    show 2 * pre bit i + (bit (254 - i)).toNat < 2 ^ (i + 1)
    rw [Nat.pow_succ]
    cases bit (254 - i) <;> simp only [Bool.toNat_true, Bool.toNat_false] <;> omega
theorem pre_ge (bit : Nat → Bool) (h : bit 254 = true) : ∀ i, 2 ^ i ≤ pre bit (i + 1)
  | 0 => by
    show 1 ≤ 2 * 0 + (bit 254).toNat
    rw [h]; decide
  | i + 1 => by
    have ih := pre_ge bit h i
    show 2 ^ (i + 1) ≤ 2 * pre bit (i + 1) + (bit (254 - (i + 1))).toNat
    rw [Nat.pow_succ]
    omega
theorem pre_eight (bit : Nat → Bool) (h0 : bit 0 = false) (h1 : bit 1 = false) (h2 : bit 2 = false) : pre bit 255 = 8 * pre bit 252 := by
  show 2 * (2 * (2 * pre bit 252 + (bit (254 - 252)).toNat) + (bit (254 - 253)).toNat) + (bit (254 - 254)).toNat = _
  rw [show 254 - 252 = 2 from rfl, show 254 - 253 = 1 from rfl, show 254 - 254 = 0 from rfl, h0, h1, h2]
  simp only [Bool.toNat_false]
  omega
end
end Ed

/-- The order. -/
abbrev ell : Nat := 7237005577332262213973186563042994240857116359379907606001950938285454250989
theorem ell_ev : ev 9 ell 255 1 0 9 1 = (16857629081775988918967617339154615858577410742097457426808874782976104598997, 0) := by decide +kernel
theorem ell_pre : Ed.pre (fun t => Nat.testBit ell t) 255 = ell := by decide +kernel
theorem base_one : base.y ≠ 1 := by decide +kernel
theorem base_minus : base.y ≠ -1 := by decide +kernel
theorem ell_nil : Ed.mul dz inz ell base = Ed.nil := by
  have hx : fz 9 * (1 - base.y) = 1 + base.y := by rw [Fin.mul_comm]; exact base_nine
  have up := (Ed.Up.run fld cz_con base_on hx base_one base_minus (fun t => Nat.testBit ell t) 255).lo
  rw [ell_pre] at up
  have hv : (fz 9).val = 9 := by decide +kernel
  have hev : ev (fz 9).val ell 255 1 0 (fz 9).val 1 = (16857629081775988918967617339154615858577410742097457426808874782976104598997, 0) := by rw [hv]; exact ell_ev
  obtain ⟨_, hb⟩ := ev_run (fz 9) ell _ _ hev
  have hb0 : (Ed.run cz (fz 9) (fun t => Nat.testBit ell t) 255).b = 0 := Fin.ext hb
  obtain ⟨ne, eq⟩ := up
  rw [hb0] at ne eq
  refine fld.nil_of cz_con (fld.mul_on base_on _) ?_
  rcases fld.dom (Ed.zero_rel _ _ eq) with q | q
  · exact absurd (show _ + (0 : Fin QN) = 0 by rw [q]; decide +kernel) ne
  · exact Ed.one_sub _ q
theorem ell_cop (a : Nat) (h0 : 0 < a) (h1 : a < ell) : Nat.Coprime ell a := Num.coprime_of Num.prime_7237005577332262213973186563042994240857116359379907606001950938285454250989 fun hd => absurd (Nat.le_of_dvd h0 hd) (by omega)
theorem ell_big : 2 ^ 252 < ell := by decide +kernel
theorem no_nil (a b : Nat) (ha0 : 0 < a) (ha : a < 2 ^ 252) (hb0 : 0 < b) (hb : b < 2 ^ 252) : Ed.mul dz inz (8 * a * (8 * b) * 2) base ≠ Ed.nil := by
  intro h
  have hl := ell_big
  have g := fld.gcd_nil base_on _ _ ell_nil h
  have c1 := ell_cop a ha0 (by omega)
  have c2 := ell_cop b hb0 (by omega)
  have c3 := ell_cop 128 (by decide) (by decide +kernel)
  have c := (c3.mul_right c1).mul_right c2
  rw [show 128 * a * b = 8 * a * (8 * b) * 2 by grind] at c
  rw [show Nat.gcd ell (8 * a * (8 * b) * 2) = 1 from c] at g
  have e : Ed.mul dz inz 1 base = base := by
    show Ed.sum dz inz Ed.nil base = base
    rw [Ed.sum_comm, fld.sum_nil]
  rw [e] at g
  exact base_one (by rw [g]; rfl)
theorem tm_nine_ne (k o f : Nat → Int) (hf : In 256 32 f) (ef : val 256 f 32 = ((tm k (one 9)).val : Int)) : ¬ tm o f = 0 := by
  intro h
  rw [tm_of o f _ hf ef, tm_nine, fld.ladder inz_zero cz_con base_on _ (trim_bit0 k), fld.ladder inz_zero cz_con (fld.mul_on base_on _) _ (trim_bit0 o), fld.mul_mul base_on] at h
  have h2 := fld.two_of cz_con (fld.mul_on base_on _) h
  rw [fld.mul_mul base_on, Ed.pre_eight _ (trim_bit0 k) (trim_bit1 k) (trim_bit2 k), Ed.pre_eight _ (trim_bit0 o) (trim_bit1 o) (trim_bit2 o)] at h2
  have gk := Ed.pre_ge _ (trim_bit254 k) 251
  have go := Ed.pre_ge _ (trim_bit254 o) 251
  exact no_nil _ _ (Nat.lt_of_lt_of_le (by decide) gk) (Ed.pre_lt _ 252) (Nat.lt_of_lt_of_le (by decide) go) (Ed.pre_lt _ 252) h2
end Go.Proofs.YthephehecapmhabDoor
