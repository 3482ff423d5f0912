/- Whole numbers as numbers modulo 2^255 - 19; this curve's own d, its base point, its inverses; a ladder reckoned. No program stands in this. -/
import Derived.Test.YthephehecapmhabDoorLad
namespace Go.Proofs.YthephehecapmhabDoor
open Go.RowKit

abbrev QN : Nat := 57896044618658097711785492504343953926634992332820282019728792003956564819949
theorem Q_pos : (0 : Int) < Q := by decide
theorem Q_QN : Q = (QN : Int) := rfl
/-- A whole number, modulo 2^255 - 19. -/
def fz (z : Int) : Fin QN := ⟨(z % Q).toNat, by have := Int.emod_lt_of_pos z Q_pos; have := Int.emod_nonneg z (show Q ≠ 0 by decide); simp only [Q, QN] at *; omega⟩

theorem fz_val (z : Int) : ((fz z).val : Int) = z % Q := by
  have := Int.emod_nonneg z (show Q ≠ 0 by decide)
  simp only [fz]
  omega
theorem fz_eq {a b : Int} (h : a % Q = b % Q) : fz a = fz b := by
  apply Fin.ext
  simp only [fz, h]
theorem fz_inj {a b : Int} (h : fz a = fz b) : a % Q = b % Q := by rw [← fz_val, ← fz_val, h]
theorem fz_mod (z : Int) : fz (z % Q) = fz z := fz_eq (Int.emod_emod z Q)
theorem fz_of (x : Fin QN) : fz (x.val : Int) = x := by
  apply Fin.ext
  have := x.isLt
  simp only [fz]
  rw [Q_QN, Int.emod_eq_of_lt (by omega) (by omega)]
  rfl
theorem fz_add (a b : Int) : fz (a + b) = fz a + fz b := by
  apply Fin.ext
  have h := Fin.val_add (fz a) (fz b)
  have ha := fz_val a
  have hb := fz_val b
  have hc := fz_val (a + b)
  rw [Int.add_emod, ← ha, ← hb, Q_QN] at hc
  rw [h]
  omega
theorem fz_mul (a b : Int) : fz (a * b) = fz a * fz b := by
  apply Fin.ext
  have h := Fin.val_mul (fz a) (fz b)
  have ha := fz_val a
  have hb := fz_val b
  have hc := fz_val (a * b)
  rw [Int.mul_emod, ← ha, ← hb, Q_QN, ← Int.natCast_mul] at hc
  rw [h]
  omega
theorem fz_sub (a b : Int) : fz (a - b) = fz a - fz b := by
  apply Fin.ext
  have h : (fz a - fz b).val = ((QN - (fz b).val) + (fz a).val) % QN := by rfl
  have ha := fz_val a
  have hb := fz_val b
  have hc := fz_val (a - b)
  have hl := (fz b).isLt
  rw [Int.sub_emod, ← ha, ← hb, Q_QN] at hc
  rw [h]
  clear h ha hb
  generalize (fz a).val = x at *
  generalize (fz b).val = y at *
  generalize (fz (a - b)).val = z at *
  simp only [QN] at *
  omega

/-- Its inverse, by Fermat; that of 0 is 0. -/
def inz (x : Fin QN) : Fin QN := fz ((x.val : Int) ^ E)
theorem inz_fz (z : Int) : fz (z ^ E) = inz (fz z) := by
  unfold inz
  refine fz_eq ?_
  rw [fz_val, mpow]
theorem inz_zero : inz 0 = 0 := by
  apply Fin.ext
  have h := fz_val (((0 : Fin QN).val : Int) ^ E)
  rw [zero_pow _ (by decide)] at h
  show (fz _).val = 0
  omega
theorem inz_inv (x : Fin QN) (h : x ≠ 0) : x * inz x = 1 := by
  have h0 : (0 : Int) ≤ (x.val : Int) := by omega
  have hx : (x.val : Int) % Q ≠ 0 := by
    intro e
    apply h
    apply Fin.ext
    have := x.isLt
    rw [Q_QN, Int.emod_eq_of_lt h0 (by omega)] at e
    show x.val = 0
    omega
  have f := fermat _ h0 hx
  have e : fz ((x.val : Int) * (x.val : Int) ^ E) = fz 1 := fz_eq (by rw [f]; decide)
  rw [fz_mul, fz_of] at e
  exact e

/-- 121665 by 121666. -/
def dz : Fin QN := ⟨20800338683988658368647408995589388737092878452977063003340006470870624536394, by decide⟩
def cz : Fin QN := fz 121665
theorem cz_con : Ed.Con dz cz := ⟨by decide +kernel⟩
theorem two_ne : (2 : Fin QN) ≠ 0 := by decide +kernel
theorem dz_pow : Num.pm QN 256 20800338683988658368647408995589388737092878452977063003340006470870624536394 28948022309329048855892746252171976963317496166410141009864396001978282409974 = QN - 1 := by decide +kernel
theorem nsq_any (r z D e : Nat) (hr : Num.Prime r) (hz : ¬ r ∣ z) (he : 2 * e = r - 1) (h : z * z % r = D) (hs : e < 2 ^ 256) (hp : Num.pm r 256 D e = r - 1) (h2 : r - 1 ≠ 1) : False := by
  have f := Num.fermat_one hr z hz
  rw [Num.pm_eq _ 256 _ _ hs, ← h, ← Nat.pow_mod, ← Nat.pow_two, ← Nat.pow_mul, he, f] at hp
  exact h2 hp.symm
/-- d is no square: Euler's power of it is -1. -/
theorem dz_nsq (z : Fin QN) : z * z ≠ dz := by
  intro e
  have h : (z.val * z.val) % QN = 20800338683988658368647408995589388737092878452977063003340006470870624536394 := congrArg Fin.val e
  have hz : ¬ QN ∣ z.val := fun hz => by
    rw [Nat.eq_zero_of_dvd_of_lt hz z.isLt] at h
    exact absurd h (by decide)
  exact nsq_any QN z.val _ _ Num.prime_p hz (by decide) h (by decide +kernel) dz_pow (by decide)
theorem fld : Ed.Fld dz inz := ⟨inz_inv, dz_nsq, two_ne⟩

/-- The point whose fraction is 9. -/
def base : Ed.Pt QN := ⟨⟨9771384041963202563870679428059935816164187996444183106833894008023910952347, by decide⟩, ⟨46316835694926478169428394003475163141307993866256225615783033603165251855960, by decide⟩⟩
theorem base_on : Ed.On dz base := by unfold Ed.On; decide +kernel
theorem base_ne : (1 - base.y : Fin QN) ≠ 0 := by decide +kernel
theorem base_nine : (1 - base.y) * fz 9 = 1 + base.y := by decide +kernel
theorem base_aff : Ed.aff inz base = fz 9 := by
  have i := inz_inv _ base_ne
  refine fld.cancel base_ne ?_
  rw [base_nine]
  unfold Ed.aff
  rw [Fin.mul_comm (1 + base.y), ← Fin.mul_assoc, i, Fin.one_mul]

/-! A ladder reckoned with whole numbers, each as soon as it is there. -/
def force {α : Type} (t : Nat) (f : Nat → α) : α :=
  match t with
  | 0 => f 0
  | m + 1 => f (m + 1)
theorem force_eq {α : Type} (t : Nat) (f : Nat → α) : force t f = f t := by cases t <;> rfl
def nclimb {α : Type} (x a b c d : Nat) (f : Nat → Nat → Nat → Nat → α) : α :=
  force ((a + b) % QN) fun A => force ((QN - b + a) % QN) fun B => force ((c + d) % QN) fun C => force ((QN - d + c) % QN) fun D =>
  force (A * A % QN) fun AA => force (B * B % QN) fun BB => force ((QN - BB + AA) % QN) fun E' => force (D * A % QN) fun DA => force (C * B % QN) fun CB =>
  force ((DA + CB) % QN) fun s => force ((QN - CB + DA) % QN) fun m =>
  force (AA * BB % QN) fun a' => force (E' * ((AA + 121665 * E' % QN) % QN) % QN) fun b' => force (s * s % QN) fun c' => force (x * (m * m % QN) % QN) fun d' => f a' b' c' d'
def ev (x bits : Nat) : Nat → Nat → Nat → Nat → Nat → Nat × Nat
  | 0, a, b, _, _ => (a, b)
  | i + 1, a, b, c, d =>
    match Nat.testBit bits i with
    | false => nclimb x a b c d fun a' b' c' d' => ev x bits i a' b' c' d'
    | true => nclimb x c d a b fun a' b' c' d' => ev x bits i c' d' a' b'
def rd (x : Fin QN) (bit : Nat → Bool) : Nat → Ed.St QN → Ed.St QN
  | 0, s => s
  | i + 1, s => rd x bit i (Ed.step cz x (bit i) s)
theorem rd_run (x : Fin QN) (bit : Nat → Bool) : ∀ i, i ≤ 255 → rd x bit (255 - i) (Ed.run cz x bit i) = rd x bit 255 ⟨1, 0, x, 1⟩
  | 0, _ => rfl
  | i + 1, h => by
    rw [← rd_run x bit i (by omega), show 255 - i = (254 - i) + 1 by omega, show 255 - (i + 1) = 254 - i by omega]
    rfl
theorem run_rd (x : Fin QN) (bit : Nat → Bool) : Ed.run cz x bit 255 = rd x bit 255 ⟨1, 0, x, 1⟩ := rd_run x bit 255 (by omega)
theorem nclimb_eq {α : Type} (x : Fin QN) (s : Ed.St QN) (f : Nat → Nat → Nat → Nat → α) :
    nclimb x.val s.a.val s.b.val s.c.val s.d.val f = f (Ed.climb cz x s).a.val (Ed.climb cz x s).b.val (Ed.climb cz x s).c.val (Ed.climb cz x s).d.val := by
  simp only [nclimb, force_eq]
  rfl
theorem ev_rd (x : Fin QN) (bits : Nat) : ∀ (i : Nat) (s : Ed.St QN), ev x.val bits i s.a.val s.b.val s.c.val s.d.val = ((rd x (fun t => Nat.testBit bits t) i s).a.val, (rd x (fun t => Nat.testBit bits t) i s).b.val)
  | 0, _ => rfl
  | i + 1, s => by
    show (match Nat.testBit bits i with | false => _ | true => _) = ((rd x (fun t => Nat.testBit bits t) i (Ed.step cz x (Nat.testBit bits i) s)).a.val, (rd x (fun t => Nat.testBit bits t) i (Ed.step cz x (Nat.testBit bits i) s)).b.val)
    cases hb : Nat.testBit bits i with
    | false =>
      simp only
      rw [nclimb_eq x s, ev_rd x bits i (Ed.climb cz x s)]
      rfl
    | true =>
      simp only
      rw [nclimb_eq x ⟨s.c, s.d, s.a, s.b⟩]
      exact ev_rd x bits i (Ed.step cz x true s)
theorem ev_run (x : Fin QN) (bits a b : Nat) (h : ev x.val bits 255 1 0 x.val 1 = (a, b)) : (Ed.run cz x (fun t => Nat.testBit bits t) 255).a.val = a ∧ (Ed.run cz x (fun t => Nat.testBit bits t) 255).b.val = b := by
  rw [run_rd]
  have e := ev_rd x bits 255 ⟨1, 0, x, 1⟩
  have h' : ev x.val bits 255 (1 : Fin QN).val (0 : Fin QN).val x.val (1 : Fin QN).val = (a, b) := h
  rw [e] at h'
  injection h' with h1 h2
  exact ⟨h1, h2⟩
end Go.Proofs.YthephehecapmhabDoor
