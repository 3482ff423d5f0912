/- What a ladder modulo n goes up to: a point, so many times; and the points that have few sums. No program stands in this. -/
import Derived.Test.YthephehecapmhabDoorEd
namespace Go.Proofs.YthephehecapmhabDoor
namespace Ed
section
variable {n : Nat} [NeZero n] {d : Fin n} {iv : Fin n → Fin n}

/-- Two fractions: a by b, c by d. -/
structure St (n : Nat) where
  a : Fin n
  b : Fin n
  c : Fin n
  d : Fin n
def climb (k x : Fin n) (s : St n) : St n :=
  ⟨((s.a + s.b) * (s.a + s.b)) * ((s.a - s.b) * (s.a - s.b)),
   ((s.a + s.b) * (s.a + s.b) - (s.a - s.b) * (s.a - s.b)) * ((s.a + s.b) * (s.a + s.b) + k * ((s.a + s.b) * (s.a + s.b) - (s.a - s.b) * (s.a - s.b))),
   ((s.c - s.d) * (s.a + s.b) + (s.c + s.d) * (s.a - s.b)) * ((s.c - s.d) * (s.a + s.b) + (s.c + s.d) * (s.a - s.b)),
   x * (((s.c - s.d) * (s.a + s.b) - (s.c + s.d) * (s.a - s.b)) * ((s.c - s.d) * (s.a + s.b) - (s.c + s.d) * (s.a - s.b)))⟩
def swap (b : Bool) (s : St n) : St n := if b then ⟨s.c, s.d, s.a, s.b⟩ else s
def step (k x : Fin n) (b : Bool) (s : St n) : St n := swap b (climb k x (swap b s))
def run (k x : Fin n) (bit : Nat → Bool) : Nat → St n
  | 0 => ⟨1, 0, x, 1⟩
  | i + 1 => step k x (bit (254 - i)) (run k x bit i)
def pre (bit : Nat → Bool) : Nat → Nat
  | 0 => 0
  | i + 1 => 2 * pre bit i + (bit (254 - i)).toNat
/-- What a ladder answers. -/
def out (iv : Fin n → Fin n) (s : St n) : Fin n := s.a * iv s.b
def aff (iv : Fin n → Fin n) (P : Pt n) : Fin n := (1 + P.y) * iv (1 - P.y)

structure Up (d : Fin n) (iv : Fin n → Fin n) (P : Pt n) (m : Nat) (s : St n) : Prop where
  lo : Rel (mul d iv m P).y s.a s.b
  hi : Rel (mul d iv (m + 1) P).y s.c s.d

theorem flip_c (a b c d : Fin n) : ((a - b) * (c + d) + (a + b) * (c - d)) * ((a - b) * (c + d) + (a + b) * (c - d)) = ((c - d) * (a + b) + (c + d) * (a - b)) * ((c - d) * (a + b) + (c + d) * (a - b)) := by grind
theorem flip_d (a b c d : Fin n) : ((a - b) * (c + d) - (a + b) * (c - d)) * ((a - b) * (c + d) - (a + b) * (c - d)) = ((c - d) * (a + b) - (c + d) * (a - b)) * ((c - d) * (a + b) - (c + d) * (a - b)) := by grind

theorem Up.step (h : Fld d iv) {k : Fin n} (hc : Con d k) {P : Pt n} (hP : On d P) {x : Fin n} (hx : x * (1 - P.y) = 1 + P.y) (h1 : P.y ≠ 1) (h2 : P.y ≠ -1) {m : Nat} {s : St n} (u : Up d iv P m s) (b : Bool) :
    Up d iv P (2 * m + b.toNat) (step k x b s) := by
  have om := h.mul_on hP m
  have om1 := h.mul_on hP (m + 1)
  have dd := h.dadd hP om hx h1 h2 u.lo u.hi
  rw [show sum d iv (mul d iv m P) (sum d iv (mul d iv m P) P) = mul d iv (2 * m + 1) P by
    rw [show 2 * m + 1 = m + (m + 1) by omega, h.mul_add hP m (m + 1)]; rfl] at dd
  cases b with
  | false =>
    have e1 := h.dbl hc om u.lo
    rw [← h.mul_add hP m m, show m + m = 2 * m + 0 by omega] at e1
    exact ⟨e1, dd⟩
  | true =>
    have e1 := h.dbl hc om1 u.hi
    rw [← h.mul_add hP (m + 1) (m + 1), show m + 1 + (m + 1) = 2 * m + 1 + 1 by omega] at e1
    refine ⟨?_, e1⟩
    show Rel _ (((s.a - s.b) * (s.c + s.d) + (s.a + s.b) * (s.c - s.d)) * ((s.a - s.b) * (s.c + s.d) + (s.a + s.b) * (s.c - s.d))) (x * (((s.a - s.b) * (s.c + s.d) - (s.a + s.b) * (s.c - s.d)) * ((s.a - s.b) * (s.c + s.d) - (s.a + s.b) * (s.c - s.d))))
    rw [flip_c, flip_d]
    exact dd

theorem start_ne (x y : Fin n) (hx : x * (1 - y) = 1 + y) (z : x + 1 = 0) : (2 : Fin n) = 0 := by grind
theorem start_eq (x y : Fin n) (hx : x * (1 - y) = 1 + y) : x - 1 = (x + 1) * y := by grind
theorem Up.start (h : Fld d iv) {P : Pt n} {x : Fin n} (hx : x * (1 - P.y) = 1 + P.y) : Up d iv P 0 ⟨1, 0, x, 1⟩ := by
  refine ⟨⟨fun z => h.one_ne (by simp only at z; clear h hx; grind), ?_⟩, ?_⟩
  · show (1 : Fin n) - 0 = (1 + 0) * 1
    clear h hx
    grind
  · show Rel (sum d iv nil P).y x 1
    rw [sum_comm, h.sum_nil]
    exact ⟨fun z => h.two (start_ne _ _ hx z), start_eq _ _ hx⟩
theorem Up.run (h : Fld d iv) {k : Fin n} (hc : Con d k) {P : Pt n} (hP : On d P) {x : Fin n} (hx : x * (1 - P.y) = 1 + P.y) (h1 : P.y ≠ 1) (h2 : P.y ≠ -1) (bit : Nat → Bool) : ∀ i, Up d iv P (pre bit i) (run k x bit i)
  | 0 => Up.start h hx
  | i + 1 => (Up.run h hc hP hx h1 h2 bit i).step h hc hP hx h1 h2 _

theorem one_sub (y : Fin n) (h : 1 - y = 0) : y = 1 := by grind
theorem zero_b (X Z : Fin n) (e : X - Z = (X + Z) * 1) : 2 * Z = 0 := by grind
theorem cross (X Z y u v : Fin n) (e : X - Z = (X + Z) * y) (hz : Z * u = 1) (hy : (1 - y) * v = 1) (h2 : 2 * (X * u) = 2 * ((1 + y) * v) → X * u = (1 + y) * v) : X * u = (1 + y) * v := by
  apply h2
  clear h2
  grind
theorem zero_rel (X y : Fin n) (e : X - 0 = (X + 0) * y) : X * (1 - y) = 0 := by grind
theorem Rel.out (h : Fld d iv) (h0 : iv 0 = 0) {y X Z : Fin n} (r : Rel y X Z) : X * iv Z = (1 + y) * iv (1 - y) := by
  by_cases hy : 1 - y = 0
  · have e := one_sub y hy
    have := r.eq
    rw [e] at this
    have hz : Z = 0 := by
      rcases h.dom (zero_b _ _ this) with q | q
      · exact absurd q h.two
      · exact q
    rw [hy, hz, h0]
    clear h r this
    grind
  · have hz : Z ≠ 0 := fun z => by
      have e := r.eq
      have ne := r.ne
      rw [z] at e ne
      rcases h.dom (zero_rel _ _ e) with q | q
      · exact ne (by rw [q]; clear h r e; grind)
      · exact hy q
    exact cross X Z y _ _ r.eq (h.inv _ hz) (h.inv _ hy) (fun q => h.cancel h.two q)

theorem mul_z' (a : Fin n) : a * 0 = (0 : Fin n) := by grind
theorem z_mul (a : Fin n) : 0 * a = (0 : Fin n) := by grind
theorem e_zero (a : Fin n) : (a + 0) * (a + 0) - (a - 0) * (a - 0) = (0 : Fin n) := by grind
/-- From the point 0 on nothing but 0 is answered. -/
theorem run_zero (k : Fin n) (bit : Nat → Bool) : ∀ i, (run k 0 bit i).b = 0
  | 0 => rfl
  | i + 1 => by
    have ih := run_zero k bit i
    show (step k 0 (bit (254 - i)) (run k 0 bit i)).b = 0
    generalize run k 0 bit i = s at *
    cases bit (254 - i) with
    | false =>
      show ((s.a + s.b) * (s.a + s.b) - (s.a - s.b) * (s.a - s.b)) * _ = 0
      rw [ih, e_zero, z_mul]
    | true => exact z_mul _

theorem at_one (x : Fin n) (hP : x * x + 1 * 1 = 1 + d * (x * x) * (1 * 1)) : x * x * (1 - d) = 0 := by grind
theorem at_minus (x : Fin n) (hP : x * x + -1 * -1 = 1 + d * (x * x) * (-1 * -1)) : x * x * (1 - d) = 0 := by grind
theorem con_ne (h : Fld d iv) {k : Fin n} (hc : Con d k) : (1 - d : Fin n) ≠ 0 := fun z => h.one_ne (by have := con_inv hc; rw [z, mul_z'] at this; exact this.symm)
theorem Fld.sq_zero (h : Fld d iv) {x : Fin n} (e : x * x = 0) : x = 0 := by rcases h.dom e with q | q <;> exact q
theorem dbl_minus (y v : Fin n) (hy : y = -1) : (0 * y + y * 0) * v = (0 : Fin n) ∧ (y * y - 0 * 0) = (1 : Fin n) ∧ (1 - d * 0 * 0 * y * y) = (1 : Fin n) := by
  subst hy
  refine ⟨?_, ?_, ?_⟩ <;> grind
/-- A ladder's answer is the point, so many times. -/
theorem Fld.ladder (h : Fld d iv) (h0 : iv 0 = 0) {k : Fin n} (hc : Con d k) {P : Pt n} (hP : On d P) (bit : Nat → Bool) (hb : bit 0 = false) :
    Ed.out iv (Ed.run k (aff iv P) bit 255) = aff iv (mul d iv (pre bit 255) P) := by
  by_cases h1 : P.y = 1
  · have hx : P.x = 0 := by
      have e := hP
      unfold On at e
      rw [h1] at e
      rcases h.dom (at_one _ e) with q | q
      · exact h.sq_zero q
      · exact absurd q (con_ne h hc)
    have eP : P = nil := by
      cases P
      simp only at h1 hx
      rw [h1, hx]; rfl
    have e0 : (1 : Fin n) - 1 = 0 := by clear h; grind
    have ea : aff iv (nil : Pt n) = 0 := by unfold aff nil; simp only; rw [e0, h0, mul_z']
    rw [eP, h.mul_nil, ea]
    unfold Ed.out
    rw [run_zero, h0, mul_z']
  · by_cases h2 : P.y = -1
    · have hx : P.x = 0 := by
        have e := hP
        unfold On at e
        rw [h2] at e
        rcases h.dom (at_minus _ e) with q | q
        · exact h.sq_zero q
        · exact absurd q (con_ne h hc)
      have ea : aff iv P = 0 := by
        unfold aff
        rw [h2]
        have : (1 + -1 : Fin n) = 0 := by clear h; grind
        rw [this, z_mul]
      have e2 : mul d iv 2 P = nil := by
        show sum d iv (sum d iv nil P) P = nil
        rw [sum_comm nil P, h.sum_nil]
        unfold sum nil
        obtain ⟨g1, g2, g3⟩ := dbl_minus (d := d) P.y (iv (1 + d * 0 * 0 * P.y * P.y)) h2
        rw [hx, g1, g2, g3, h.iv_one]
        rw [show (1 * 1 : Fin n) = 1 by clear h; grind]
      have ev : pre bit 255 = 2 * pre bit 254 := by
        show 2 * pre bit 254 + (bit (254 - 254)).toNat = _
        rw [hb]
        rfl
      have e0 : (1 : Fin n) - 1 = 0 := by clear h; grind
      have en : aff iv (nil : Pt n) = 0 := by unfold aff nil; simp only; rw [e0, h0, mul_z']
      rw [ea, ev, ← h.mul_mul hP 2, e2, h.mul_nil, en]
      unfold Ed.out
      rw [run_zero, h0, mul_z']
    · have hy : 1 - P.y ≠ 0 := fun z => h1 (one_sub _ z)
      have hx : aff iv P * (1 - P.y) = 1 + P.y := by
        have i := h.inv _ hy
        unfold aff
        generalize iv (1 - P.y) = u at *
        clear h h1 h2 hy hP
        grind
      exact (Up.run h hc hP hx h1 h2 bit 255).lo.out h h0

/-- Whoever begins. -/
theorem Fld.agrees (h : Fld d iv) (h0 : iv 0 = 0) {k : Fin n} (hc : Con d k) {P : Pt n} (hP : On d P) (a b : Nat → Bool) (ha : a 0 = false) (hb : b 0 = false) :
    Ed.out iv (Ed.run k (Ed.out iv (Ed.run k (aff iv P) b 255)) a 255) = Ed.out iv (Ed.run k (Ed.out iv (Ed.run k (aff iv P) a 255)) b 255) := by
  rw [h.ladder h0 hc hP b hb, h.ladder h0 hc hP a ha, h.ladder h0 hc (h.mul_on hP _) a ha, h.ladder h0 hc (h.mul_on hP _) b hb, h.mul_mul hP, h.mul_mul hP, Nat.mul_comm]

/-! The points 1 and -1. -/
structure Sm (s : St n) : Prop where
  lo : s.a * s.b * (s.a * s.a - s.b * s.b) = 0
  hi : s.c * s.d * (s.c * s.c - s.d * s.d) = 0
  both : (s.a * s.a - s.b * s.b) * (s.c * s.c - s.d * s.d) = 0
theorem Sm.swap {s : St n} (h : Sm s) (b : Bool) : Sm (swap b s) := by
  cases b with
  | false => exact h
  | true => exact ⟨h.hi, h.lo, by have := h.both; show (s.c * s.c - s.d * s.d) * (s.a * s.a - s.b * s.b) = 0; rw [← this]; exact Fin.mul_comm _ _⟩
theorem sm_lo (a b k : Fin n) (h : a * b * (a * a - b * b) = 0) : (((a + b) * (a + b)) * ((a - b) * (a - b))) * (((a + b) * (a + b) - (a - b) * (a - b)) * ((a + b) * (a + b) + k * ((a + b) * (a + b) - (a - b) * (a - b)))) = 0 := by
  have e : (((a + b) * (a + b)) * ((a - b) * (a - b))) * (((a + b) * (a + b) - (a - b) * (a - b)) * ((a + b) * (a + b) + k * ((a + b) * (a + b) - (a - b) * (a - b)))) = (a * b * (a * a - b * b)) * (4 * (a * a - b * b) * ((a + b) * (a + b) + k * ((a + b) * (a + b) - (a - b) * (a - b)))) := by clear h; grind
  rw [e, h, z_mul]
theorem sm_sq (a b c d : Fin n) (h : (a * a - b * b) * (c * c - d * d) = 0) : ((c - d) * (a + b) + (c + d) * (a - b)) * ((c - d) * (a + b) + (c + d) * (a - b)) = ((c - d) * (a + b) - (c + d) * (a - b)) * ((c - d) * (a + b) - (c + d) * (a - b)) := by grind
theorem sm_hi (u x : Fin n) (hx : x * x = 1) : u * u - x * u * (x * u) = 0 := by grind
theorem Sm.climb {s : St n} (h : Sm s) {x : Fin n} (hx : x * x = 1) (k : Fin n) : Sm (climb k x s) := by
  have e1 := sm_lo s.a s.b k h.lo
  have e2 := sm_sq s.a s.b s.c s.d h.both
  have e3 : (Ed.climb k x s).c * (Ed.climb k x s).c - (Ed.climb k x s).d * (Ed.climb k x s).d = 0 := by
    have ec : (Ed.climb k x s).c = ((s.c - s.d) * (s.a + s.b) + (s.c + s.d) * (s.a - s.b)) * ((s.c - s.d) * (s.a + s.b) + (s.c + s.d) * (s.a - s.b)) := rfl
    rw [ec, e2]
    exact sm_hi _ _ hx
  refine ⟨?_, ?_, ?_⟩
  · have : (Ed.climb k x s).a * (Ed.climb k x s).b = 0 := e1
    rw [this, z_mul]
  · rw [e3, mul_z']
  · rw [e3, mul_z']
theorem sm_start (x : Fin n) (hx : x * x = 1) : Sm (⟨1, 0, x, 1⟩ : St n) := by
  refine ⟨?_, ?_, ?_⟩ <;> simp only <;> grind
theorem Sm.run {x : Fin n} (hx : x * x = 1) (k : Fin n) (bit : Nat → Bool) : ∀ i, Sm (run k x bit i)
  | 0 => sm_start x hx
  | i + 1 => (((Sm.run hx k bit i).swap _).climb hx k).swap _
theorem sm_e (a b : Fin n) (h : a * b = 0) : (a + b) * (a + b) - (a - b) * (a - b) = 0 := by grind
theorem small (iv : Fin n → Fin n) (h0 : iv 0 = 0) {x : Fin n} (hx : x * x = 1) (k : Fin n) (bit : Nat → Bool) (b0 : bit 0 = false) (b1 : bit 1 = false) : out iv (Ed.run k x bit 255) = 0 := by
  have e1 : Ed.run k x bit 255 = Ed.climb k x (Ed.run k x bit 254) := by
    show step k x (bit (254 - 254)) (Ed.run k x bit 254) = _
    rw [b0]; rfl
  have e2 : Ed.run k x bit 254 = Ed.climb k x (Ed.run k x bit 253) := by
    show step k x (bit (254 - 253)) (Ed.run k x bit 253) = _
    rw [b1]; rfl
  have h1 := Sm.run hx k bit 253
  have h2 : (Ed.run k x bit 254).a * (Ed.run k x bit 254).b = 0 := by rw [e2]; exact sm_lo _ _ _ h1.lo
  have h3 : (Ed.run k x bit 255).b = 0 := by
    rw [e1]
    show (_ - _) * _ = _
    rw [sm_e _ _ h2, z_mul]
  unfold out
  rw [h3, h0, mul_z']
theorem nought (iv : Fin n → Fin n) (h0 : iv 0 = 0) (k : Fin n) (bit : Nat → Bool) : out iv (Ed.run k 0 bit 255) = 0 := by
  unfold out
  rw [run_zero, h0, mul_z']
end
end Ed
end Go.Proofs.YthephehecapmhabDoor
