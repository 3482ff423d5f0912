/- Plain facts on the sums of points of x x + y y = 1 + d x x y y modulo n, where d is no square, and on fractions that a ladder goes up by; no program stands in them. -/
import Derived.Test.YthephehecapmhabDoorMath
namespace Go.Proofs.YthephehecapmhabDoor
namespace Ed
section
variable {n : Nat} [NeZero n]

/-- A pair of numbers modulo n. -/
structure Pt (n : Nat) where
  x : Fin n
  y : Fin n

/-- What is asked of the modulus and of d: inverses, and that d is no square. -/
structure Fld (d : Fin n) (iv : Fin n → Fin n) : Prop where
  inv : ∀ a, a ≠ 0 → a * iv a = 1
  nsq : ∀ z, z * z ≠ d
  two : (2 : Fin n) ≠ 0

def On (d : Fin n) (P : Pt n) : Prop := P.x * P.x + P.y * P.y = 1 + d * (P.x * P.x) * (P.y * P.y)
def sum (d : Fin n) (iv : Fin n → Fin n) (P R : Pt n) : Pt n :=
  ⟨(P.x * R.y + P.y * R.x) * iv (1 + d * P.x * R.x * P.y * R.y), (P.y * R.y - P.x * R.x) * iv (1 - d * P.x * R.x * P.y * R.y)⟩

variable {d : Fin n} {iv : Fin n → Fin n}

theorem Fld.dom (h : Fld d iv) {a b : Fin n} (hab : a * b = 0) : a = 0 ∨ b = 0 := by
  by_cases ha : a = 0
  · exact .inl ha
  · refine .inr ?_
    have := h.inv a ha
    grind
theorem Fld.one_ne (h : Fld d iv) : (1 : Fin n) ≠ 0 := by
  intro e
  apply h.nsq 0
  have e2 : d = 0 := by
    have : d * 1 = d * 0 := by rw [e]
    clear h
    grind
  rw [e2]
  clear h
  grind
theorem Fld.cancel (h : Fld d iv) {a b c : Fin n} (ha : a ≠ 0) (hab : a * b = a * c) : b = c := by
  have := h.inv a ha
  grind
theorem Fld.mul_ne (h : Fld d iv) {a b : Fin n} (ha : a ≠ 0) (hb : b ≠ 0) : a * b ≠ 0 := fun e => by
  rcases h.dom e with e | e
  · exact ha e
  · exact hb e
/-- No ratio of squares is d. -/
theorem Fld.ratio (h : Fld d iv) {a b : Fin n} (hb : b ≠ 0) (e : a * a = d * (b * b)) : False := by
  have i := h.inv b hb
  apply h.nsq (a * iv b)
  grind

/-- The sum's denominators are not 0. -/
theorem Fld.whole (h : Fld d iv) {x1 y1 x2 y2 : Fin n} (c1 : x1 * x1 + y1 * y1 = 1 + d * (x1 * x1) * (y1 * y1)) (c2 : x2 * x2 + y2 * y2 = 1 + d * (x2 * x2) * (y2 * y2)) :
    1 + d * x1 * x2 * y1 * y2 ≠ 0 ∧ 1 - d * x1 * x2 * y1 * y2 ≠ 0 := by
  have key : ∀ e : Fin n, e = d * x1 * x2 * y1 * y2 → e * e = 1 → False := by
    intro e he h1
    have hxy : x1 * y1 ≠ 0 := fun z => h.one_ne (by rw [← h1, he]; grind)
    have hx2 : x2 ≠ 0 := fun z => h.one_ne (by rw [← h1, he, z]; grind)
    by_cases s : x2 + y2 = 0
    · have s' : x2 - y2 ≠ 0 := fun z => by
        have : 2 * x2 = 0 := by grind
        rcases h.dom this with z | z
        · exact h.two z
        · exact hx2 z
      refine h.ratio (a := x1 - e * y1) (b := x1 * y1 * (x2 - y2)) (h.mul_ne hxy s') ?_
      grind
    · refine h.ratio (a := x1 + e * y1) (b := x1 * y1 * (x2 + y2)) (h.mul_ne hxy s) ?_
      grind
  constructor
  · intro z
    refine key _ rfl ?_
    have : d * x1 * x2 * y1 * y2 = -1 := by grind
    rw [this]; grind
  · intro z
    refine key _ rfl ?_
    have : d * x1 * x2 * y1 * y2 = 1 := by grind
    rw [this]; grind

/-- What a sum's coordinates are, with no division. -/
theorem Fld.sum_eq (h : Fld d iv) {P R : Pt n} (hP : On d P) (hR : On d R) :
    (sum d iv P R).x * (1 + d * P.x * R.x * P.y * R.y) = P.x * R.y + P.y * R.x ∧ (sum d iv P R).y * (1 - d * P.x * R.x * P.y * R.y) = P.y * R.y - P.x * R.x := by
  obtain ⟨w1, w2⟩ := h.whole hP hR
  have i1 := h.inv _ w1
  have i2 := h.inv _ w2
  constructor
  · simp only [sum]; generalize iv (1 + d * P.x * R.x * P.y * R.y) = u at *; grind
  · simp only [sum]; generalize iv (1 - d * P.x * R.x * P.y * R.y) = u at *; grind

theorem curve_poly (x1 y1 x2 y2 : Fin n) (c1 : x1 * x1 + y1 * y1 = 1 + d * (x1 * x1) * (y1 * y1)) (c2 : x2 * x2 + y2 * y2 = 1 + d * (x2 * x2) * (y2 * y2)) (e : Fin n) (he : e = d * x1 * x2 * y1 * y2) :
    (x1*y2+y1*x2)*(x1*y2+y1*x2)*((1-e)*(1-e)) + (y1*y2-x1*x2)*(y1*y2-x1*x2)*((1+e)*(1+e)) = (1-e)*(1-e)*((1+e)*(1+e)) + d*((x1*y2+y1*x2)*(x1*y2+y1*x2))*((y1*y2-x1*x2)*(y1*y2-x1*x2)) := by
  subst he
  grind

theorem Fld.sum_on (h : Fld d iv) {P R : Pt n} (hP : On d P) (hR : On d R) : On d (sum d iv P R) := by
  obtain ⟨w1, w2⟩ := h.whole hP hR
  obtain ⟨e1, e2⟩ := h.sum_eq hP hR
  have hc := curve_poly P.x P.y R.x R.y hP hR _ rfl
  unfold On
  generalize (sum d iv P R).x = X at *
  generalize (sum d iv P R).y = Y at *
  generalize d * P.x * R.x * P.y * R.y = e at *
  rw [← e1, ← e2] at hc
  have w := h.mul_ne (h.mul_ne w1 w1) (h.mul_ne w2 w2)
  refine h.cancel w ?_
  clear e1 e2 w w1 w2 hP hR h
  grind

theorem sum_comm (P R : Pt n) : sum d iv P R = sum d iv R P := by
  unfold sum
  congr 2 <;> grind

theorem assoc_x (x1 y1 x2 y2 x3 y3 : Fin n) (c1 : x1*x1+y1*y1 = 1 + d*(x1*x1)*(y1*y1)) (c2 : x2*x2+y2*y2 = 1 + d*(x2*x2)*(y2*y2)) (c3 : x3*x3+y3*y3 = 1 + d*(x3*x3)*(y3*y3))
    (a b e p q f : Fin n) (ha : a = x1*y2+y1*x2) (hb : b = y1*y2-x1*x2) (he : e = d*x1*x2*y1*y2) (hp : p = x2*y3+y2*x3) (hq : q = y2*y3-x2*x3) (hf : f = d*x2*x3*y2*y3) :
    (a*(1-e)*y3 + b*(1+e)*x3) * ((1+f)*(1-f) + d*x1*y1*p*q) = (x1*q*(1+f) + y1*p*(1-f)) * ((1+e)*(1-e) + d*a*b*x3*y3) := by
  subst ha hb he hp hq hf
  grind
theorem assoc_y (x1 y1 x2 y2 x3 y3 : Fin n) (c1 : x1*x1+y1*y1 = 1 + d*(x1*x1)*(y1*y1)) (c2 : x2*x2+y2*y2 = 1 + d*(x2*x2)*(y2*y2)) (c3 : x3*x3+y3*y3 = 1 + d*(x3*x3)*(y3*y3))
    (a b e p q f : Fin n) (ha : a = x1*y2+y1*x2) (hb : b = y1*y2-x1*x2) (he : e = d*x1*x2*y1*y2) (hp : p = x2*y3+y2*x3) (hq : q = y2*y3-x2*x3) (hf : f = d*x2*x3*y2*y3) :
    (b*(1+e)*y3 - a*(1-e)*x3) * ((1+f)*(1-f) - d*x1*y1*p*q) = (y1*q*(1+f) - x1*p*(1-f)) * ((1+e)*(1-e) - d*a*b*x3*y3) := by
  subst ha hb he hp hq hf
  grind
theorem Fld.assoc (h : Fld d iv) {P R S : Pt n} (hP : On d P) (hR : On d R) (hS : On d S) : sum d iv (sum d iv P R) S = sum d iv P (sum d iv R S) := by
  have oPR := h.sum_on hP hR
  have oRS := h.sum_on hR hS
  obtain ⟨e1, e2⟩ := h.sum_eq hP hR
  obtain ⟨f1, f2⟩ := h.sum_eq hR hS
  obtain ⟨l1, l2⟩ := h.sum_eq oPR hS
  obtain ⟨r1, r2⟩ := h.sum_eq hP oRS
  obtain ⟨we1, we2⟩ := h.whole hP hR
  obtain ⟨wf1, wf2⟩ := h.whole hR hS
  obtain ⟨wl1, wl2⟩ := h.whole oPR hS
  obtain ⟨wr1, wr2⟩ := h.whole hP oRS
  have ax := assoc_x P.x P.y R.x R.y S.x S.y hP hR hS _ _ _ _ _ _ rfl rfl rfl rfl rfl rfl
  have ay := assoc_y P.x P.y R.x R.y S.x S.y hP hR hS _ _ _ _ _ _ rfl rfl rfl rfl rfl rfl
  rw [← e1, ← e2, ← f1, ← f2] at ax ay
  generalize sum d iv (sum d iv P R) S = L at *
  generalize sum d iv P (sum d iv R S) = M at *
  generalize sum d iv P R = A at *
  generalize sum d iv R S = B at *
  generalize d * P.x * R.x * P.y * R.y = e at *
  generalize d * R.x * S.x * R.y * S.y = f at *
  clear e1 e2 f1 f2 oPR oRS hP hR hS
  have wE := h.mul_ne we1 we2
  have wF := h.mul_ne wf1 wf2
  have gx : L.x = M.x := by
    refine h.cancel (h.mul_ne (h.mul_ne wE wF) (h.mul_ne wl1 wr1)) ?_
    clear l2 r2 ay h we1 we2 wf1 wf2 wl1 wl2 wr1 wr2 wE wF
    have a1 : (A.x * S.y + A.y * S.x) * (1 + d * P.x * B.x * P.y * B.y) * ((1+e)*(1-e)*((1+f)*(1-f))) = (P.x * B.y + P.y * B.x) * (1 + d * A.x * S.x * A.y * S.y) * ((1+e)*(1-e)*((1+f)*(1-f))) := by clear l1 r1; grind
    rw [← l1, ← r1] at a1
    clear ax l1 r1
    grind
  have gy : L.y = M.y := by
    refine h.cancel (h.mul_ne (h.mul_ne wE wF) (h.mul_ne wl2 wr2)) ?_
    clear l1 r1 ax h we1 we2 wf1 wf2 wl1 wl2 wr1 wr2 wE wF gx
    have a1 : (A.y * S.y - A.x * S.x) * (1 - d * P.x * B.x * P.y * B.y) * ((1+e)*(1-e)*((1+f)*(1-f))) = (P.y * B.y - P.x * B.x) * (1 - d * A.x * S.x * A.y * S.y) * ((1+e)*(1-e)*((1+f)*(1-f))) := by clear l2 r2; grind
    rw [← l2, ← r2] at a1
    clear ay l2 r2
    grind
  cases L; cases M
  simp only at gx gy
  rw [gx, gy]

/-- The point that changes nothing, and the one across. -/
def nil : Pt n := ⟨0, 1⟩
def neg (P : Pt n) : Pt n := ⟨-P.x, P.y⟩
theorem nil_on : On d (nil : Pt n) := by unfold On nil; grind
theorem neg_on {P : Pt n} (h : On d P) : On d (neg P) := by unfold On neg at *; simp only; grind
theorem Fld.iv_one (h : Fld d iv) : iv 1 = 1 := by
  have := h.inv 1 h.one_ne
  clear h
  grind
theorem Fld.sum_nil (h : Fld d iv) (P : Pt n) : sum d iv P nil = P := by
  have i := h.iv_one
  cases P with | mk x y =>
  simp only [sum, nil]
  rw [show (1 + d * x * 0 * y * 1 : Fin n) = 1 by grind, show (1 - d * x * 0 * y * 1 : Fin n) = 1 by grind, i]
  congr 1 <;> grind
theorem Fld.sum_neg (h : Fld d iv) {P : Pt n} (hP : On d P) : sum d iv P (neg P) = nil := by
  obtain ⟨e1, e2⟩ := h.sum_eq hP (neg_on hP)
  obtain ⟨w1, w2⟩ := h.whole hP (neg_on hP)
  generalize hS : sum d iv P (neg P) = S at *
  cases P with | mk x y =>
  cases S with | mk X Y =>
  simp only [neg, On] at *
  have gx : X = 0 := by
    refine h.cancel w1 ?_
    clear h w1 w2 hS e2 hP
    grind
  have gy : Y = 1 := by
    refine h.cancel w2 ?_
    clear h w1 w2 hS e1
    grind
  rw [gx, gy]; rfl

/-- A point, so many times. -/
def mul (d : Fin n) (iv : Fin n → Fin n) : Nat → Pt n → Pt n
  | 0, _ => nil
  | k + 1, P => sum d iv (mul d iv k P) P
theorem Fld.mul_on (h : Fld d iv) {P : Pt n} (hP : On d P) : ∀ k, On d (mul d iv k P)
  | 0 => nil_on
  | k + 1 => h.sum_on (h.mul_on hP k) hP
theorem Fld.mul_add (h : Fld d iv) {P : Pt n} (hP : On d P) (a : Nat) : ∀ b, mul d iv (a + b) P = sum d iv (mul d iv a P) (mul d iv b P)
  | 0 => (h.sum_nil _).symm
  | b + 1 => by
    show sum d iv (mul d iv (a + b) P) P = sum d iv (mul d iv a P) (sum d iv (mul d iv b P) P)
    rw [h.mul_add hP a b, h.assoc (h.mul_on hP a) (h.mul_on hP b) hP]
theorem Fld.mul_mul (h : Fld d iv) {P : Pt n} (hP : On d P) (a : Nat) : ∀ b, mul d iv b (mul d iv a P) = mul d iv (a * b) P
  | 0 => rfl
  | b + 1 => by
    show sum d iv (mul d iv b (mul d iv a P)) (mul d iv a P) = _
    rw [h.mul_mul hP a b, Nat.mul_succ, h.mul_add hP]
theorem Fld.mul_nil (h : Fld d iv) : ∀ b, mul d iv b (nil : Pt n) = nil
  | 0 => rfl
  | b + 1 => by
    show sum d iv (mul d iv b nil) nil = _
    rw [h.sum_nil, h.mul_nil b]

/-! The ladder: fractions X by Z, where (X - Z) by (X + Z) is a point's second number. -/
structure Rel (y X Z : Fin n) : Prop where
  ne : X + Z ≠ 0
  eq : X - Z = (X + Z) * y

/-- What 486662 and d have to do with each other: c is 121665. -/
structure Con (d c : Fin n) : Prop where
  eq : (c + 1) * d = c

theorem con_inv {c : Fin n} (hc : Con d c) : (c + 1) * (1 - d) = 1 := by
  have := hc.eq
  grind
theorem dbl_y2 (c x y : Fin n) (hc : (c + 1) * d = c) (hP : x * x + y * y = 1 + d * (x * x) * (y * y)) : y * y = (c + 1) * (1 - x * x) * (1 - d * (y * y)) := by grind
theorem dbl_e (c y : Fin n) (hc : (c + 1) * d = c) : 1 + c * (1 - y * y) = (c + 1) * (1 - d * (y * y)) := by grind

/-- The first fraction of a step. -/
theorem Fld.dbl (h : Fld d iv) {c : Fin n} (hc : Con d c) {P : Pt n} (hP : On d P) {X Z : Fin n} (r : Rel P.y X Z) :
    Rel (sum d iv P P).y (((X + Z) * (X + Z)) * ((X - Z) * (X - Z)))
      (((X + Z) * (X + Z) - (X - Z) * (X - Z)) * ((X + Z) * (X + Z) + c * ((X + Z) * (X + Z) - (X - Z) * (X - Z)))) := by
  obtain ⟨ne, eq⟩ := r
  rw [eq]
  generalize X + Z = s at *
  obtain ⟨_, e2⟩ := h.sum_eq hP hP
  obtain ⟨w1, w2⟩ := h.whole hP hP
  generalize (sum d iv P P).y = Y at *
  cases P with | mk x y =>
  simp only [On] at *
  have k1 := dbl_y2 c x y hc.eq hP
  have k2 := dbl_e (d := d) c y hc.eq
  have hd : 1 - d * (y * y) ≠ 0 := fun z => h.ratio (a := 1) (b := y) (fun z' => h.one_ne (by rw [z'] at z; clear h k1 k2 e2 w1 w2 eq; grind)) (by clear h k1 k2 e2 w1 w2 eq; grind) |> fun f => f
  have hc1 : c + 1 ≠ 0 := fun z => h.one_ne (by have := con_inv hc; rw [z] at this; clear h k1 k2 e2 w1 w2 eq; grind)
  have sums : s * s * (s * y * (s * y)) + (s * s - s * y * (s * y)) * (s * s + c * (s * s - s * y * (s * y))) = s * s * (s * s) * ((c + 1) * (1 - d * (y * y))) * (1 - d * x * x * y * y) := by
    clear h w1 w2 e2 hd hc1 eq ne
    grind
  have diff : s * s * (s * y * (s * y)) - (s * s - s * y * (s * y)) * (s * s + c * (s * s - s * y * (s * y))) = s * s * (s * s) * ((c + 1) * (1 - d * (y * y))) * (y * y - x * x) := by
    clear h w1 w2 e2 hd hc1 eq ne sums
    grind
  refine ⟨?_, ?_⟩
  · rw [sums]
    exact h.mul_ne (h.mul_ne (h.mul_ne (h.mul_ne ne ne) (h.mul_ne ne ne)) (h.mul_ne hc1 hd)) w2
  · rw [sums, diff, ← e2]
    clear sums diff h w1 w2 e2 hd hc1 eq ne k1 k2 hP hc
    grind

theorem dadd_poly (x1 y1 x2 y2 e : Fin n) (c1 : x1 * x1 + y1 * y1 = 1 + d * (x1 * x1) * (y1 * y1)) (c2 : x2 * x2 + y2 * y2 = 1 + d * (x2 * x2) * (y2 * y2)) (he : e = d * x1 * x2 * y1 * y2) :
    (y1 + y2) * (y1 + y2) * (1 + e - (y1 * y2 + x1 * x2)) * (1 - e - (y1 * y2 - x1 * x2)) = (y2 - y1) * (y2 - y1) * (1 + e + (y1 * y2 + x1 * x2)) * (1 - e + (y1 * y2 - x1 * x2)) := by
  subst he
  grind

theorem turn_neg (yP x1 x2 y1 y2 : Fin n) (e1 : yP * (1 - d * x2 * -x1 * y2 * y1) = y2 * y1 - x2 * -x1) : yP * (1 + d * x1 * x2 * y1 * y2) = y1 * y2 + x1 * x2 := by grind
theorem key_poly (y1 y2 yP y3 e : Fin n) (hp : (y1 + y2) * (y1 + y2) * (1 + e - yP * (1 + e)) * (1 - e - y3 * (1 - e)) = (y2 - y1) * (y2 - y1) * (1 + e + yP * (1 + e)) * (1 - e + y3 * (1 - e))) :
    (1 + e) * (1 - e) * ((y1 + y2) * (y1 + y2) * (1 - yP) * (1 - y3)) = (1 + e) * (1 - e) * ((y2 - y1) * (y2 - y1) * (1 + yP) * (1 + y3)) := by grind
theorem eA_poly (s t y1 y2 yP xa : Fin n) (hx : xa * (1 - yP) = 1 + yP) : (1 - yP) * ((t * y2 * s + t * (s * y1)) * (t * y2 * s + t * (s * y1)) + xa * ((t * y2 * s - t * (s * y1)) * (t * y2 * s - t * (s * y1)))) = (s * t) * (s * t) * ((y1 + y2) * (y1 + y2) * (1 - yP) + (y2 - y1) * (y2 - y1) * (1 + yP)) := by
  rw [← hx]; clear hx; grind
theorem eB_poly (s t y1 y2 yP xa : Fin n) (hx : xa * (1 - yP) = 1 + yP) : (1 - yP) * ((t * y2 * s + t * (s * y1)) * (t * y2 * s + t * (s * y1)) - xa * ((t * y2 * s - t * (s * y1)) * (t * y2 * s - t * (s * y1)))) = (s * t) * (s * t) * ((y1 + y2) * (y1 + y2) * (1 - yP) - (y2 - y1) * (y2 - y1) * (1 + yP)) := by
  rw [← hx]; clear hx; grind
theorem uv_poly (U V y3 : Fin n) (h : U + V = 0) (k : U * (1 - y3) = V * (1 + y3)) : 2 * U = 0 := by grind
theorem uv_end (U V y3 q : Fin n) (k : U * (1 - y3) = V * (1 + y3)) : q * (U - V) = q * (U + V) * y3 := by grind
theorem at_nought (x1 x2 yP : Fin n) (c1 : x1 * x1 + 0 * 0 = 1 + d * (x1 * x1) * (0 * 0)) (c2 : x2 * x2 + 0 * 0 = 1 + d * (x2 * x2) * (0 * 0)) (e : yP * (1 + d * x1 * x2 * 0 * 0) = 0 * 0 + x1 * x2) : (1 - yP) * (1 + yP) = 0 := by grind
theorem lone (a b : Fin n) (h : a + b = 0) (h' : b - a = 0) : 2 * a = 0 := by grind
theorem two_zero (b : Fin n) (h : 0 + b = 0) : b = 0 := by grind
theorem zero_of_sum (U V : Fin n) (h : U + V = 0) (hu : U = 0) : V = 0 := by grind
theorem ne_m (y : Fin n) (h : 1 - y = 0) : y = 1 := by grind
theorem ne_p (y : Fin n) (h : 1 + y = 0) : y = -1 := by grind
theorem mul_z (a : Fin n) : a * 0 = (0 : Fin n) := by grind

theorem Fld.back (h : Fld d iv) {P R : Pt n} (hP : On d P) (hR : On d R) : sum d iv (sum d iv R P) (neg R) = P := by
  rw [sum_comm R P, h.assoc hP hR (neg_on hR), h.sum_neg hR, h.sum_nil]

/-- The second fraction of a step: P is what the two points differ by, xa its own fraction. -/
theorem Fld.dadd (h : Fld d iv) {P R : Pt n} (hP : On d P) (hR : On d R) {xa : Fin n} (hx : xa * (1 - P.y) = 1 + P.y) (h1 : P.y ≠ 1) (h2 : P.y ≠ -1)
    {X2 Z2 X3 Z3 : Fin n} (r : Rel R.y X2 Z2) (r' : Rel (sum d iv R P).y X3 Z3) :
    Rel (sum d iv R (sum d iv R P)).y (((X3 - Z3) * (X2 + Z2) + (X3 + Z3) * (X2 - Z2)) * ((X3 - Z3) * (X2 + Z2) + (X3 + Z3) * (X2 - Z2)))
      (xa * (((X3 - Z3) * (X2 + Z2) - (X3 + Z3) * (X2 - Z2)) * ((X3 - Z3) * (X2 + Z2) - (X3 + Z3) * (X2 - Z2)))) := by
  obtain ⟨ne, eq⟩ := r
  obtain ⟨ne', eq'⟩ := r'
  rw [eq, eq']
  generalize X2 + Z2 = s at *
  generalize X3 + Z3 = t at *
  have oS := h.sum_on hR hP
  have hb := h.back hP hR
  obtain ⟨_, e1⟩ := h.sum_eq oS (neg_on hR)
  rw [hb] at e1
  obtain ⟨_, e2⟩ := h.sum_eq hR oS
  obtain ⟨w1, w2⟩ := h.whole hR oS
  have hp := dadd_poly R.x R.y (sum d iv R P).x (sum d iv R P).y _ hR oS rfl
  generalize (sum d iv R (sum d iv R P)).y = y3 at *
  generalize hS : sum d iv R P = S at *
  clear hS hb eq eq'
  cases R with | mk x1 y1 =>
  cases S with | mk x2 y2 =>
  cases P with | mk xP yP =>
  simp only [neg, On] at *
  have e1' := turn_neg yP x1 x2 y1 y2 e1
  clear e1
  rw [← e1', ← e2] at hp
  have W := h.mul_ne w1 w2
  have key := h.cancel W (key_poly _ _ _ _ _ hp)
  clear hp
  have m1 : 1 - yP ≠ 0 := fun z => h1 (ne_m _ z)
  have p1 : 1 + yP ≠ 0 := fun z => h2 (ne_p _ z)
  have st := h.mul_ne ne ne'
  have eA := eA_poly s t y1 y2 yP xa hx
  have eB := eB_poly s t y1 y2 yP xa hx
  refine ⟨fun z => ?_, ?_⟩
  · rw [z, mul_z] at eA
    have z2 : (y1 + y2) * (y1 + y2) * (1 - yP) + (y2 - y1) * (y2 - y1) * (1 + yP) = 0 := by
      rcases h.dom eA.symm with q | q
      · exact absurd q (h.mul_ne st st)
      · exact q
    have z3 : (y1 + y2) * (y1 + y2) * (1 - yP) = 0 := by
      rcases h.dom (uv_poly _ _ _ z2 key) with q | q
      · exact absurd q h.two
      · exact q
    have z4 : (y2 - y1) * (y2 - y1) * (1 + yP) = 0 := zero_of_sum _ _ z2 z3
    have u1 : y1 + y2 = 0 := by
      rcases h.dom z3 with q | q
      · rcases h.dom q with q | q <;> exact q
      · exact absurd q m1
    have u2 : y2 - y1 = 0 := by
      rcases h.dom z4 with q | q
      · rcases h.dom q with q | q <;> exact q
      · exact absurd q p1
    have u3 : y1 = 0 := by
      rcases h.dom (lone _ _ u1 u2) with q | q
      · exact absurd q h.two
      · exact q
    rw [u3] at u1
    have u4 : y2 = 0 := two_zero _ u1
    rw [u3] at hR e1'
    rw [u4] at oS e1'
    rcases h.dom (at_nought _ _ _ hR oS e1') with q | q
    · exact m1 q
    · exact p1 q
  · refine h.cancel m1 ?_
    rw [eB, uv_end _ _ y3 _ key, ← eA]
    exact Fin.mul_assoc _ _ _
end
end Ed
end Go.Proofs.YthephehecapmhabDoor
