/- 2^255 - 19 is a prime number, and so each number that it does not divide, raised to it less one, leaves one. -/
namespace Go.Proofs.YthephehecapmhabDoor.Num

def Prime (n : Nat) : Prop := 2 ≤ n ∧ ∀ d, d ∣ n → d = 1 ∨ d = n

theorem prime_or (n : Nat) (h : 2 ≤ n) : Prime n ∨ ∃ d e, n = d * e ∧ 2 ≤ d ∧ d ≤ e ∧ e < n := by
  by_cases hp : ∀ d, d ∣ n → d = 1 ∨ d = n
  · exact Or.inl ⟨h, hp⟩
  · right
    have ⟨d, hd⟩ : ∃ d, ¬ (d ∣ n → d = 1 ∨ d = n) := Classical.not_forall.1 hp
    have hdn : d ∣ n := Classical.byContradiction fun h' => hd fun h2 => absurd h2 h'
    have h1 : d ≠ 1 := fun h' => hd fun _ => Or.inl h'
    have h2 : d ≠ n := fun h' => hd fun _ => Or.inr h'
    obtain ⟨e, he⟩ := hdn
    have d0 : d ≠ 0 := by intro h0; subst h0; simp at he; omega
    have e0 : e ≠ 0 := by intro h0; subst h0; simp at he; omega
    have e1 : e ≠ 1 := by intro h0; subst h0; simp at he; omega
    have hde : d < n := by
      have : d * 2 ≤ d * e := Nat.mul_le_mul_left d (by omega)
      omega
    have hee : e < n := by
      have : 2 * e ≤ d * e := Nat.mul_le_mul_right e (by omega)
      omega
    by_cases hle : d ≤ e
    · exact ⟨d, e, he, by omega, hle, hee⟩
    · exact ⟨e, d, by rw [he, Nat.mul_comm], by omega, by omega, hde⟩

theorem exists_prime : ∀ n : Nat, 2 ≤ n → ∃ r, Prime r ∧ r ∣ n := by
  intro n
  induction n using Nat.strongRecOn with
  | ind n ih =>
    intro h
    rcases prime_or n h with hp | ⟨d, e, he, hd, hde, hen⟩
    · exact ⟨n, hp, Nat.dvd_refl n⟩
    · obtain ⟨r, hr, hrd⟩ := ih d (by omega) hd
      exact ⟨r, hr, Nat.dvd_trans hrd ⟨e, he⟩⟩

theorem prime_or_small (n : Nat) (h : 2 ≤ n) : Prime n ∨ ∃ r, Prime r ∧ r ∣ n ∧ r * r ≤ n := by
  rcases prime_or n h with hp | ⟨d, e, he, hd, hde, hen⟩
  · exact Or.inl hp
  · right
    obtain ⟨r, hr, hrd⟩ := exists_prime d hd
    refine ⟨r, hr, Nat.dvd_trans hrd ⟨e, he⟩, ?_⟩
    have h1 : r ≤ d := Nat.le_of_dvd (by omega) hrd
    have h2 : r * r ≤ d * e := Nat.mul_le_mul h1 (by omega)
    omega

def tr (n : Nat) : Nat → Nat → Bool
  | 0, _ => true
  | f + 1, d => (n % d != 0) && tr n f (d + 1)

theorem tr_not (n : Nat) : ∀ f d, tr n f d = true → ∀ e, d ≤ e → e < d + f → ¬ e ∣ n := by
  intro f
  induction f with
  | zero => intro d _ e h1 h2; omega
  | succ f ih =>
    intro d h e h1 h2 hd
    simp only [tr, Bool.and_eq_true, bne_iff_ne, ne_eq] at h
    by_cases he : e = d
    · subst he; exact h.1 (Nat.mod_eq_zero_of_dvd hd)
    · exact ih (d + 1) h.2 e (by omega) (by omega) hd

theorem prime_of_tr (n f : Nat) (h : 2 ≤ n) (ht : tr n f 2 = true) (hf : n < (f + 2) * (f + 2)) : Prime n := by
  rcases prime_or_small n h with hp | ⟨r, hr, hrn, hrr⟩
  · exact hp
  · exfalso
    refine tr_not n f 2 ht r hr.1 ?_ hrn
    by_cases hlt : r < 2 + f
    · exact hlt
    · have : (f + 2) * (f + 2) ≤ r * r := Nat.mul_le_mul (by omega) (by omega)
      omega

theorem coprime_of {r a : Nat} (hr : Prime r) (h : ¬ r ∣ a) : Nat.Coprime r a := by
  rcases hr.2 (Nat.gcd r a) (Nat.gcd_dvd_left r a) with h1 | h1
  · exact h1
  · exact absurd (h1 ▸ Nat.gcd_dvd_right r a) h

def ch : Nat → Nat → Nat
  | _, 0 => 1
  | 0, _ + 1 => 0
  | n + 1, k + 1 => ch n k + ch n (k + 1)

theorem ch_beyond : ∀ n k, n < k → ch n k = 0 := by
  intro n
  induction n with
  | zero => intro k h; match k, h with | k + 1, _ => rfl
  | succ n ih => intro k h; match k, h with | k + 1, h => simp only [ch]; rw [ih k (by omega), ih (k + 1) (by omega)]

theorem ch_self : ∀ n, ch n n = 1 := by
  intro n
  induction n with
  | zero => rfl
  | succ n ih => simp only [ch]; rw [ih, ch_beyond n (n + 1) (by omega)]

theorem ch_zero (n : Nat) : ch n 0 = 1 := by cases n <;> rfl

theorem ch_mul : ∀ n k, (k + 1) * ch (n + 1) (k + 1) = (n + 1) * ch n k := by
  intro n
  induction n with
  | zero =>
    intro k
    cases k with
    | zero => rfl
    | succ k => simp [ch]
  | succ n ih =>
    intro k
    have e : ch (n + 1 + 1) (k + 1) = ch (n + 1) k + ch (n + 1) (k + 1) := rfl
    rw [e, Nat.mul_add, ih k]
    cases k with
    | zero => simp [ch_zero]; omega
    | succ j =>
      have e2 : ch (n + 1) (j + 1) = ch n j + ch n (j + 1) := rfl
      have i := ih j
      have : (j + 1 + 1) * ch (n + 1) (j + 1) = ch (n + 1) (j + 1) + (n + 1) * ch n j := by rw [← i, Nat.succ_mul]; omega
      rw [this]
      have : (n + 1 + 1) * ch (n + 1) (j + 1) = ch (n + 1) (j + 1) + ((n + 1) * ch n j + (n + 1) * ch n (j + 1)) := by
        rw [Nat.succ_mul, ← Nat.mul_add, ← e2]; omega
      rw [this]; omega

def su (a n : Nat) : Nat → Nat
  | 0 => 0
  | m + 1 => su a n m + ch n m * a ^ m

theorem su_step (a n : Nat) : ∀ m, su a (n + 1) (m + 1) = su a n (m + 1) + a * su a n m := by
  intro m
  induction m with
  | zero => simp [su, ch_zero]
  | succ m ih =>
    have e1 : su a (n + 1) (m + 1 + 1) = su a (n + 1) (m + 1) + ch (n + 1) (m + 1) * a ^ (m + 1) := rfl
    have e2 : su a n (m + 1 + 1) = su a n (m + 1) + ch n (m + 1) * a ^ (m + 1) := rfl
    have e3 : su a n (m + 1) = su a n m + ch n m * a ^ m := rfl
    have e4 : ch (n + 1) (m + 1) = ch n m + ch n (m + 1) := rfl
    have e5 : a * (ch n m * a ^ m) = ch n m * a ^ (m + 1) := by rw [Nat.pow_succ, Nat.mul_left_comm, Nat.mul_comm a]
    rw [e1, ih, e4, Nat.add_mul, e2, e3, Nat.mul_add, e5]; omega

theorem su_all (a : Nat) : ∀ n, su a n (n + 1) = (1 + a) ^ n := by
  intro n
  induction n with
  | zero => simp [su, ch]
  | succ n ih =>
    rw [su_step a n (n + 1)]
    have e : su a n (n + 1 + 1) = su a n (n + 1) + ch n (n + 1) * a ^ (n + 1) := rfl
    rw [e, ch_beyond n (n + 1) (by omega), ih, Nat.zero_mul, Nat.add_zero, Nat.pow_succ (1 + a) n, Nat.mul_add, Nat.mul_one, Nat.mul_comm a]

theorem ch_dvd {r : Nat} (hr : Prime r) (k : Nat) (h0 : 0 < k) (h1 : k < r) : r ∣ ch r k := by
  match r, k, hr, h0, h1 with
  | n + 1, j + 1, hr, _, h1 =>
    have h := ch_mul n j
    have hc : Nat.Coprime (n + 1) (j + 1) := coprime_of hr fun hd => by have := Nat.le_of_dvd (by omega) hd; omega
    exact hc.dvd_of_dvd_mul_left ⟨_, h⟩

theorem su_mod {r : Nat} (hr : Prime r) (a : Nat) : ∀ m, 0 < m → m ≤ r → su a r m % r = 1 := by
  intro m
  induction m with
  | zero => intro h; omega
  | succ m ih =>
    intro _ h
    have r2 := hr.1
    by_cases h0 : m = 0
    · subst h0; simp [su, ch_zero]; exact Nat.mod_eq_of_lt (by omega)
    · obtain ⟨c, hc⟩ := ch_dvd hr m (by omega) (by omega)
      have e : su a r (m + 1) = su a r m + ch r m * a ^ m := rfl
      rw [e, hc, Nat.mul_assoc, Nat.add_mul_mod_self_left]
      exact ih (by omega) (by omega)

theorem fermat {r : Nat} (hr : Prime r) : ∀ a, a ^ r % r = a % r := by
  intro a
  have r2 := hr.1
  induction a with
  | zero => rw [Nat.zero_pow (by omega)]
  | succ a ih =>
    rw [Nat.add_comm a 1, ← su_all a r]
    have e : su a r (r + 1) = su a r r + ch r r * a ^ r := rfl
    rw [e, ch_self, Nat.one_mul, Nat.add_mod, su_mod hr a r (by omega) (Nat.le_refl r), ih]
    simp [Nat.add_mod]

theorem dvd_sub_of {x y r : Nat} (h : x % r = y % r) (hle : y ≤ x) : r ∣ x - y := by
  have h1 := Nat.div_add_mod x r
  have h2 := Nat.div_add_mod y r
  have : x - y = r * (x / r) - r * (y / r) := by omega
  rw [this, ← Nat.mul_sub]
  exact ⟨_, rfl⟩

theorem fermat_one {r : Nat} (hr : Prime r) (a : Nat) (h : ¬ r ∣ a) : a ^ (r - 1) % r = 1 := by
  have r2 := hr.1
  have f := fermat hr a
  have a0 : 0 < a := by
    rcases Nat.eq_zero_or_pos a with h0 | h0
    · subst h0; exact absurd (Nat.dvd_zero r) h
    · exact h0
  have hp : 1 ≤ a ^ (r - 1) := Nat.pos_of_ne_zero (by have := Nat.pow_pos (n := r - 1) a0; omega)
  have e : a ^ r = a * a ^ (r - 1) := by
    have : r = (r - 1) + 1 := by omega
    conv => lhs; rw [this, Nat.pow_succ, Nat.mul_comm]
  have hd : r ∣ a * (a ^ (r - 1) - 1) := by
    rw [Nat.mul_sub, Nat.mul_one, ← e]
    exact dvd_sub_of f (by rw [e]; exact Nat.le_mul_of_pos_right a hp)
  have hd2 : r ∣ a ^ (r - 1) - 1 := (coprime_of hr h).dvd_of_dvd_mul_left hd
  obtain ⟨c, hc⟩ := hd2
  have : a ^ (r - 1) = 1 + r * c := by omega
  rw [this, Nat.add_mul_mod_self_left]
  exact Nat.mod_eq_of_lt (by omega)

theorem pow_gcd (b r : Nat) (r2 : 2 ≤ r) : ∀ m n, b ^ m % r = 1 → b ^ n % r = 1 → b ^ Nat.gcd m n % r = 1 := by
  intro m n
  induction m, n using Nat.gcd.induction with
  | H0 n => intro _ h; simpa using h
  | H1 m n h0 ih =>
    intro h1 h2
    rw [Nat.gcd_rec]
    refine ih ?_ h1
    have e : b ^ n = (b ^ m) ^ (n / m) * b ^ (n % m) := by
      rw [← Nat.pow_mul, ← Nat.pow_add, Nat.div_add_mod]
    rw [e, Nat.mul_mod, Nat.pow_mod, h1, Nat.one_pow, Nat.mod_eq_of_lt (by omega : 1 < r), Nat.one_mul, Nat.mod_mod] at h2
    exact h2

theorem pock {N q R a r : Nat} (hN : N = q * R + 1) (hq : Prime q) (h1 : a ^ (q * R) % N = 1) (hg : Nat.gcd (a ^ R % N + (N - 1)) N = 1) (hr : Prime r) (hrN : r ∣ N) : q ∣ r - 1 := by
  have r2 := hr.1
  have hbq : (a ^ R) ^ q % r = 1 := by
    rw [← Nat.pow_mul, Nat.mul_comm R q, ← Nat.mod_mod_of_dvd _ hrN, h1]
    exact Nat.mod_eq_of_lt (by omega)
  have hb1 : a ^ R % r ≠ 1 := by
    intro h
    have hm : (a ^ R % N) % r = 1 := by rw [Nat.mod_mod_of_dvd _ hrN]; exact h
    have hd : r ∣ a ^ R % N + (N - 1) := by
      obtain ⟨c, hc⟩ := hrN
      have hm2 := Nat.div_add_mod (a ^ R % N) r
      have : a ^ R % N + (N - 1) = r * ((a ^ R % N) / r + c) := by rw [Nat.mul_add, ← hc]; omega
      exact ⟨_, this⟩
    have := Nat.dvd_gcd hd hrN
    rw [hg] at this
    have := Nat.le_of_dvd (by omega) this
    omega
  have hnd : ¬ r ∣ a ^ R := by
    intro h
    have : r ∣ (a ^ R) ^ q := Nat.dvd_trans h (by
      have hq1 := hq.1
      have : q = (q - 1) + 1 := by omega
      rw [this, Nat.pow_succ]
      exact ⟨_, Nat.mul_comm _ _⟩)
    have := Nat.mod_eq_zero_of_dvd this
    omega
  have hgc := pow_gcd (a ^ R) r r2 q (r - 1) hbq (fermat_one hr _ hnd)
  rcases hq.2 _ (Nat.gcd_dvd_left q (r - 1)) with h | h
  · rw [h, Nat.pow_one] at hgc; exact absurd hgc hb1
  · rw [← h]; exact Nat.gcd_dvd_right q (r - 1)


/-- 'a' to the power that the bits of 'e' say, modulo 'n'. -/
def pm (n : Nat) : Nat → Nat → Nat → Nat
  | 0, _, _ => 1 % n
  | f + 1, a, e => if e = 0 then 1 % n else if e % 2 = 1 then (pm n f (a * a % n) (e / 2) * a) % n else pm n f (a * a % n) (e / 2)

theorem pm_eq (n : Nat) : ∀ f a e, e < 2 ^ f → pm n f a e = a ^ e % n := by
  intro f
  induction f with
  | zero => intro a e h; have : e = 0 := by simpa using h
            subst this; rfl
  | succ f ih =>
    intro a e h
    have h2 : e / 2 < 2 ^ f := by rw [Nat.pow_succ] at h; omega
    have hs : (a * a % n) ^ (e / 2) % n = (a ^ (2 * (e / 2))) % n := by rw [← Nat.pow_mod, Nat.pow_mul, Nat.pow_two]
    simp only [pm]
    by_cases h0 : e = 0
    · subst h0; simp
    · rw [if_neg h0]
      by_cases h1 : e % 2 = 1
      · rw [if_pos h1, ih _ _ h2, hs, Nat.mod_mul_mod, ← Nat.pow_succ]
        congr 2; omega
      · rw [if_neg h1, ih _ _ h2, hs]
        congr 2; omega

theorem prime_one {N : Nat} (q R a : Nat) (hq : Prime q) (hN : N = q * R + 1) (hF : N ≤ q * q) (h1 : pm N 256 a (q * R) = 1) (hs : q * R < 2 ^ 256) (hs2 : R < 2 ^ 256) (hg : Nat.gcd (pm N 256 a R + (N - 1)) N = 1) : Prime N := by
  have q2 := hq.1
  rw [pm_eq N 256 a _ hs] at h1
  rw [pm_eq N 256 a _ hs2] at hg
  have R0 : 0 < R := by
    rcases Nat.eq_zero_or_pos R with h | h
    · subst h; simp at hN; subst hN; simp at h1
    · exact h
  have : 2 * 1 ≤ q * R := Nat.mul_le_mul q2 R0
  rcases prime_or_small N (by omega) with h | ⟨r, hr, hrN, hrr⟩
  · exact h
  · exfalso
    have hd := Nat.le_of_dvd (by have := hr.1; omega) (pock hN hq h1 hg hr hrN)
    have := hr.1
    have h3 : (q + 1) * (q + 1) ≤ r * r := Nat.mul_le_mul (by omega) (by omega)
    have h4 : (q + 1) * (q + 1) = q * q + 2 * q + 1 := by rw [Nat.mul_add, Nat.add_mul]; omega
    omega

theorem prime_two {N : Nat} (q s R S a : Nat) (hq : Prime q) (hp : Prime s) (hqs : Nat.gcd q s = 1) (hN : N = q * R + 1) (hM : N = s * S + 1) (hF : N ≤ (q * s) * (q * s)) (h1 : pm N 256 a (q * R) = 1) (hs : q * R < 2 ^ 256) (hs2 : R < 2 ^ 256) (hs3 : S < 2 ^ 256) (hg : Nat.gcd (pm N 256 a R + (N - 1)) N = 1) (hg2 : Nat.gcd (pm N 256 a S + (N - 1)) N = 1) : Prime N := by
  have q2 := hq.1
  rw [pm_eq N 256 a _ hs] at h1
  rw [pm_eq N 256 a _ hs2] at hg
  rw [pm_eq N 256 a _ hs3] at hg2
  have h1' : a ^ (s * S) % N = 1 := by
    have : s * S = q * R := by omega
    rw [this]; exact h1
  have R0 : 0 < R := by
    rcases Nat.eq_zero_or_pos R with h | h
    · subst h; simp at hN; subst hN; simp at h1
    · exact h
  have : 2 * 1 ≤ q * R := Nat.mul_le_mul q2 R0
  rcases prime_or_small N (by omega) with h | ⟨r, hr, hrN, hrr⟩
  · exact h
  · exfalso
    have hr1 := hr.1
    have hd := Nat.le_of_dvd (by omega) (Nat.Coprime.mul_dvd_of_dvd_of_dvd hqs (pock hN hq h1 hg hr hrN) (pock hM hp h1' hg2 hr hrN))
    have h3 : (q * s + 1) * (q * s + 1) ≤ r * r := Nat.mul_le_mul (by omega) (by omega)
    have h4 : (q * s + 1) * (q * s + 1) = (q * s) * (q * s) + 2 * (q * s) + 1 := by rw [Nat.mul_add, Nat.add_mul]; omega
    omega

theorem prime_991 : Prime 991 := prime_of_tr 991 32 (by decide) (by decide +kernel) (by decide)

theorem prime_103 : Prime 103 := prime_of_tr 103 11 (by decide) (by decide +kernel) (by decide)

theorem prime_8574133 : Prime 8574133 :=
  prime_two 991 103 8652 83244 2 prime_991 prime_103 (by decide +kernel) (by decide +kernel) (by decide +kernel) (by decide +kernel) (by decide +kernel) (by decide +kernel) (by decide +kernel) (by decide +kernel) (by decide +kernel) (by decide +kernel)

theorem prime_127 : Prime 127 := prime_of_tr 127 12 (by decide) (by decide +kernel) (by decide)

theorem prime_1919519569386763 : Prime 1919519569386763 :=
  prime_two 8574133 127 223873314 15114327318006 2 prime_8574133 prime_127 (by decide +kernel) (by decide +kernel) (by decide +kernel) (by decide +kernel) (by decide +kernel) (by decide +kernel) (by decide +kernel) (by decide +kernel) (by decide +kernel) (by decide +kernel)

theorem prime_569003 : Prime 569003 := prime_of_tr 569003 755 (by decide) (by decide +kernel) (by decide)

theorem prime_2773320623 : Prime 2773320623 :=
  prime_one 569003 4874 2 prime_569003 (by decide +kernel) (by decide +kernel) (by decide +kernel) (by decide +kernel) (by decide +kernel) (by decide +kernel)

theorem prime_72106336199 : Prime 72106336199 :=
  prime_one 2773320623 26 2 prime_2773320623 (by decide +kernel) (by decide +kernel) (by decide +kernel) (by decide +kernel) (by decide +kernel) (by decide +kernel)

theorem prime_75445702479781427272750846543864801 : Prime 75445702479781427272750846543864801 :=
  prime_two 1919519569386763 72106336199 39304471641247389600 1046311689884858398375200 2 prime_1919519569386763 prime_72106336199 (by decide +kernel) (by decide +kernel) (by decide +kernel) (by decide +kernel) (by decide +kernel) (by decide +kernel) (by decide +kernel) (by decide +kernel) (by decide +kernel) (by decide +kernel)

theorem prime_430751 : Prime 430751 := prime_of_tr 430751 657 (by decide) (by decide +kernel) (by decide)

theorem prime_4153 : Prime 4153 := prime_of_tr 4153 65 (by decide) (by decide +kernel) (by decide)

theorem prime_31757755568855353 : Prime 31757755568855353 :=
  prime_two 430751 4153 73726481352 7646943310584 2 prime_430751 prime_4153 (by decide +kernel) (by decide +kernel) (by decide +kernel) (by decide +kernel) (by decide +kernel) (by decide +kernel) (by decide +kernel) (by decide +kernel) (by decide +kernel) (by decide +kernel)

theorem prime_74058212732561358302231226437062788676166966415465897661863160754340907 : Prime 74058212732561358302231226437062788676166966415465897661863160754340907 :=
  prime_two 75445702479781427272750846543864801 31757755568855353 981609426360740691344999861639072106 2331972502653487852620185443007392165117953542933313402 2 prime_75445702479781427272750846543864801 prime_31757755568855353 (by decide +kernel) (by decide +kernel) (by decide +kernel) (by decide +kernel) (by decide +kernel) (by decide +kernel) (by decide +kernel) (by decide +kernel) (by decide +kernel) (by decide +kernel)

theorem prime_p : Prime 57896044618658097711785492504343953926634992332820282019728792003956564819949 :=
  prime_one 74058212732561358302231226437062788676166966415465897661863160754340907 781764 2 prime_74058212732561358302231226437062788676166966415465897661863160754340907 (by decide +kernel) (by decide +kernel) (by decide +kernel) (by decide +kernel) (by decide +kernel) (by decide +kernel)
end Go.Proofs.YthephehecapmhabDoor.Num
