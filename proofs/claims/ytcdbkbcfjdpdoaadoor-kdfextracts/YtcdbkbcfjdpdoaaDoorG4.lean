/- Texts of Jz Ja Jo Jl Jb Jc Je Jp Jq Js Open6 Open8, joined. -/
import Derived.Test.YtcdbkbcfjdpdoaaDoorG1
import Derived.Test.YtcdbkbcfjdpdoaaDoorG2
import Derived.Lib.ConvBytes
import Derived.Laws.StructEq
import Derived.Test.YtcdbkbcfjdpdoaaDoorG3
import Derived.Test.YtcdbkbcfjdpdoaaDoorRows
namespace Go.Proofs.YtcdbkbcfjdpdoaaDoor
open Go.RowKit

/-- The key of noughts. -/
def z0 : Nat → Int := fun _ => 0
theorem z0_in (n : Nat) : In 256 n z0 := fun _ _ => ⟨Int.le_refl 0, (by decide : (0 : Int) < 256)⟩
/-- A text's bytes. -/
def zs (s : ByteArray) : Nat → Int := fun j => ((s.data.toList.getD j 0).toNat : Int)
theorem zs_in (s : ByteArray) (n : Nat) : In 256 n (zs s) := fun j _ => by
  have h : (s.data.toList.getD j 0).toNat < 256 := UInt8.toNat_lt _
  unfold zs
  omega
end Go.Proofs.YtcdbkbcfjdpdoaaDoor

namespace Go.Proofs.YtcdbkbcfjdpdoaaDoor
open Go.RowKit

theorem bmac_in (kl : Nat) (key : Nat → Int) (len : Nat) (z : Nat → Int) (n : Nat) : In 256 n (bmac kl key len z) := bhash_in _ _ n
theorem bmac_congr (kl : Nat) (key : Nat → Int) (len : Nat) (z y : Nat → Int) (h : ∀ j, j < len → z j = y j) : bmac kl key len z = bmac kl key len y := by
  unfold bmac
  rw [bhash_congr (64 + len) (app (bxx 54 (bkk kl key)) 64 z) (app (bxx 54 (bkk kl key)) 64 y) (fun j hj => by
    unfold app
    by_cases e : j < 64
    · rw [if_pos e, if_pos e]
    · rw [if_neg e, if_neg e]; exact h _ (by omega))]
/-- How many bytes the part ahead has; what is hashed for the next; the parts; all of them. -/
def klen : Nat → Nat
  | 0 => 0
  | _ + 1 => 32
def ktx (il : Nat) (inf : Nat → Int) (i : Nat) (t : Nat → Int) : Nat → Int := app (app t (klen i) inf) (klen i + il) (fun _ => ((i + 1 : Nat) : Int))
def kT (k : Nat → Int) (il : Nat) (inf : Nat → Int) : Nat → Nat → Int
  | 0 => fun _ => 0
  | i + 1 => bmac 32 k (klen i + il + 1) (ktx il inf i (kT k il inf i))
def kex (k : Nat → Int) (il : Nat) (inf : Nat → Int) : Nat → Int := fun j => kT k il inf (j / 32 + 1) (j % 32)
theorem klen_le (i : Nat) : klen i ≤ 32 := by cases i <;> simp [klen]
theorem kT_in (k : Nat → Int) (il : Nat) (inf : Nat → Int) (n : Nat) : ∀ i, In 256 n (kT k il inf i)
  | 0 => fun _ _ => ⟨Int.le_refl 0, (by decide : (0 : Int) < 256)⟩
  | _ + 1 => bmac_in _ _ _ _ _
theorem kex_in (k : Nat → Int) (il : Nat) (inf : Nat → Int) (n : Nat) : In 256 n (kex k il inf) := fun j _ => kT_in k il inf 32 (j / 32 + 1) (j % 32) (Nat.mod_lt _ (by decide))
theorem ktx_in (il : Nat) (inf : Nat → Int) (hi : In 256 il inf) (i : Nat) (h : i + 1 < 256) (t : Nat → Int) (ht : In 256 32 t) : In 256 (klen i + il + 1) (ktx il inf i t) :=
  app_in _ _ _ _ (app_in _ _ _ _ (fun j hj => ht j (Nat.lt_of_lt_of_le hj (klen_le i))) hi) (fun _ _ => ⟨by omega, by omega⟩)
theorem ktx_congr (il : Nat) (inf inf' : Nat → Int) (i : Nat) (t t' : Nat → Int) (hf : ∀ j, j < il → inf j = inf' j) (ht : ∀ j, j < klen i → t j = t' j) : ∀ j, j < klen i + il + 1 → ktx il inf i t j = ktx il inf' i t' j := fun j hj => by
  unfold ktx app
  by_cases e : j < klen i + il
  · rw [if_pos e, if_pos e]
    by_cases e2 : j < klen i
    · rw [if_pos e2, if_pos e2]; exact ht j e2
    · rw [if_neg e2, if_neg e2]; exact hf _ (by omega)
  · rw [if_neg e, if_neg e]
/-- The bytes so far, and a part more. -/
theorem kex_next (k : Nat → Int) (il : Nat) (inf : Nat → Int) (i : Nat) : ∀ j, app (kex k il inf) (32 * i) (kT k il inf (i + 1)) j = if j < 32 * i + 32 then kex k il inf j else kT k il inf (i + 1) (j - 32 * i) := fun j => by
  unfold app
  by_cases e : j < 32 * i
  · rw [if_pos e, if_pos (by omega)]
  · rw [if_neg e]
    by_cases e2 : j < 32 * i + 32
    · rw [if_pos e2]
      unfold kex
      rw [show j / 32 = i by omega, show j % 32 = j - 32 * i by omega]
    · rw [if_neg e2]
theorem kex_part (k : Nat → Int) (il : Nat) (inf : Nat → Int) (i : Nat) : ∀ j, j < 32 → kT k il inf (i + 1) j = kex k il inf (32 * i + j) := fun j hj => by
  unfold kex
  rw [show (32 * i + j) / 32 = i by omega, show (32 * i + j) % 32 = j by omega]
/-- Two keys of one. -/
theorem kT_one (t : Nat → Int) (inf : Nat → Int) : bmac 32 t 1 (fun _ => 1) = kT t 0 inf 1 := bmac_congr _ _ _ _ _ (fun j hj => by
  unfold ktx app
  rw [if_neg (show ¬ j < klen 0 + 0 from Nat.not_lt_zero j)]
  rfl)
theorem kT_two (t : Nat → Int) (inf : Nat → Int) : bmac 32 t 33 (app (kT t 0 inf 1) 32 (fun _ => 2)) = kT t 0 inf 2 := bmac_congr _ _ _ _ _ (fun j hj => by
  unfold ktx app
  by_cases e : j < 32
  · rw [if_pos e, if_pos (show j < klen 1 + 0 from e), if_pos (show j < klen 1 from e)]
  · rw [if_neg e, if_neg (show ¬ j < klen 1 + 0 from e)]
    rfl)
theorem kT_none (t : Nat → Int) (inf inf' : Nat → Int) : ∀ i, kT t 0 inf i = kT t 0 inf' i
  | 0 => rfl
  | i + 1 => by
    show bmac 32 t _ _ = bmac 32 t _ _
    rw [kT_none t inf inf' i]
    exact bmac_congr _ _ _ _ _ (ktx_congr 0 inf inf' i _ _ (fun j hj => absurd hj (Nat.not_lt_zero j)) (fun _ _ => rfl))

/-- A hash reckoned: each word at once. -/
def oct {α : Type} (g : Nat → Int) (k : (Nat → Int) → α) : α :=
  forceI (g 0) fun a0 => forceI (g 1) fun a1 => forceI (g 2) fun a2 => forceI (g 3) fun a3 => forceI (g 4) fun a4 => forceI (g 5) fun a5 => forceI (g 6) fun a6 => forceI (g 7) fun a7 => k (bl [a0, a1, a2, a3, a4, a5, a6, a7])
theorem oct_eq {α : Type} (g : Nat → Int) (k : (Nat → Int) → α) : oct g k = k (bl [g 0, g 1, g 2, g 3, g 4, g 5, g 6, g 7]) := by simp only [oct, forceI_eq]
theorem oct_bl (g : Nat → Int) : ∀ i, i < 8 → bl [g 0, g 1, g 2, g 3, g 4, g 5, g 6, g 7] i = g i
  | 0, _ | 1, _ | 2, _ | 3, _ | 4, _ | 5, _ | 6, _ | 7, _ => rfl
  | _ + 8, h => by omega
theorem evP_congr (h h' z : Nat → Int) (t : Int) (last : Bool) (e : ∀ i, i < 8 → h i = h' i) (i : Nat) (hi : i < 8) : evP h z t last i = evP h' z t last i := by
  unfold evP
  rw [e 0 (by decide), e 1 (by decide), e 2 (by decide), e 3 (by decide), e 4 (by decide), e 5 (by decide), e 6 (by decide), e 7 (by decide), e i hi]
def evT {α : Type} (n : Nat) (f : Nat → Int) : Nat → Nat → (Nat → Int) → ((Nat → Int) → α) → α
  | 0, _, h, k => k h
  | m + 1, i, h, k => oct (evP h (fun j => f (64 * i + j)) ((min (64 * i + 64) n : Nat) : Int) (decide (i + 1 = nbt n))) fun h' => evT n f m (i + 1) h' k
theorem evT_eq {α : Type} (h0 : Nat → Int) (n : Nat) (f : Nat → Int) (k : (Nat → Int) → α) (hk : ∀ h h', (∀ i, i < 8 → h i = h' i) → k h = k h') : ∀ m i h, (∀ j, j < 8 → h j = tH h0 n f i j) → evT n f m i h k = k (tH h0 n f (i + m))
  | 0, _, _, e => hk _ _ e
  | m + 1, i, h, e => by
    show oct _ _ = _
    rw [oct_eq, show i + (m + 1) = i + 1 + m by omega]
    refine evT_eq h0 n f k hk m (i + 1) _ fun j hj => ?_
    rw [oct_bl _ j hj, evP_congr h (tH h0 n f i) _ _ _ e j hj, ← evP_eq]
    rfl
theorem bout_congr (h h' : Nat → Int) (e : ∀ i, i < 8 → h i = h' i) : ∀ j, j < 32 → bout h j = bout h' j := fun j hj => by
  unfold bout
  rw [e _ (by omega)]
/-- A mac, reckoned. -/
def evM (yo yi : Nat → Int) (len : Nat) (z : Nat → Int) (j : Nat) : Int :=
  evT (64 + len) (tx2 64 yi len z) (nbt (64 + len)) 0 (bh0 0 32) fun h => evT (64 + 32) (tx2 64 yo 32 (bout h)) (nbt (64 + 32)) 0 (bh0 0 32) fun g => bout g j
theorem evM_eq (kl : Nat) (key : Nat → Int) (len : Nat) (z : Nat → Int) (j : Nat) (hj : j < 32) : bmac kl key len z j = evM (bxx 92 (bkk kl key)) (bxx 54 (bkk kl key)) len z j := by
  unfold evM
  have e2 : ∀ h : Nat → Int, evT (64 + 32) (tx2 64 (bxx 92 (bkk kl key)) 32 (bout h)) (nbt (64 + 32)) 0 (bh0 0 32) (fun g => bout g j) = bout (tH (bh0 0 32) (64 + 32) (tx2 64 (bxx 92 (bkk kl key)) 32 (bout h)) (0 + nbt (64 + 32))) j :=
    fun h => evT_eq (bh0 0 32) _ _ (fun g => bout g j) (fun h h' e => bout_congr h h' e j hj) _ 0 _ (fun _ _ => rfl)
  have ec : ∀ h h' : Nat → Int, (∀ i, i < 8 → h i = h' i) → tx2 64 (bxx 92 (bkk kl key)) 32 (bout h) = tx2 64 (bxx 92 (bkk kl key)) 32 (bout h') := fun h h' e => by
    funext q
    unfold tx2 padz
    by_cases e1 : q < 64
    · rw [if_pos e1, if_pos e1]
    · rw [if_neg e1, if_neg e1]
      by_cases e3 : q - 64 < 32
      · rw [if_pos e3, if_pos e3]; exact bout_congr h h' e _ e3
      · rw [if_neg e3, if_neg e3]
  rw [evT_eq (bh0 0 32) _ _ _ (fun h h' e => by rw [ec h h' e]) _ 0 (bh0 0 32) (fun _ _ => rfl), e2, Nat.zero_add, Nat.zero_add]
  unfold bmac
  rw [← bhash_tx2 64 (bxx 54 (bkk kl key)) len z, ← bhash_tx2 64 (bxx 92 (bkk kl key)) 32]
theorem bkk_z0 (n : Nat) (hn : n ≤ 64) : bkk n z0 = z0 := by
  funext j
  unfold bkk z0
  rw [if_pos hn]
  split <;> rfl
theorem bxx_z0 (c : Nat) (hc : c < 256) : bxx (c : Int) z0 = fun _ => (c : Int) := by
  funext j
  show bits .xor .u8 ((0 : Nat) : Int) (c : Int) = _
  rw [u8_xor_nat 0 c (by omega) (by omega), Nat.zero_xor]
theorem kT_noughts (il : Nat) (inf : Nat → Int) (j : Nat) (hj : j < 32) : kT z0 il inf 1 j = evM (fun _ => 92) (fun _ => 54) (0 + il + 1) (ktx il inf 0 (fun _ => 0)) j := by
  show bmac 32 z0 _ _ j = _
  rw [evM_eq 32 z0 _ _ j hj, bkk_z0 32 (by decide), show (92 : Int) = ((92 : Nat) : Int) from rfl, show (54 : Int) = ((54 : Nat) : Int) from rfl, bxx_z0 92 (by decide), bxx_z0 54 (by decide)]
  rfl
def sLater : ByteArray := ⟨#[115, 104, 101, 97, 118, 101, 32, 108, 97, 116, 101, 114]⟩
def sKey : ByteArray := ⟨#[115, 104, 101, 97, 118, 101, 32, 107, 101, 121]⟩
theorem later_noughts : kT z0 12 (zs sLater) 1 0 = 159 := by
  rw [kT_noughts _ _ _ (by decide)]
  decide +kernel
theorem of_noughts : kT z0 10 (zs sKey) 1 0 = 124 := by
  rw [kT_noughts _ _ _ (by decide)]
  decide +kernel
end Go.Proofs.YtcdbkbcfjdpdoaaDoor

namespace Go.Proofs.YtcdbkbcfjdpdoaaDoor
open Go.RowKit

/-- Number i has come up, and yielded x. -/
def ub (l : Nat → Bool) (i : Nat) : Nat → Bool := fun j => if j = i then true else l j
def uv (v : Nat → Value) (i : Nat) (x : Value) : Nat → Value := fun j => if j = i then x else v j
theorem ub_same (l : Nat → Bool) (i : Nat) : ub l i i = true := if_pos rfl
theorem ub_other (l : Nat → Bool) {i j : Nat} (h : j ≠ i) : ub l i j = l j := if_neg h
theorem uv_same (v : Nat → Value) (i : Nat) (x : Value) : uv v i x i = x := if_pos rfl
theorem uv_other (v : Nat → Value) {i j : Nat} (x : Value) (h : j ≠ i) : uv v i x j = v j := if_neg h
/-- How many are still to come. -/
def un : Nat → (Nat → Bool) → Nat
  | 0, _ => 0
  | n + 1, l => un n l + (if l n then 0 else 1)
theorem un_congr {l l' : Nat → Bool} : ∀ n, (∀ j, j < n → l j = l' j) → un n l = un n l'
  | 0, _ => rfl
  | n + 1, h => by
    unfold un
    rw [un_congr n fun j hj => h j (by omega), h n (by omega)]
theorem un_ub (l : Nat → Bool) (i : Nat) (hl : l i = false) : ∀ n, i < n → un n (ub l i) + 1 = un n l
  | 0, h => by omega
  | n + 1, h => by
    unfold un
    by_cases e : n = i
    · subst e
      rw [ub_same, hl, un_congr (l := ub l n) (l' := l) n fun j hj => ub_other l (by omega)]
      rfl
    · rw [ub_other l e, ← un_ub l i hl n (by omega)]
      omega
theorem un_zero (l : Nat → Bool) : ∀ n, un n l = 0 → ∀ i, i < n → l i = true
  | 0, _, i, hi => by omega
  | n + 1, h, i, hi => by
    unfold un at h
    by_cases e : i = n
    · subst e
      cases hli : l i with
      | true => rfl
      | false => rw [hli] at h; simp at h
    · exact un_zero l n (by omega) i (by omega)

section
variable {P : Program} {ops : Array Oper} {Q : Exit → Act → World → Prop} {md : Region.Mode}

def dstOf (ops : Array Oper) (i : Nat) : Option Tmp := (ops[i]?).bind (·.dst)
/-- The frame, once the operations of l have come up. -/
def puts (ops : Array Oper) (a : Act) (l : Nat → Bool) (v : Nat → Value) : Nat → Act
  | 0 => a
  | n + 1 => if l n = true then (puts ops a l v n).put (dstOf ops n) (v n) else puts ops a l v n
theorem puts_congr (a : Act) {l l' : Nat → Bool} {v v' : Nat → Value} : ∀ n, (∀ j, j < n → l j = l' j ∧ v j = v' j) → puts ops a l v n = puts ops a l' v' n
  | 0, _ => rfl
  | n + 1, h => by
    unfold puts
    rw [puts_congr a n fun j hj => h j (by omega), (h n (by omega)).1, (h n (by omega)).2]
/-- No two of them write to the same place, and all places are there; each waits for earlier ones alone. -/
def apartB (ops : Array Oper) : Bool := (List.range ops.size).all fun i => (List.range ops.size).all fun j => i == j || match dstOf ops i with | none => true | some d => !(dstOf ops j == some d)
def withinB (ops : Array Oper) (z : Nat) : Bool := (List.range ops.size).all fun i => match dstOf ops i with | none => true | some d => decide (d < z)
def lowB (md : Region.Mode) (ops : Array Oper) : Bool := (List.range ops.size).all fun i => match ops[i]? with | none => true | some o => o.after.all fun e => !Region.binds md e || decide (e.on < i)
theorem dst_lt {i : Nat} {d : Tmp} (h : dstOf ops i = some d) : i < ops.size := by
  unfold dstOf at h
  rcases Nat.lt_or_ge i ops.size with h' | h'
  · exact h'
  · rw [Array.getElem?_eq_none h'] at h; cases h
theorem dst_apart (hD : apartB ops = true) {i j : Nat} {d : Tmp} (hij : i ≠ j) (hi : dstOf ops i = some d) : dstOf ops j ≠ some d := fun hj => by
  have h := List.all_eq_true.1 (List.all_eq_true.1 hD i (List.mem_range.2 (dst_lt hi))) j (List.mem_range.2 (dst_lt hj))
  rw [hi, hj] at h
  simp [hij] at h
theorem puts_put (hD : apartB ops = true) (a : Act) (l : Nat → Bool) (v : Nat → Value) (i : Nat) (x : Value) (hl : l i = false) : ∀ n, i < n → (puts ops a l v n).put (dstOf ops i) x = puts ops a (ub l i) (uv v i x) n
  | 0, h => by omega
  | n + 1, h => by
    unfold puts
    by_cases e : n = i
    · subst e
      rw [ub_same, hl, uv_same, if_pos rfl, if_neg (by decide), puts_congr (l := ub l n) (l' := l) (v := uv v n x) (v' := v) a n fun j hj => ⟨ub_other l (by omega), uv_other v x (by omega)⟩]
    · rw [ub_other l e, uv_other v x e]
      by_cases hn : l n = true
      · rw [if_pos hn, if_pos hn, ← puts_put hD a l v i x hl n (by omega)]
        exact Act.put_comm _ _ _ fun d hd => dst_apart hD e hd
      · rw [if_neg hn, if_neg hn]
        exact puts_put hD a l v i x hl n (by omega)
theorem put_size (a : Act) (d : Option Tmp) (x : Value) : (a.put d x).tmps.size = a.tmps.size := by
  cases d <;> simp [Act.put]
theorem puts_size (a : Act) (l : Nat → Bool) (v : Nat → Value) : ∀ n, (puts ops a l v n).tmps.size = a.tmps.size
  | 0 => rfl
  | n + 1 => by
    unfold puts
    split
    · rw [put_size, puts_size a l v n]
    · exact puts_size a l v n
theorem put_at (a : Act) (d : Tmp) (x : Value) (h : d < a.tmps.size) : (a.put (some d) x).tmps.getD d undef = x := by
  rw [Array.getD_eq_getD_getElem?]
  simp [Act.put, h]
theorem put_off (a : Act) (e : Option Tmp) (d : Tmp) (x : Value) (h : e ≠ some d) : (a.put e x).tmps.getD d undef = a.tmps.getD d undef := by
  cases e with
  | none => rfl
  | some e =>
    have h' : e ≠ d := fun he => h (by rw [he])
    rw [Array.getD_eq_getD_getElem?, Array.getD_eq_getD_getElem?]
    simp [Act.put, h']
theorem puts_at (hD : apartB ops = true) (a : Act) (l : Nat → Bool) (v : Nat → Value) (j : Nat) (d : Tmp) (hd : dstOf ops j = some d) (hz : d < a.tmps.size) (hl : l j = true) : ∀ n, j < n → (puts ops a l v n).tmps.getD d undef = v j
  | 0, h => by omega
  | n + 1, h => by
    unfold puts
    by_cases e : n = j
    · subst e
      rw [if_pos hl, hd, put_at _ _ _ (by rw [puts_size]; exact hz)]
    · have h1 := puts_at hD a l v j d hd hz hl n (by omega)
      by_cases hn : l n = true
      · rw [if_pos hn, put_off _ _ _ _ (dst_apart hD (Ne.symm e) hd)]
        exact h1
      · rw [if_neg hn]
        exact h1
theorem puts_old (a : Act) (l : Nat → Bool) (v : Nat → Value) (d : Tmp) (hd : ∀ j, dstOf ops j ≠ some d) : ∀ n, (puts ops a l v n).tmps.getD d undef = a.tmps.getD d undef
  | 0 => rfl
  | n + 1 => by
    unfold puts
    by_cases hn : l n = true
    · rw [if_pos hn, put_off _ _ _ _ (hd n)]
      exact puts_old a l v d hd n
    · rw [if_neg hn]
      exact puts_old a l v d hd n
/-- What number i does, whatever came up before it. -/
def Does (P : Program) (md : Region.Mode) (ops : Array Oper) (Q : Exit → Act → World → Prop) (a0 : Act) (J : (Nat → Bool) → (Nat → Value) → World → Prop) (i : Nat) : Prop :=
  ∀ o, ops[i]? = some o → ∀ l v w, J l v w → l i = false → (∀ e ∈ o.after, Region.binds md e = true → l e.on = true) →
    wpOp P ops Q i (fun a' w' => ∃ x, a' = (puts ops a0 l v ops.size).put o.dst x ∧ J (ub l i) (uv v i x) w') (puts ops a0 l v ops.size) w
theorem set_ub (L : Array Bool) (i : Nat) (hi : i < L.size) : (fun j => (L.setIfInBounds i true).getD j false) = ub (fun j => L.getD j false) i := by
  funext j
  by_cases e : j = i
  · subst e
    rw [ub_same, Array.getD_eq_getD_getElem?, Array.getElem?_setIfInBounds_self_of_lt hi]
    rfl
  · rw [ub_other _ e, getD_set_ne false (Ne.symm e)]
theorem getD_both {L : Array Bool} {i : Nat} (hi : i < L.size) : L.getD i true = L.getD i false := by
  rw [Array.getD_eq_getD_getElem?, Array.getD_eq_getD_getElem?, Array.getElem?_eq_getElem hi]
  rfl
theorem all_listed {L : Array Bool} (hs : L.size = ops.size) (hlow : lowB md ops = true) (hr : Region.ready md ops L = []) : ∀ i, i < ops.size → L.getD i false = true := by
  intro i
  induction i using Nat.strongRecOn with
  | _ i ih =>
    intro hi
    cases e : L.getD i false with
    | true => rfl
    | false =>
      have hmem : i ∈ Region.ready md ops L := mem_ready.2 ⟨by rw [getD_both (by omega), e], ops[i], Array.getElem?_eq_getElem hi, fun x hx hb => by
        have h := List.all_eq_true.1 hlow i (List.mem_range.2 hi)
        rw [Array.getElem?_eq_getElem hi] at h
        have h2 := Array.all_eq_true_iff_forall_mem.1 h x hx
        rw [hb] at h2
        have h3 : x.on < i := by simpa using h2
        exact ih x.on h3 (by omega)⟩
      rw [hr] at hmem
      cases hmem
theorem wpAny_each (a0 : Act) (J : (Nat → Bool) → (Nat → Value) → World → Prop) (hD : apartB ops = true) (hlow : lowB md ops = true) (hdoes : ∀ i, i < ops.size → Does P md ops Q a0 J i)
    (fin : ∀ l v w, J l v w → (∀ i, i < ops.size → l i = true) → Q .normal (puts ops a0 l v ops.size) w) : ∀ n L v w, L.size = ops.size → un ops.size (fun j => L.getD j false) = n → J (fun j => L.getD j false) v w →
    wpAny P md ops Q n L (puts ops a0 (fun j => L.getD j false) v ops.size) w
  | 0, L, v, w, hs, hn, hJ => by
    have hall := un_zero _ _ hn
    refine ⟨?_, fin _ v w hJ hall⟩
    cases hr : Region.ready md ops L with
    | nil => rfl
    | cons i r =>
      have hm : i ∈ Region.ready md ops L := by rw [hr]; exact List.mem_cons_self
      obtain ⟨h0, o, ho, _⟩ := mem_ready.1 hm
      have hi : i < ops.size := (Array.getElem?_eq_some_iff.1 ho).1
      rw [getD_both (by omega)] at h0
      have := hall i hi
      rw [h0] at this
      cases this
  | n + 1, L, v, w, hs, hn, hJ => by
    refine ⟨fun hr => fin _ v w hJ (all_listed hs hlow hr), fun i hi => ?_⟩
    obtain ⟨h0, o, ho, hp⟩ := mem_ready.1 hi
    have hlt : i < ops.size := (Array.getElem?_eq_some_iff.1 ho).1
    rw [getD_both (by omega)] at h0
    refine wpOp_mono (fun a' w' h => ?_) (hdoes i hlt o ho (fun j => L.getD j false) v w hJ h0 hp)
    obtain ⟨x, rfl, hJ'⟩ := h
    have hd : o.dst = dstOf ops i := by unfold dstOf; rw [ho]; rfl
    rw [hd, puts_put hD a0 _ v i x h0 ops.size hlt, ← set_ub L i (by omega)]
    refine wpAny_each a0 J hD hlow hdoes fin n _ _ w' (by simp [hs]) ?_ ?_
    · rw [set_ub L i (by omega)]
      have := un_ub (fun j => L.getD j false) i h0 ops.size hlt
      omega
    · rw [set_ub L i (by omega)]
      exact hJ'
/-- The frame when all have come up. -/
def putL (a : Act) (v : Nat → Value) : Nat → List (Option Tmp) → Act
  | _, [] => a
  | i, d :: ds => putL (a.put d (v i)) v (i + 1) ds
theorem putL_snoc (v : Nat → Value) (d : Option Tmp) : ∀ (ds : List (Option Tmp)) (a : Act) (i : Nat), putL a v i (ds ++ [d]) = (putL a v i ds).put d (v (i + ds.length))
  | [], _, _ => rfl
  | e :: ds, a, i => by
    show putL (a.put e (v i)) v (i + 1) (ds ++ [d]) = (putL (a.put e (v i)) v (i + 1) ds).put d (v (i + (ds.length + 1)))
    rw [putL_snoc v d ds, show i + 1 + ds.length = i + (ds.length + 1) by omega]
theorem puts_all (a : Act) (l : Nat → Bool) (v : Nat → Value) : ∀ n, (∀ i, i < n → l i = true) → puts ops a l v n = putL a v 0 ((List.range n).map (dstOf ops))
  | 0, _ => rfl
  | n + 1, h => by
    unfold puts
    rw [if_pos (h n (by omega)), puts_all a l v n fun i hi => h i (by omega), List.range_succ, List.map_append]
    show _ = putL a v 0 ((List.range n).map (dstOf ops) ++ [dstOf ops n])
    rw [putL_snoc]
    simp
/-- The region, by what each operation leaves behind. -/
theorem wp_region_each (J : (Nat → Bool) → (Nat → Value) → World → Prop) (n : Nat) (ds : List (Option Tmp)) {id : Nat} {a : Act} {w : World} (hm : P.follows .mixedOrders = true) (hn : ops.size = n) (hds : (List.range n).map (dstOf ops) = ds) (hD : apartB ops = true) (hlow : lowB .any ops = true)
    (h0 : J (fun _ => false) (fun _ => undef) w.drew) (hdoes : ∀ i, i < n → Does P .any ops Q a J i)
    (fin : ∀ l v w, J l v w → (∀ i, i < n → l i = true) → Q .normal (putL a v 0 ds) w) : (Code.region id ops true).wp P Q a w := by
  subst hn
  refine wp_region_any hm ?_
  have hf : (fun j => (Array.replicate ops.size false).getD j false) = fun _ => false := by
    funext j
    rw [Array.getD_eq_getD_getElem?]
    by_cases e : j < ops.size
    · rw [Array.getElem?_replicate, if_pos e]; rfl
    · rw [Array.getElem?_replicate, if_neg e]; rfl
  have hp : puts ops a (fun _ => false) (fun _ => undef) ops.size = a := by
    have : ∀ n, puts ops a (fun _ => false) (fun _ => undef) n = a := fun n => by
      induction n with
      | zero => rfl
      | succ n ih => unfold puts; rw [if_neg (by decide)]; exact ih
    exact this _
  have hu : un ops.size (fun _ => false) = ops.size := by
    have : ∀ n, un n (fun _ => false) = n := fun n => by
      induction n with
      | zero => rfl
      | succ n ih => unfold un; rw [ih]; rfl
    exact this _
  have h := wpAny_each (Q := Q) a J hD hlow hdoes (fun l v w hJl hl => by
    rw [puts_all a l v ops.size hl, hds]
    exact fin l v w hJl hl) ops.size (Array.replicate ops.size false) (fun _ => undef) w.drew (by simp) (by rw [hf]; exact hu) (by rw [hf]; exact h0)
  rw [hf, hp] at h
  exact h

/-- Number i waits for number j. -/
def waitsB (o : Oper) (j : Nat) : Bool := o.after.any fun e => Region.binds .any e && e.on == j
section
variable {a0 : Act} {J : (Nat → Bool) → (Nat → Value) → World → Prop} {i : Nat} {o : Oper}
theorem does_of (hD : apartB ops = true) (hW : withinB ops a0.tmps.size = true) (hi : ops[i]? = some o)
    (h : ∀ l v w (a : Act), J l v w → l i = false → (∀ j, waitsB o j = true → l j = true) → (∀ j d, dstOf ops j = some d → l j = true → a.eval (.tmp d) = v j) → (∀ d, ((List.range ops.size).all fun j => !(dstOf ops j == some d)) = true → a.eval (.tmp d) = a0.eval (.tmp d)) →
      wpOp P ops Q i (fun a' w' => ∃ x, a' = a.put o.dst x ∧ J (ub l i) (uv v i x) w') a w) : Does P .any ops Q a0 J i := by
  intro o' ho' l v w hJ hl hp
  obtain rfl : o = o' := Option.some.inj (hi.symm.trans ho')
  refine h l v w _ hJ hl (fun j hj => ?_) (fun j d hd hlj => ?_) (fun d hd => ?_)
  · unfold waitsB at hj
    obtain ⟨e, he, hb⟩ := Array.any_eq_true'.1 hj
    rw [Bool.and_eq_true] at hb
    have h1 := hp e he hb.1
    have h2 : e.on = j := by simpa using hb.2
    rw [← h2]
    exact h1
  · have hlt := dst_lt hd
    have hz : d < a0.tmps.size := by
      have h := List.all_eq_true.1 hW j (List.mem_range.2 hlt)
      rw [hd] at h
      simpa using h
    exact puts_at hD a0 l v j d hd hz hlj _ hlt
  · exact puts_old a0 l v d (fun j hj => by
      have h := List.all_eq_true.1 hd j (List.mem_range.2 (dst_lt hj))
      rw [hj] at h
      simp at h) _
theorem skipOp {K : Act → World → Prop} {a : Act} {w w' : World} (hi : ops[i]? = some o) (hg : o.guard = none) (he : (execOp a.eval o).run P w = .ok .skip w') (h : K (a.put o.dst undef) w') : wpOp P ops Q i K a w := by
  have hw : Region.wanted o (yielded ops a.tmps) = true := by unfold Region.wanted; rw [hg]
  unfold wpOp
  simp only [hi, hw, if_true]
  refine .inl ?_
  unfold Oper.wp
  rw [he]
  exact h
/-- An operation that yields a value; one that calls; one that does something. -/
theorem does_value (hD : apartB ops = true) (hW : withinB ops a0.tmps.size = true) (hi : ops[i]? = some o) (hg : o.guard = none)
    (h : ∀ l v w (a : Act), J l v w → l i = false → (∀ j, waitsB o j = true → l j = true) → (∀ j d, dstOf ops j = some d → l j = true → a.eval (.tmp d) = v j) → (∀ d, ((List.range ops.size).all fun j => !(dstOf ops j == some d)) = true → a.eval (.tmp d) = a0.eval (.tmp d)) →
      ∃ x w', (execOp a.eval o).run P w = .ok (.value x) w' ∧ J (ub l i) (uv v i x) w') : Does P .any ops Q a0 J i :=
  does_of hD hW hi fun l v w a hJ hl hp hat hold => by
    obtain ⟨x, w', he, hJ'⟩ := h l v w a hJ hl hp hat hold
    exact allocOp hi hg he ⟨x, rfl, hJ'⟩
theorem does_call (hD : apartB ops = true) (hW : withinB ops a0.tmps.size = true) (hi : ops[i]? = some o) (hg : o.guard = none)
    (h : ∀ l v w (a : Act), J l v w → l i = false → (∀ j, waitsB o j = true → l j = true) → (∀ j d, dstOf ops j = some d → l j = true → a.eval (.tmp d) = v j) → (∀ d, ((List.range ops.size).all fun j => !(dstOf ops j == some d)) = true → a.eval (.tmp d) = a0.eval (.tmp d)) →
      ∃ f args R, (execOp a.eval o).run P w = .ok (.enter f args) w ∧ Calls P f args w R ∧ ∀ e w', R e w' → ∃ x, e = .returned x ∧ J (ub l i) (uv v i x) w') : Does P .any ops Q a0 J i :=
  does_of hD hW hi fun l v w a hJ hl hp hat hold => by
    obtain ⟨f, args, R, he, hc, hK⟩ := h l v w a hJ hl hp hat hold
    exact callOp hi hg he hc fun e w' hR => by
      obtain ⟨x, hx, hJ'⟩ := hK e w' hR
      exact ⟨x, hx, x, rfl, hJ'⟩
theorem does_skip (hD : apartB ops = true) (hW : withinB ops a0.tmps.size = true) (hi : ops[i]? = some o) (hg : o.guard = none)
    (h : ∀ l v w (a : Act), J l v w → l i = false → (∀ j, waitsB o j = true → l j = true) → (∀ j d, dstOf ops j = some d → l j = true → a.eval (.tmp d) = v j) → (∀ d, ((List.range ops.size).all fun j => !(dstOf ops j == some d)) = true → a.eval (.tmp d) = a0.eval (.tmp d)) →
      ∃ w', (execOp a.eval o).run P w = .ok .skip w' ∧ J (ub l i) (uv v i undef) w') : Does P .any ops Q a0 J i :=
  does_of hD hW hi fun l v w a hJ hl hp hat hold => by
    obtain ⟨w', he, hJ'⟩ := h l v w a hJ hl hp hat hold
    exact skipOp hi hg he ⟨undef, rfl, hJ'⟩
end
end
end Go.Proofs.YtcdbkbcfjdpdoaaDoor

namespace Go.Proofs.YtcdbkbcfjdpdoaaDoor
open Go.RowKit

theorem bytes_below (w : World) (e : TypeId) (s : ByteArray) : Below w.heap.size w (Lib.bytesWorld w e s) :=
  ⟨rfl, rfl, rfl, by rw [Lib.bytesWorld_size]; omega, fun j hj => Lib.bytesWorld_at_old w e s j hj⟩
theorem bytes_src (w : World) (e : TypeId) (s : ByteArray) : Src (Lib.bytesWorld w e s) (some ⟨w.heap.size, 0, none⟩) s.size (zs s) := fun j hj => ⟨_, rfl, by
  rw [Addr.add_mid, Nat.zero_add]
  exact Lib.bytesWorld_cell w e s j hj⟩
theorem convStr {P : Program} {o : Oper} {a : Act} {w : World} (t t' e : TypeId) (x : Operand) (s : ByteArray) (ho : o.op = .convert t t' x) (hx : a.eval x = .string s) (ht : P.underlying t = some .string) (hd : P.underlying t' = some (.slice e)) (he : P.underlying e = some (.int .u8)) :
    (execOp a.eval o).run P w = .ok (.value (.slice (some ⟨w.heap.size, 0, none⟩) s.size (grownCap w s.size 0 e))) (Lib.bytesWorld w e s) := by
  unfold execOp
  simp only [ho, hx, Sem.run_bind, Lib.run_convert_string_bytes w t t' e s ht hd he, Sem.run_pure, Result.andThen_ok]
theorem neq_rows {P : Program} (w : World) (t e : TypeId) (n : Nat) (ht : P.underlying t = some (.array n e)) (he : P.underlying e = some (.int .u8)) (hsz : ∀ w, (sizeOf e).run P w = .ok 1 w) (f g : Nat → Int) (hf : In 256 n f) (hg : In 256 n g) :
    (binOp .neq t (.agg (row .u8 n f).toArray) (.agg (row .u8 n g).toArray)).run P w = .ok (.bool (!decide (val 256 f n = val 256 g n))) w := by
  rw [row_bytes n f hf, row_bytes n g hg, run_neq_struct, run_equalIn_bytes w 9998 t e n ht he hsz _ _ (by simp [bytesOf]) (by simp [bytesOf]), bytesOf_inj n f g hf hg]
  rfl
theorem neqV {P : Program} {o : Oper} {a : Act} (n : Nat) (f g : Nat → Int) (t e t' : TypeId) (x y : Operand) (ho : o.op = .binOp .neq t x y t') (hx : a.eval x = .agg (row .u8 n f).toArray) (hy : a.eval y = .agg (row .u8 n g).toArray)
    (ht : P.underlying t = some (.array n e)) (he : P.underlying e = some (.int .u8)) (hsz : ∀ w, (sizeOf e).run P w = .ok 1 w) (hm : P.eqGuardType P.depth t = false) (hf : In 256 n f) (hg : In 256 n g) (r : Bool) (hr : (!decide (val 256 f n = val 256 g n)) = r) (w : World) :
    (execOp a.eval o).run P w = .ok (.value (.bool r)) w := by
  unfold execOp
  simp only [ho, hx, hy, Sem.run_bind, run_eqGuard_agg w .neq t x y _ _ hm, Result.andThen_ok, neq_rows w t e n ht he hsz f g hf hg, Sem.run_pure, hr]
/-- Rows that part at one place are not the same. -/
theorem val_ne {n : Nat} {f g : Nat → Int} (hf : In 256 n f) (hg : In 256 n g) (j : Nat) (hj : j < n) (h : f j ≠ g j) : (!decide (val 256 f n = val 256 g n)) = true := by
  rw [decide_eq_false fun e => h (val_inj 256 (by decide) f g n hf hg e j hj)]
  rfl
theorem results_two {P : Program} {fn : Func} {tmps : Array Value} {w : World} {a b : Tmp} {ty ty' : TypeId} {x y : Nat} {cs cs' : List Value} {d d' : TypeDesc} (hr : fn.results = #[.cell a ty, .cell b ty'])
    (ha : tmps.getD a undef = .pointer (some ⟨x, 0, none⟩)) (hb : tmps.getD b undef = .pointer (some ⟨y, 0, none⟩)) (hc : w.rangeAt x 0 cs) (hc' : w.rangeAt y 0 cs') (hu : P.underlying ty = some d) (hu' : P.underlying ty' = some d') (hd : d.isRow = true) (hd' : d'.isRow = true)
    (hi : (P.info? ty).map (·.size) = some cs.length) (hi' : (P.info? ty').map (·.size) = some cs'.length) :
    (results fn tmps).run P w = .ok (.tuple #[.agg cs.toArray, .agg cs'.toArray]) w := by
  have h1 := run_loadVar_mid (P := P) w x 0 ty cs d hc hu hd hi
  have h2 := run_loadVar_mid (P := P) w y 0 ty' cs' d' hc' hu' hd' hi'
  rw [Array.getD_eq_getD_getElem?] at ha hb
  simp [results, hr, ha, hb, asAddr, h1, h2]
theorem there_grown {w w' : World} {B n : Nat} {r : Option Nat} (h : w.there B 0 n) (g : w.grownBy w' r) (hb : B < w.heap.size) (hne : r ≠ some B) : w'.there B 0 n := fun j hj => by
  have e := g.block B hb (fun e => hne e.symm)
  have := h j hj
  rw [World.cell?_of_block (a := ⟨B, 0 + j, none⟩) e, World.frozen?_of_block (a := ⟨B, 0 + j, none⟩) e]
  exact this
theorem Fb.grown {n w0 B : Nat} {w w' : World} {r : Option Nat} (h : Fb n w0 B w) (g : w.grownBy w' r) (hne : r ≠ some B) : Fb n w0 B w' := ⟨h.lo, Nat.lt_of_lt_of_le h.hi g.size, there_grown h.th g h.hi hne⟩
theorem moveOp {P : Program} {o : Oper} {a : Act} {w : World} (x : Operand) (p : Value) (ho : o.op = .move x) (hx : a.eval x = p) : (execOp a.eval o).run P w = .ok (.value p) w := by
  unfold execOp
  simp only [ho, hx]
  rfl
theorem oneOp {o : Oper} {a : Act} {w : World} (x : Operand) (c : Int) (ho : o.op = .buildSlice 22 1 #[(0, x)]) (hx : a.eval x = .int .u8 c) : (execOp a.eval o).run Tryd.prog w = .ok (.value (.slice (some ⟨w.heap.size, 0, none⟩) 1 1)) (w.alloc (.cells #[.int .u8 c] 5)) := by
  have e : (Instr.buildSlice 22 1 #[(0, .int .u8 c)]).run Tryd.prog w = .ok (.slice (some ⟨w.heap.size, 0, none⟩) 1 1) (w.alloc (.cells #[.int .u8 c] 5)) := by kernel_rfl
  unfold execOp
  simp only [ho, List.map_toArray, List.map_cons, List.map_nil, hx, Sem.run_bind, e, Result.andThen_ok, Sem.run_pure]
theorem enter2 {P : Program} {o : Oper} {a : Act} {w : World} (f : FuncId) (ts : Array TypeId) (x y : Operand) (p q : Value) (ho : o.op = .call { callee := .value (.func f), args := #[x, y], argTypes := ts }) (hx : a.eval x = p) (hy : a.eval y = q) (hc : (callFunc f #[p, q]).run P w = .ok (.enter f #[p, q]) w) : (execOp a.eval o).run P w = .ok (.enter f #[p, q]) w := by
  have hf : a.eval (.func f) = .func (.func f) #[] #[] := rfl
  simp [execOp, ho, resolve, invoke, hx, hy, hf, Deferred.ofValue, hc]
theorem storeRow {P : Program} {o : Oper} {a : Act} {w : World} (k : IntKind) (n : Nat) (f : Nat → Int) (b : Nat) (ty : TypeId) (x y : Operand) (ho : o.op = .store ty x y) (hx : a.eval x = .pointer (some ⟨b, 0, none⟩)) (hy : a.eval y = .agg (row k n f).toArray)
    (ht : w.there b 0 (row k n f).toArray.size) (hz : (P.info? ty).map (·.size) = some (row k n f).toArray.size) : (execOp a.eval o).run P w = .ok .skip (w.setCells b 0 (row k n f)) := by
  unfold execOp
  simp only [ho, hx, hy]
  have e := run_storeAt_mid (P := P) w b 0 ty (row k n f).toArray ht hz (all_oneCell_toArray (row_one k n f))
  simp only [Sem.run_bind, e, Result.andThen_ok, Sem.run_pure]
theorem loadRow {P : Program} {o : Oper} {a : Act} {w : World} (k : IntKind) (n : Nat) (f : Nat → Int) (b : Nat) (ty : TypeId) (x : Operand) (d : TypeDesc) (ho : o.op = .load ty x) (hx : a.eval x = .pointer (some ⟨b, 0, none⟩)) (hu : P.underlying ty = some d) (hd : d.isRow = true) (hz : (P.info? ty).map (·.size) = some (row k n f).length) (hh : w.rangeAt b 0 (row k n f)) :
    (execOp a.eval o).run P w = .ok (.value (.agg (row k n f).toArray)) w := by
  have e := run_loadVar_mid (P := P) w b 0 ty (row k n f) d hh hu hd hz
  unfold execOp
  simp only [ho, hx, Instr.loadAt, Instr.sureAddr, Sem.run_bind, Sem.run_pure, Result.andThen_ok, e]
theorem Src.grown {w w' : World} {p n : Nat} {f : Nat → Int} {r : Option Nat} (h : Src w (some ⟨p, 0, Option.none⟩) n f) (g : w.grownBy w' r) (hp : p < w.heap.size) (hne : r ≠ some p) : Src w' (some ⟨p, 0, Option.none⟩) n f := fun j hj => by
  obtain ⟨ad, e, hc⟩ := h j hj
  injection e with e
  subst e
  refine ⟨_, rfl, ?_⟩
  rw [Addr.add_mid] at hc ⊢
  rw [World.cell?_of_block (a := ⟨p, 0 + j, Option.none⟩) (g.block p hp (fun e => hne e.symm))]
  exact hc
theorem run_copy_win {P : Program} {o : Oper} {a : Act} {w : World} (d s : Operand) (dT sT elem : TypeId) (ho : o.op = .call { callee := .builtin .copy, args := #[d, s], argTypes := #[dT, sT] }) (hu : P.underlying dT = some (.slice elem)) (hsz : (P.info? elem).map (·.size) = some 1)
    (b o' dLen dCap sLen sCap m n : Nat) (f z : Nat → Int) (ad : Addr) (hd : a.eval d = .slice (some ⟨b, o', none⟩) dLen dCap) (hs : a.eval s = .slice (some ad) sLen sCap) (hmin : m = Nat.min sLen dLen) (hb : Has w b .u8 n f) (hm : o' + m ≤ n) (hc : Src w (some ad) m z) :
    (execOp a.eval o).run P w = .ok (.value (.int .i64 (m : Int))) (w.setCells b o' (row .u8 m z)) := by
  have hrun := run_copy_cells (P := P) w dT sT o.type elem b o' dLen dCap ad sLen sCap (row .u8 m z) hu hsz (by rw [row_length]; exact hmin) (fun j v hv => by
    obtain ⟨hj, rfl⟩ := row_get_some hv
    obtain ⟨ad', he, hc'⟩ := hc j hj
    injection he with he
    subst he
    exact hc') (fun j hj => by rw [row_length] at hj; rw [hb.cell (o' + j) (by omega)]; rfl) (fun j hj => by rw [row_length] at hj; exact hb.free (o' + j) (by omega)) (row_one .u8 m z)
  rw [row_length] at hrun
  simp [execOp, ho, resolve, invoke, builtin, hd, hs, hrun, Result.andThen, goInt]
theorem kcutLo (g n i : Nat) (hi : i < n) (w : World) : (Instr.sliceAt 22 (.slice (some ⟨g, 0, none⟩) n n) (some (.int .i64 (i : Int))) none none).run Tryd.prog w = .ok (.slice (some ⟨g, i, none⟩) (n - i) (n - i)) w := by
  rw [run_sliceAt_slice w 22 _ _ _ _ (by kernel_rfl), run_slice_l w 22 _ n n (by kernel_rfl) .i64 (i : Int) (by omega) (by omega), show (sizeOf (Tryd.prog.elem 22)).run Tryd.prog w = .ok 1 w by kernel_rfl]
  have h1 : ¬ n = i := by omega
  simp [Result.andThen, sliced, Addr.add_mid, h1]
section
variable {P : Program} {ops : Array Oper} {Q : Exit → Act → World → Prop} {md : Region.Mode} {S : World → Prop}
theorem callOpW {i : Nat} {oi : Oper} (dst : Option Tmp) (hdst : oi.dst = dst) {f : FuncId} {args : Array Value} {R : Ending → World → Prop} {K : Act → World → Prop} {a : Act} {w : World} (hi : ops[i]? = some oi) (hw : Region.wanted oi (yielded ops a.tmps) = true) (he : (execOp a.eval oi).run P w = .ok (.enter f args) w)
    (hc : Calls P f args w R) (hK : ∀ e w', R e w' → ∃ v, e = .returned v ∧ K (a.put dst v) w') : wpOp P ops Q i K a w := by
  subst hdst
  unfold wpOp
  simp only [hi, hw, if_true]
  refine .inl ?_
  unfold Oper.wp
  rw [he]
  exact hc.mono fun e w' hR => by
    obtain ⟨v, rfl, h⟩ := hK e w' hR
    exact h
theorem valueOpW {i : Nat} {oi : Oper} (dst : Option Tmp) (hdst : oi.dst = dst) {v : Value} {K : Act → World → Prop} {a : Act} {w w' : World} (hi : ops[i]? = some oi) (hw : Region.wanted oi (yielded ops a.tmps) = true) (he : (execOp a.eval oi).run P w = .ok (.value v) w')
    (h : K (a.put dst v) w') : wpOp P ops Q i K a w := by
  subst hdst
  unfold wpOp
  simp only [hi, hw, if_true]
  refine .inl ?_
  unfold Oper.wp
  rw [he]
  exact h
/-- Two operations, either of which may come first. -/
theorem twoH (i j : Nat) {fuel : Nat} {listed : Array Bool} {a : Act} {w : World} (hr : Region.ready md ops listed = [i, j])
    (hi : wpOp P ops Q i (fun a' w' => S w' ∧ wpAnyH P md ops Q S fuel (listed.setIfInBounds i true) a' w') a w) (hj : wpOp P ops Q j (fun a' w' => S w' ∧ wpAnyH P md ops Q S fuel (listed.setIfInBounds j true) a' w') a w) : wpAnyH P md ops Q S (fuel + 1) listed a w :=
  ⟨fun h0 => (by rw [h0] at hr; cases hr), fun q hq => by
    rw [hr] at hq
    rcases List.mem_cons.1 hq with rfl | hq
    · exact hi
    · obtain rfl := List.mem_singleton.1 hq
      exact hj⟩
end
theorem nofalse {C : Prop} (h : true = false) : C := by cases h
end Go.Proofs.YtcdbkbcfjdpdoaaDoor

namespace Go.Proofs.YtcdbkbcfjdpdoaaDoor
open Go.RowKit

theorem kcutAll (b : Nat) (w : World) : (Instr.sliceAt 25 (.pointer (some ⟨b, 0, none⟩)) none none none).run Tryd.prog w = .ok (.slice (some ⟨b, 0, none⟩) 32 32) w := by kernel_rfl
set_option maxRecDepth 10000 in
set_option maxHeartbeats 4000000 in
theorem krefExtract_any (kp : Option Addr) (kl kc : Nat) (hkl : kl ≤ 140737488355072) (hkn : kp = none → kc = 0) (key : Nat → Int) (hk : In 256 kl key) (sp : Option Addr) (len cap : Nat) (hlen : len ≤ 140737488354816) (hn0 : sp = none → cap = 0) (z : Nat → Int) (hz : In 256 len z) (w : World) (hks : Src w kp kl key) (hs : Src w sp len z) :
    Calls Tryd.prog 11 #[.slice kp kl kc, .slice sp len cap] w fun e w' => e = .returned (.agg (row .u8 32 (bmac kl key len z)).toArray) ∧ Below w.heap.size w w' := by
  have K := Kr.init w
  replace K := K.make 32 #[.int .u8 0, .int .u8 0, .int .u8 0, .int .u8 0, .int .u8 0, .int .u8 0, .int .u8 0, .int .u8 0, .int .u8 0, .int .u8 0, .int .u8 0, .int .u8 0, .int .u8 0, .int .u8 0, .int .u8 0, .int .u8 0, .int .u8 0, .int .u8 0, .int .u8 0, .int .u8 0, .int .u8 0, .int .u8 0, .int .u8 0, .int .u8 0, .int .u8 0, .int .u8 0, .int .u8 0, .int .u8 0, .int .u8 0, .int .u8 0, .int .u8 0, .int .u8 0] 25 (w.heap.size) rfl (key_zero _ _ _ rfl).there
  go_enter Tryd.func11, Tryd.ntmps11
  go_upto_region 1 with fail
  generalize (w.alloc (.cells #[.int .u8 0, .int .u8 0, .int .u8 0, .int .u8 0, .int .u8 0, .int .u8 0, .int .u8 0, .int .u8 0, .int .u8 0, .int .u8 0, .int .u8 0, .int .u8 0, .int .u8 0, .int .u8 0, .int .u8 0, .int .u8 0, .int .u8 0, .int .u8 0, .int .u8 0, .int .u8 0, .int .u8 0, .int .u8 0, .int .u8 0, .int .u8 0, .int .u8 0, .int .u8 0, .int .u8 0, .int .u8 0, .int .u8 0, .int .u8 0, .int .u8 0, .int .u8 0] 25)) = w0 at K ⊢
  refine wp_region_list ?_
  refine pureL (.slice kp kl kc) rfl (fun _ => by kernel_rfl) ?_
  simp only [Act.put, List.setIfInBounds_toArray, List.set_cons_zero, List.set_cons_succ]
  refine pureL (.slice sp len cap) rfl (fun _ => by kernel_rfl) ?_
  simp only [Act.put, List.setIfInBounds_toArray, List.set_cons_zero, List.set_cons_succ]
  refine callL rfl (fun _ => by kernel_rfl) (refMac_any kp kl kc hkl hkn key hk sp len cap hlen hn0 z hz _ (hks.below K.below (Nat.le_refl _)) (hs.below K.below (Nat.le_refl _))) ?_
  rintro e w1 ⟨rfl, l⟩
  replace K := K.call l
  clear l
  refine ⟨_, rfl, ?_⟩
  simp only [Act.put, List.setIfInBounds_toArray, List.set_cons_zero, List.set_cons_succ]
  have hz' := (K.room _ List.mem_cons_self).1
  refine storesL .u8 32 (bmac kl key len z) (w.heap.size) 25 _ _ rfl rfl rfl rfl (room_of hz') (key_info' _) ?_
  simp only [Act.put]
  have hB := (K.fill _ _ List.mem_cons_self (row .u8 32 (bmac kl key len z))).below
  clear K
  generalize hGe : bmac kl key len z = G at *
  show Exit.then _ _ _ _ _
  go_wp2
  exact bodyPost_ret (v := (.agg (row .u8 32 (G)).toArray)) (results_row Tryd.results11 rfl (Has.all hz' .u8 G).range Tryd.underlying25 rfl (key_info G)) rfl ⟨by first | rfl | rw [hGe] | (rw [← hGe]; done), hB⟩

/-- The bytes so far, the last part, in a loop's midst. -/
structure KE (w : World) (B : Nat) (k : Nat → Int) (il : Nat) (inf : Nat → Int) (m : Nat) (vo vl : Value) (w' : World) : Prop where
  kr : Kr w B [(w.heap.size, .u8, 32, k)] [] w'
  out : Own w' B 5 .u8 (32 * m) (kex k il inf) vo
  last : ∃ ls lc, vl = .slice ls (klen m) lc ∧ (ls = none → lc = 0) ∧ Src w' ls (klen m) (kT k il inf m)
set_option maxRecDepth 10000 in
set_option maxHeartbeats 4000000 in
theorem krefExpand_bad (k : Nat → Int) (ip : Option Addr) (il ic : Nat) (n : Int) (hbad : n < 0 ∨ 8160 < n) (w : World) :
    Calls Tryd.prog 13 #[(.agg (row .u8 32 (k)).toArray), .slice ip il ic, .int .i64 n] w fun e w' => e = .returned (.tuple #[.slice none 0 0, .int .i64 1]) ∧ Below w.heap.size w w' := by
  have hB := (Below.refl w.heap.size w).alloc (Nat.le_refl _) (.cells (row .u8 32 k).toArray 25)
  by_cases h1 : n < 0
  · go_enter Tryd.func13, Tryd.ntmps13
    go_wp2
    go_ret2
    exact ⟨rfl, hB⟩
  · have h2 : 8160 < n := by omega
    have h2' : 8161 ≤ n := by omega
    go_enter Tryd.func13, Tryd.ntmps13
    go_wp2
    go_ret2
    exact ⟨rfl, hB⟩
set_option maxRecDepth 10000 in
set_option maxHeartbeats 16000000 in
theorem krefExpand_any (k : Nat → Int) (hk : In 256 32 k) (ip : Option Addr) (il ic : Nat) (hil : il ≤ 140737488351232) (hin : ip = none → ic = 0) (inf : Nat → Int) (hif : In 256 il inf) (n : Nat) (hn : n ≤ 8160) (w : World) (hs : Src w ip il inf) :
    Calls Tryd.prog 13 #[(.agg (row .u8 32 (k)).toArray), .slice ip il ic, .int .i64 (n : Int)] w fun e w' => ∃ sp cap, e = .returned (.tuple #[.slice sp n cap, .int .i64 0]) ∧ (n ≤ cap ∧ Src w' sp n (kex k il inf)) ∧ Below w.heap.size w w' := by
  have h1 : ¬ (n : Int) < 0 := by omega
  have h2 : ¬ 8160 < (n : Int) := by omega
  have h2' : ¬ 8161 ≤ (n : Int) := by omega
  have K := Kr.init w
  replace K := K.box .u8 32 k 25 (w.heap.size) rfl
  go_enter Tryd.func13, Tryd.ntmps13
  go_upto_region 3 with fail
  clear h1 h2 h2'
  generalize (w.alloc (.cells (row .u8 32 k).toArray 25)) = w0 at K ⊢
  refine wp_region_list ?_
  refine actL (w' := w0.alloc (.cells #[] 5)) (.slice (some ⟨w0.heap.size, 0, none⟩) 0 0) rfl (by kernel_rfl) ?_
  simp only [Act.put, List.setIfInBounds_toArray, List.set_cons_zero, List.set_cons_succ]
  refine pureL (.slice (some ⟨w0.heap.size, 0, none⟩) 0 0) rfl (fun _ => by kernel_rfl) ?_
  simp only [Act.put, List.setIfInBounds_toArray, List.set_cons_zero, List.set_cons_succ]
  show Exit.then _ _ _ _ _
  go_upto_region 4 with fail
  refine wp_region_list ?_
  refine actL (w' := (w0.alloc (.cells #[] 5)).alloc (.cells #[] 5)) (.slice (some ⟨(w0.alloc (.cells #[] 5)).heap.size, 0, none⟩) 0 0) rfl (by kernel_rfl) ?_
  simp only [Act.put, List.setIfInBounds_toArray, List.set_cons_zero, List.set_cons_succ]
  refine pureL (.slice (some ⟨(w0.alloc (.cells #[] 5)).heap.size, 0, none⟩) 0 0) rfl (fun _ => by kernel_rfl) ?_
  simp only [Act.put, List.setIfInBounds_toArray, List.set_cons_zero, List.set_cons_succ]
  have HE : KE w (w.heap.size + 1) k il inf 0 (.slice (some ⟨w0.heap.size, 0, none⟩) 0 0) (.slice (some ⟨(w0.alloc (.cells #[] 5)).heap.size, 0, none⟩) 0 0) ((w0.alloc (.cells #[] 5)).alloc (.cells #[] 5)) :=
    ⟨(K.call ((Below.refl w0.heap.size w0).alloc (Nat.le_refl _) (.cells #[] 5))).call ((Below.refl _ _).alloc (Nat.le_refl _) (.cells #[] 5)), Own.alloc (Own.lit w0 (w.heap.size + 1) 5 .u8 0 _ K.size (by unfold maxLen; omega)) _, _, _, rfl, fun e => (by cases e), fun j hj => absurd hj (Nat.not_lt_zero j)⟩
  clear K
  generalize (w0.alloc (.cells #[] 5)).alloc (.cells #[] 5) = w1 at HE ⊢
  generalize (Value.slice (some ⟨(w0.alloc (.cells #[] 5)).heap.size, 0, none⟩) 0 0) = vl at HE ⊢
  generalize (Value.slice (some ⟨w0.heap.size, 0, none⟩) 0 0) = vo at HE ⊢
  show Exit.then _ _ _ _ _
  go_wp2
  go_loopw [8, 9, 10] (fun ow lw iw w' => ∃ (m : Nat) (vo vl : Value), 32 * m < n + 32 ∧ vo = ow ∧ vl = lw ∧ iw = .int .i64 ((m + 1 : Nat) : Int) ∧ KE w (w.heap.size + 1) k il inf m vo vl w') (fun _ _ iw _ => 300 - (intOf iw).toNat)
  case atStart => exact ⟨0, _, _, by omega, rfl, rfl, rfl, HE⟩
  case round =>
    clear HE
    obtain ⟨m, vo, vl, hm, rfl, rfl, rfl, HE⟩ := hrel
    obtain ⟨ls, lc, rfl, hln, hls⟩ := HE.last
    obtain ⟨os, oc, rfl, hoc, hos⟩ := HE.out.bytes
    by_cases hlt : 32 * m < n
    · have g1 : ((32 * m : Nat) : Int) < (n : Int) := by omega
      have g1' : 32 * (m : Int) < (n : Int) := by omega
      go_upto_region 8 with fail
      refine wp_region_list ?_
      refine actL (w' := wr.alloc (.cells #[] 5)) (.slice (some ⟨wr.heap.size, 0, none⟩) 0 0) rfl (by kernel_rfl) ?_
      simp only [Act.put, List.setIfInBounds_toArray, List.set_cons_zero, List.set_cons_succ]
      refine pureL (.slice ls (klen m) lc) rfl (fun _ => by kernel_rfl) ?_
      simp only [Act.put, List.setIfInBounds_toArray, List.set_cons_zero, List.set_cons_succ]
      have hb0 := (Below.refl wr.heap.size wr).alloc (Nat.le_refl _) (.cells #[] 5)
      obtain ⟨v1, w2, hr, ho, hg, _⟩ := run_append_Own (P := Tryd.prog) (ty := 22) Tryd.underlying22 one8 (Own.lit wr wr.heap.size 5 .u8 0 (fun _ => 0) (Nat.le_refl _) (by unfold maxLen; omega)) ls (klen m) lc (kT k il inf m) (hls.below hb0 (Nat.le_refl _)) hln (by have := klen_le m; unfold maxLen; omega) (by have := klen_le m; omega) hb0.size
      have hb2 := hb0.grown hg hb0.size (fun b hb => by injection hb with hb; simp only at hb; omega)
      refine actL v1 rfl (appendOp _ _ 22 _ _ _ rfl rfl rfl hr) ?_
      simp only [Act.put, List.setIfInBounds_toArray, List.set_cons_zero, List.set_cons_succ]
      refine pureL (.slice ip il ic) rfl (fun _ => by kernel_rfl) ?_
      simp only [Act.put, List.setIfInBounds_toArray, List.set_cons_zero, List.set_cons_succ]
      replace ho : Own w2 wr.heap.size 5 .u8 (klen m) (kT k il inf m) v1 := by
        rw [Nat.zero_add] at ho
        exact ho.congr fun j _ => by unfold app; rw [if_neg (Nat.not_lt_zero j), Nat.sub_zero]
      clear hr hg
      obtain ⟨v2, w3, hr, ho3, hg, _⟩ := run_append_Own (P := Tryd.prog) (ty := 22) Tryd.underlying22 one8 ho ip il ic inf (hs.below (HE.kr.call hb2).below (Nat.le_refl _)) hin (by have := klen_le m; unfold maxLen; omega) (by have := klen_le m; omega) hb2.size
      have hb3 := hb2.grown hg hb2.size (fun b hb => (World.ownsRow.lt ho b hb).1)
      refine actL v2 rfl (appendOp _ _ 22 _ _ _ rfl rfl rfl hr) ?_
      simp only [Act.put, List.setIfInBounds_toArray, List.set_cons_zero, List.set_cons_succ]
      refine pureL v2 rfl (fun _ => by kernel_rfl) ?_
      simp only [Act.put, List.setIfInBounds_toArray, List.set_cons_zero, List.set_cons_succ]
      clear hr hg ho hb0 hb2
      show Exit.then _ _ _ _ _
      go_upto_region 9 with fail
      refine wp_region_each (fun l v W => Below wr.heap.size wr W ∧ (l 0 = true → v 0 = .slice (some ⟨w.heap.size, 0, none⟩) 32 32) ∧ (l 1 = true → v 1 = v2) ∧ (l 2 = true → v 2 = .int .i64 ((m + 1 : Nat) : Int)) ∧ (l 3 = true → v 3 = .int .u8 ((m + 1 : Nat) : Int)) ∧ (l 4 = true → l 5 = false → ∃ p, v 4 = .slice (some ⟨p, 0, none⟩) 1 1 ∧ Src W (some ⟨p, 0, none⟩) 1 (fun _ => ((m + 1 : Nat) : Int))) ∧ (l 5 = false → Own W wr.heap.size 5 .u8 (klen m + il) (app (kT k il inf m) (klen m) inf) v2) ∧ (l 5 = true → l 6 = false → Own W wr.heap.size 5 .u8 (klen m + il + 1) (ktx il inf m (kT k il inf m)) (v 5)) ∧ (l 6 = true → v 6 = (.agg (row .u8 32 (kT k il inf (m + 1))).toArray)) ∧ (l 7 = true → l 8 = false → ∃ B, v 7 = .pointer (some ⟨B, 0, none⟩) ∧ Fb 32 wr.heap.size B W ∧ (l 5 = false → v2.ownBlock ≠ some B)) ∧ (l 8 = true → l 5 = true ∧ l 7 = true ∧ ∃ B, v 7 = .pointer (some ⟨B, 0, none⟩) ∧ Has W B .u8 32 (kT k il inf (m + 1)) ∧ wr.heap.size ≤ B ∧ B < W.heap.size)) 9 [some 32, some 33, some 34, some 35, some 36, some 37, some 38, some 12, none] (by kernel_rfl) (by kernel_rfl) (by kernel_rfl) (by kernel_rfl) (by kernel_rfl) ?_ ?_ ?_
      · exact ⟨hb3.drew, fun h => nofalse h.symm, fun h => nofalse h.symm, fun h => nofalse h.symm, fun h => nofalse h.symm, fun h _ => nofalse h.symm, fun _ => ho3.drew, fun h _ => nofalse h.symm, fun h => nofalse h.symm, fun h _ => nofalse h.symm, fun h => nofalse h.symm⟩
      · intro i hi
        match i, hi with
        | 0, _ =>
          refine does_value (by kernel_rfl) (by kernel_rfl) rfl rfl ?_
          intro l v W a hJ hl hp hat hold
          obtain ⟨fb, f0, f1, f2, f3, f4, fo, f5, f6, f7, f8⟩ := hJ
          exact ⟨_, W, cutAll _ _ _ _ rfl (hold 3 (by kernel_rfl)) (kcutAll w.heap.size W), ⟨fb, fun _ => rfl, f1, f2, f3, f4, fo, f5, f6, f7, f8⟩⟩
        | 1, _ =>
          refine does_value (by kernel_rfl) (by kernel_rfl) rfl rfl ?_
          intro l v W a hJ hl hp hat hold
          obtain ⟨fb, f0, f1, f2, f3, f4, fo, f5, f6, f7, f8⟩ := hJ
          exact ⟨_, W, moveOp _ _ rfl (hold 11 (by kernel_rfl)), ⟨fb, f0, fun _ => rfl, f2, f3, f4, fo, f5, f6, f7, f8⟩⟩
        | 2, _ =>
          refine does_value (by kernel_rfl) (by kernel_rfl) rfl rfl ?_
          intro l v W a hJ hl hp hat hold
          obtain ⟨fb, f0, f1, f2, f3, f4, fo, f5, f6, f7, f8⟩ := hJ
          exact ⟨_, W, moveOp _ _ rfl (hold 10 (by kernel_rfl)), ⟨fb, f0, f1, fun _ => rfl, f3, f4, fo, f5, f6, f7, f8⟩⟩
        | 3, _ =>
          refine does_value (by kernel_rfl) (by kernel_rfl) rfl rfl ?_
          intro l v W a hJ hl hp hat hold
          obtain ⟨fb, f0, f1, f2, f3, f4, fo, f5, f6, f7, f8⟩ := hJ
          exact ⟨.int .u8 ((m + 1 : Nat) : Int), W, convI .i64 .u8 _ _ _ _ _ rfl (by kernel_rfl) Tryd.underlying5 (by kernel_rfl) ((hat 2 34 rfl (hp 2 (by kernel_rfl))).trans (f2 (hp 2 (by kernel_rfl)))) (by rw [IntKind.wrap_u8]; omega) W, ⟨fb, f0, f1, f2, fun _ => rfl, f4, fo, f5, f6, f7, f8⟩⟩
        | 4, _ =>
          refine does_value (by kernel_rfl) (by kernel_rfl) rfl rfl ?_
          intro l v W a hJ hl hp hat hold
          obtain ⟨fb, f0, f1, f2, f3, f4, fo, f5, f6, f7, f8⟩ := hJ
          have lb := (Below.refl W.heap.size W).alloc (Nat.le_refl _) (.cells #[.int .u8 ((m + 1 : Nat) : Int)] 5)
          exact ⟨_, _, oneOp _ _ rfl ((hat 3 35 rfl (hp 3 (by kernel_rfl))).trans (f3 (hp 3 (by kernel_rfl)))), ⟨fb.trans (lb.mono fb.size), f0, f1, f2, f3, fun _ _ => ⟨W.heap.size, rfl, (Has.new W .u8 1 (fun _ => ((m + 1 : Nat) : Int)) 5 W.heap.size rfl).src0⟩, fun h => (fo h).below lb, fun h g => (f5 h g).below lb, f6, fun h g => (by obtain ⟨B, h1, h2, h3⟩ := f7 h g; exact ⟨B, h1, h2.call lb, h3⟩), fun h => (by obtain ⟨h5, h7, B, h1, h2, h3, h4⟩ := f8 h; exact ⟨h5, h7, B, h1, h2.below lb h4, h3, Nat.lt_of_lt_of_le h4 lb.size⟩)⟩⟩
        | 5, _ =>
          refine does_value (by kernel_rfl) (by kernel_rfl) rfl rfl ?_
          intro l v W a hJ hl hp hat hold
          obtain ⟨fb, f0, f1, f2, f3, f4, fo, f5, f6, f7, f8⟩ := hJ
          obtain ⟨p, hp4, hsp⟩ := f4 (hp 4 (by kernel_rfl)) hl
          obtain ⟨x, w', hr, ho, hgr, _⟩ := run_append_Own (P := Tryd.prog) (ty := 22) Tryd.underlying22 one8 (fo hl) (some ⟨p, 0, none⟩) 1 1 (fun _ => ((m + 1 : Nat) : Int)) hsp (fun e => by cases e) (by have := klen_le m; unfold maxLen; omega) (by have := klen_le m; omega) fb.size
          have hx : Own w' wr.heap.size 5 .u8 (klen m + il + 1) (ktx il inf m (kT k il inf m)) x := ho
          exact ⟨x, w', appendOp _ _ 22 _ _ _ rfl ((hat 1 33 rfl (hp 1 (by kernel_rfl))).trans (f1 (hp 1 (by kernel_rfl)))) ((hat 4 36 rfl (hp 4 (by kernel_rfl))).trans (hp4)) hr, ⟨fb.grown hgr fb.size (fun b hb => (World.ownsRow.lt (fo hl) b hb).1), f0, f1, f2, f3, fun _ g => nofalse g, fun g => nofalse g, fun _ _ => hx, f6, fun h g => (by obtain ⟨B, h1, h2, h3⟩ := f7 h g; exact ⟨B, h1, h2.grown hgr (h3 hl), fun g => nofalse g⟩), fun h => nofalse ((f8 h).1.symm.trans hl)⟩⟩
        | 6, _ =>
          refine does_call (by kernel_rfl) (by kernel_rfl) rfl rfl ?_
          intro l v W a hJ hl hp hat hold
          obtain ⟨fb, f0, f1, f2, f3, f4, fo, f5, f6, f7, f8⟩ := hJ
          have ho := f5 (hp 5 (by kernel_rfl)) hl
          obtain ⟨xs, xc, hxe, hxc, hxs⟩ := ho.bytes
          rw [hxe] at ho
          refine ⟨21, _, _, enter2 21 _ _ _ _ _ rfl ((hat 0 32 rfl (hp 0 (by kernel_rfl))).trans (f0 (hp 0 (by kernel_rfl)))) ((hat 5 37 rfl (hp 5 (by kernel_rfl))).trans (hxe)) (by kernel_rfl), refMac_any (some ⟨w.heap.size, 0, none⟩) 32 32 (by decide) (fun e => by cases e) k hk xs (klen m + il + 1) xc (by have := klen_le m; omega) ho.nilCap (ktx il inf m (kT k il inf m)) (ktx_in il inf hif m (by omega) _ (kT_in k il inf 32 m)) W ((HE.kr.get _ _ _ _ List.mem_cons_self).src0.below fb (Nat.le_refl _)) hxs, ?_⟩
          rintro e w' ⟨rfl, lb⟩
          exact ⟨_, rfl, ⟨fb.trans (lb.mono fb.size), f0, f1, f2, f3, fun h g => (by obtain ⟨p, h1, h2⟩ := f4 h g; exact ⟨p, h1, h2.below lb (Nat.le_refl _)⟩), fun h => (fo h).below lb, fun _ g => nofalse g, fun _ => rfl, fun h g => (by obtain ⟨B, h1, h2, h3⟩ := f7 h g; exact ⟨B, h1, h2.call lb, h3⟩), fun h => (by obtain ⟨h5, h7, B, h1, h2, h3, h4⟩ := f8 h; exact ⟨h5, h7, B, h1, h2.below lb h4, h3, Nat.lt_of_lt_of_le h4 lb.size⟩)⟩⟩
        | 7, _ =>
          refine does_value (by kernel_rfl) (by kernel_rfl) rfl rfl ?_
          intro l v W a hJ hl hp hat hold
          obtain ⟨fb, f0, f1, f2, f3, f4, fo, f5, f6, f7, f8⟩ := hJ
          have lb := (Below.refl W.heap.size W).alloc (Nat.le_refl _) (.cells #[.int .u8 0, .int .u8 0, .int .u8 0, .int .u8 0, .int .u8 0, .int .u8 0, .int .u8 0, .int .u8 0, .int .u8 0, .int .u8 0, .int .u8 0, .int .u8 0, .int .u8 0, .int .u8 0, .int .u8 0, .int .u8 0, .int .u8 0, .int .u8 0, .int .u8 0, .int .u8 0, .int .u8 0, .int .u8 0, .int .u8 0, .int .u8 0, .int .u8 0, .int .u8 0, .int .u8 0, .int .u8 0, .int .u8 0, .int .u8 0, .int .u8 0, .int .u8 0] 25)
          exact ⟨_, W.alloc (.cells #[.int .u8 0, .int .u8 0, .int .u8 0, .int .u8 0, .int .u8 0, .int .u8 0, .int .u8 0, .int .u8 0, .int .u8 0, .int .u8 0, .int .u8 0, .int .u8 0, .int .u8 0, .int .u8 0, .int .u8 0, .int .u8 0, .int .u8 0, .int .u8 0, .int .u8 0, .int .u8 0, .int .u8 0, .int .u8 0, .int .u8 0, .int .u8 0, .int .u8 0, .int .u8 0, .int .u8 0, .int .u8 0, .int .u8 0, .int .u8 0, .int .u8 0, .int .u8 0] 25), by kernel_rfl, ⟨fb.trans (lb.mono fb.size), f0, f1, f2, f3, fun h g => (by obtain ⟨p, h1, h2⟩ := f4 h g; exact ⟨p, h1, h2.below lb (Nat.le_refl _)⟩), fun h => (fo h).below lb, fun h g => (f5 h g).below lb, f6, fun _ _ => ⟨W.heap.size, rfl, ⟨fb.size, by simp, (key_zero W _ _ rfl).there⟩, fun g e => by have := (World.ownsRow.lt (fo g) _ e).2; omega⟩, fun h => nofalse ((f8 h).2.1.symm.trans hl)⟩⟩
        | 8, _ =>
          refine does_skip (by kernel_rfl) (by kernel_rfl) rfl rfl ?_
          intro l v W a hJ hl hp hat hold
          obtain ⟨fb, f0, f1, f2, f3, f4, fo, f5, f6, f7, f8⟩ := hJ
          obtain ⟨B, hB, hF, _⟩ := f7 (hp 7 (by kernel_rfl)) hl
          exact ⟨_, storeRow .u8 32 (kT k il inf (m + 1)) B 25 _ _ rfl ((hat 7 12 rfl (hp 7 (by kernel_rfl))).trans (hB)) ((hat 6 38 rfl (hp 6 (by kernel_rfl))).trans (f6 (hp 6 (by kernel_rfl)))) (room_of hF.th) (key_info' _), ⟨below_setAll fb B hF.lo 0 _, f0, f1, f2, f3, fun _ g => nofalse ((hp 5 (by kernel_rfl)).symm.trans g), fun g => nofalse ((hp 5 (by kernel_rfl)).symm.trans g), fun _ g => nofalse ((hp 6 (by kernel_rfl)).symm.trans g), f6, fun _ g => nofalse g, fun _ => ⟨(hp 5 (by kernel_rfl)), (hp 7 (by kernel_rfl)), B, hB, Has.all hF.th .u8 _, hF.lo, by rw [size_setAll]; exact hF.hi⟩⟩⟩
        | _ + 9, h => omega
      · intro l v W hJ hl
        obtain ⟨fb, f0, f1, f2, f3, f4, fo, f5, f6, f7, f8⟩ := hJ
        obtain ⟨q5, q7, T, e7, HT, hT1, hT2⟩ := f8 (hl 8 (by decide))
        simp only [putL, Act.put, List.setIfInBounds_toArray, List.set_cons_zero, List.set_cons_succ]
        rw [f0 (hl 0 (by decide)), f1 (hl 1 (by decide)), f2 (hl 2 (by decide)), f3 (hl 3 (by decide)), f6 (hl 6 (by decide)), e7]
        have hK := HE.kr.call fb
        have hO := HE.out.below fb
        clear HE ho3 hb3 fb f0 f1 f2 f3 f4 fo f5 f6 f7 f8 e7 hos hls
        generalize v 4 = va
        generalize v 5 = vb
        clear q5 q7 hl v l
        show Exit.then _ _ _ _ _
        go_upto_region 10 with fail
        refine wp_region_list ?_
        refine actL (w' := W.alloc (.cells #[] 5)) (.slice (some ⟨W.heap.size, 0, none⟩) 0 0) rfl (by kernel_rfl) ?_
        simp only [Act.put, List.setIfInBounds_toArray, List.set_cons_zero, List.set_cons_succ]
        refine pureL (.slice (some ⟨T, 0, none⟩) 32 32) rfl (fun w' => cutAll _ _ _ _ rfl rfl (kcutAll T w')) ?_
        simp only [Act.put, List.setIfInBounds_toArray, List.set_cons_zero, List.set_cons_succ]
        have hb0 := (Below.refl W.heap.size W).alloc (Nat.le_refl _) (.cells #[] 5)
        obtain ⟨v1, w2, hr, ho, hg, _⟩ := run_append_Own (P := Tryd.prog) (ty := 22) Tryd.underlying22 one8 (Own.lit W W.heap.size 5 .u8 0 (fun _ => 0) (Nat.le_refl _) (by unfold maxLen; omega)) (some ⟨T, 0, none⟩) 32 32 (kT k il inf (m + 1)) (HT.src0.below hb0 (Nat.le_refl _)) (fun e => by cases e) (by unfold maxLen; omega) (by omega) hb0.size
        have hb2 := hb0.grown hg hb0.size (fun b hb => by injection hb with hb; simp only at hb; omega)
        refine actL v1 rfl (appendOp _ _ 22 _ _ _ rfl rfl rfl hr) ?_
        simp only [Act.put, List.setIfInBounds_toArray, List.set_cons_zero, List.set_cons_succ]
        refine pureL v1 rfl (fun _ => by kernel_rfl) ?_
        simp only [Act.put, List.setIfInBounds_toArray, List.set_cons_zero, List.set_cons_succ]
        replace ho : Own w2 W.heap.size 5 .u8 32 (kT k il inf (m + 1)) v1 := by
          rw [Nat.zero_add] at ho
          exact ho.congr fun j _ => by unfold app; rw [if_neg (Nat.not_lt_zero j), Nat.sub_zero]
        obtain ⟨g, gc, rfl, hg1, hg2, Hg⟩ := ho.has (by decide)
        have hob : ∀ b, Value.ownBlock (.slice os (32 * m) oc) = some b → b < W.heap.size := fun b hb => (World.ownsRow.lt hO b hb).2
        replace hK := hK.call hb2
        replace hO := hO.below hb2
        clear hr hg ho hb0 HT hT1 hT2
        show Exit.then _ _ _ _ _
        go_upto_region 11 with fail
        refine wp_region_list ?_
        refine pureL (.slice os (32 * m) oc) rfl (fun _ => by kernel_rfl) ?_
        simp only [Act.put, List.setIfInBounds_toArray, List.set_cons_zero, List.set_cons_succ]
        refine pureL (.slice (some ⟨g, 0, none⟩) 32 gc) rfl (fun _ => by kernel_rfl) ?_
        simp only [Act.put, List.setIfInBounds_toArray, List.set_cons_zero, List.set_cons_succ]
        obtain ⟨v3, w4, hr, ho, hgr, _⟩ := run_append_Own (P := Tryd.prog) (ty := 22) Tryd.underlying22 one8 hO (some ⟨g, 0, none⟩) 32 gc (kT k il inf (m + 1)) Hg.src0 (fun e => by cases e) (by unfold maxLen; omega) (by omega) hK.size
        refine actL v3 rfl (appendOp _ _ 22 _ _ _ rfl rfl rfl hr) ?_
        simp only [Act.put, List.setIfInBounds_toArray, List.set_cons_zero, List.set_cons_succ]
        refine pureL v3 rfl (fun _ => by kernel_rfl) ?_
        simp only [Act.put, List.setIfInBounds_toArray, List.set_cons_zero, List.set_cons_succ]
        have HS := show Hid _ from (show KE w (w.heap.size + 1) k il inf (m + 1) v3 (.slice (some ⟨g, 0, none⟩) 32 gc) w4 from ⟨hK.grown hgr (fun b hb => (World.ownsRow.lt hO b hb).1), (by
            rw [show 32 * (m + 1) = 32 * m + 32 by omega]
            exact ho.congr fun j hj => by rw [kex_next, if_pos hj]), _, _, rfl, fun e => (by cases e), (Hg.grown hgr hg2 (fun e => by have := hob g e.symm; omega)).src0⟩)
        obtain ⟨os3, oc3, rfl, _, _⟩ := ho.bytes
        clear hr ho hgr hK hO Hg hob hb2
        show Exit.inBlock _ _ _ _ _
        go_wp2
        go_roundw
        case rel => first | exact ⟨m + 1, _, _, by omega, rfl, rfl, by go_num, HS.out⟩ | ((repeat apply Exists.intro); refine ⟨⟨m + 1, _, _, by omega, rfl, rfl, by go_num, HS.out⟩, rfl⟩)
        case measure => simp [intOf]; omega
    · have g1 : ¬ ((32 * m : Nat) : Int) < (n : Int) := by omega
      have g1' : ¬ 32 * (m : Int) < (n : Int) := by omega
      obtain ⟨sp, hcut, hsrc⟩ := cut_hi (P := Tryd.prog) (t := 22) (by kernel_rfl) (fun _ => by kernel_rfl) os (32 * m) oc n (by omega) hoc
      have hB := HE.kr.below
      go_upto_region 12 with fail
      refine wp_region_list ?_
      refine pureL (.slice os (32 * m) oc) rfl (fun _ => by kernel_rfl) ?_
      simp only [Act.put, List.setIfInBounds_toArray, List.set_cons_zero, List.set_cons_succ]
      refine pureL (.int .i64 (n : Int)) rfl (fun _ => by kernel_rfl) ?_
      simp only [Act.put, List.setIfInBounds_toArray, List.set_cons_zero, List.set_cons_succ]
      refine pureL (.slice sp n oc) rfl (fun w => cutHi _ _ _ _ _ _ rfl rfl rfl (hcut w)) ?_
      simp only [Act.put, List.setIfInBounds_toArray, List.set_cons_zero, List.set_cons_succ]
      refine pureL (.slice sp n oc) rfl (fun _ => by kernel_rfl) ?_
      simp only [Act.put, List.setIfInBounds_toArray, List.set_cons_zero, List.set_cons_succ]
      refine pureL (.int .i64 0) rfl (fun _ => by kernel_rfl) ?_
      simp only [Act.put, List.setIfInBounds_toArray, List.set_cons_zero, List.set_cons_succ]
      show Exit.then _ _ _ _ _
      have hS := hsrc _ _ hos
      clear hcut hsrc HE hos hls
      go_wp2
      go_ret2
      exact ⟨sp, oc, rfl, ⟨by omega, hS⟩, hB⟩
end Go.Proofs.YtcdbkbcfjdpdoaaDoor

namespace Go.Proofs.YtcdbkbcfjdpdoaaDoor
open Go.RowKit

/-- The keys that Chain makes. -/
def kA (k : Nat → Int) (len : Nat) (z : Nat → Int) : Nat → Int := kT (bmac 32 k len z) 0 z0 1
def kB (k : Nat → Int) (len : Nat) (z : Nat → Int) : Nat → Int := kT (bmac 32 k len z) 0 z0 2
set_option maxRecDepth 10000 in
set_option maxHeartbeats 16000000 in
theorem krefChain_any (k : Nat → Int) (hk : In 256 32 k) (sp : Option Addr) (len cap : Nat) (hlen : len ≤ 140737488351232) (hn0 : sp = none → cap = 0) (z : Nat → Int) (hz : In 256 len z) (w : World) (hs : Src w sp len z) :
    Calls Tryd.prog 15 #[(.agg (row .u8 32 (k)).toArray), .slice sp len cap] w fun e w' => e = .returned (.tuple #[(.agg (row .u8 32 (kA k len z)).toArray), (.agg (row .u8 32 (kB k len z)).toArray)]) ∧ Below w.heap.size w w' := by
  have K := Kr.init w
  replace K := K.box .u8 32 k 25 (w.heap.size) rfl
  replace K := K.make 32 #[.int .u8 0, .int .u8 0, .int .u8 0, .int .u8 0, .int .u8 0, .int .u8 0, .int .u8 0, .int .u8 0, .int .u8 0, .int .u8 0, .int .u8 0, .int .u8 0, .int .u8 0, .int .u8 0, .int .u8 0, .int .u8 0, .int .u8 0, .int .u8 0, .int .u8 0, .int .u8 0, .int .u8 0, .int .u8 0, .int .u8 0, .int .u8 0, .int .u8 0, .int .u8 0, .int .u8 0, .int .u8 0, .int .u8 0, .int .u8 0, .int .u8 0, .int .u8 0] 25 (w.heap.size + 1) (by simp) (key_zero _ _ _ (by simp)).there
  replace K := K.make 32 #[.int .u8 0, .int .u8 0, .int .u8 0, .int .u8 0, .int .u8 0, .int .u8 0, .int .u8 0, .int .u8 0, .int .u8 0, .int .u8 0, .int .u8 0, .int .u8 0, .int .u8 0, .int .u8 0, .int .u8 0, .int .u8 0, .int .u8 0, .int .u8 0, .int .u8 0, .int .u8 0, .int .u8 0, .int .u8 0, .int .u8 0, .int .u8 0, .int .u8 0, .int .u8 0, .int .u8 0, .int .u8 0, .int .u8 0, .int .u8 0, .int .u8 0, .int .u8 0] 25 (w.heap.size + 1 + 1) (by simp) (key_zero _ _ _ (by simp)).there
  go_enter Tryd.func15, Tryd.ntmps15
  go_upto_region 1 with fail
  generalize (((w.alloc (.cells (row .u8 32 k).toArray 25)).alloc (.cells #[.int .u8 0, .int .u8 0, .int .u8 0, .int .u8 0, .int .u8 0, .int .u8 0, .int .u8 0, .int .u8 0, .int .u8 0, .int .u8 0, .int .u8 0, .int .u8 0, .int .u8 0, .int .u8 0, .int .u8 0, .int .u8 0, .int .u8 0, .int .u8 0, .int .u8 0, .int .u8 0, .int .u8 0, .int .u8 0, .int .u8 0, .int .u8 0, .int .u8 0, .int .u8 0, .int .u8 0, .int .u8 0, .int .u8 0, .int .u8 0, .int .u8 0, .int .u8 0] 25)).alloc (.cells #[.int .u8 0, .int .u8 0, .int .u8 0, .int .u8 0, .int .u8 0, .int .u8 0, .int .u8 0, .int .u8 0, .int .u8 0, .int .u8 0, .int .u8 0, .int .u8 0, .int .u8 0, .int .u8 0, .int .u8 0, .int .u8 0, .int .u8 0, .int .u8 0, .int .u8 0, .int .u8 0, .int .u8 0, .int .u8 0, .int .u8 0, .int .u8 0, .int .u8 0, .int .u8 0, .int .u8 0, .int .u8 0, .int .u8 0, .int .u8 0, .int .u8 0, .int .u8 0] 25)) = w0 at K ⊢
  refine wp_region_list ?_
  refine pureL (.slice (some ⟨w.heap.size, 0, none⟩) 32 32) rfl (fun w' => cutAll _ _ _ _ rfl rfl (kcutAll w.heap.size w')) ?_
  simp only [Act.put, List.setIfInBounds_toArray, List.set_cons_zero, List.set_cons_succ]
  refine pureL (.slice sp len cap) rfl (fun _ => by kernel_rfl) ?_
  simp only [Act.put, List.setIfInBounds_toArray, List.set_cons_zero, List.set_cons_succ]
  refine callL rfl (fun _ => by kernel_rfl) (refMac_any (some ⟨w.heap.size, 0, none⟩) 32 32 (by decide) (fun e => by cases e) k hk sp len cap (by omega) hn0 z hz _ (K.get _ _ _ _ List.mem_cons_self).src0 (hs.below K.below (Nat.le_refl _))) ?_
  rintro e w1 ⟨rfl, l⟩
  replace K := K.call l
  clear l
  refine ⟨_, rfl, ?_⟩
  simp only [Act.put, List.setIfInBounds_toArray, List.set_cons_zero, List.set_cons_succ]
  refine allocL #[.int .u8 0, .int .u8 0, .int .u8 0, .int .u8 0, .int .u8 0, .int .u8 0, .int .u8 0, .int .u8 0, .int .u8 0, .int .u8 0, .int .u8 0, .int .u8 0, .int .u8 0, .int .u8 0, .int .u8 0, .int .u8 0, .int .u8 0, .int .u8 0, .int .u8 0, .int .u8 0, .int .u8 0, .int .u8 0, .int .u8 0, .int .u8 0, .int .u8 0, .int .u8 0, .int .u8 0, .int .u8 0, .int .u8 0, .int .u8 0, .int .u8 0, .int .u8 0] 25 rfl (fun _ => by kernel_rfl) ?_
  simp only [Act.put, List.setIfInBounds_toArray, List.set_cons_zero, List.set_cons_succ]
  refine storesL .u8 32 ((bmac 32 k len z)) w1.heap.size 25 _ _ rfl rfl rfl rfl (room_of (key_zero _ _ _ rfl).there) (key_info' _) ?_
  simp only [Act.put]
  have zT := K.size
  replace K := K.fresh .u8 32 ((bmac 32 k len z)) #[.int .u8 0, .int .u8 0, .int .u8 0, .int .u8 0, .int .u8 0, .int .u8 0, .int .u8 0, .int .u8 0, .int .u8 0, .int .u8 0, .int .u8 0, .int .u8 0, .int .u8 0, .int .u8 0, .int .u8 0, .int .u8 0, .int .u8 0, .int .u8 0, .int .u8 0, .int .u8 0, .int .u8 0, .int .u8 0, .int .u8 0, .int .u8 0, .int .u8 0, .int .u8 0, .int .u8 0, .int .u8 0, .int .u8 0, .int .u8 0, .int .u8 0, .int .u8 0] 25 (key_zero _ _ _ rfl).there
  generalize ((w1.alloc (.cells #[.int .u8 0, .int .u8 0, .int .u8 0, .int .u8 0, .int .u8 0, .int .u8 0, .int .u8 0, .int .u8 0, .int .u8 0, .int .u8 0, .int .u8 0, .int .u8 0, .int .u8 0, .int .u8 0, .int .u8 0, .int .u8 0, .int .u8 0, .int .u8 0, .int .u8 0, .int .u8 0, .int .u8 0, .int .u8 0, .int .u8 0, .int .u8 0, .int .u8 0, .int .u8 0, .int .u8 0, .int .u8 0, .int .u8 0, .int .u8 0, .int .u8 0, .int .u8 0] 25)).setCells w1.heap.size 0 (row .u8 32 ((bmac 32 k len z)))) = w2 at K ⊢
  generalize w1.heap.size = T at *
  show Exit.then _ _ _ _ _
  go_upto_region 2 with fail
  refine wp_region_list ?_
  refine pureL (.slice (some ⟨T, 0, none⟩) 32 32) rfl (fun w' => cutAll _ _ _ _ rfl rfl (kcutAll T w')) ?_
  simp only [Act.put, List.setIfInBounds_toArray, List.set_cons_zero, List.set_cons_succ]
  refine actL (w' := w2.alloc (.cells #[.int .u8 1] 5)) (.slice (some ⟨w2.heap.size, 0, none⟩) 1 1) rfl (by kernel_rfl) ?_
  simp only [Act.put, List.setIfInBounds_toArray, List.set_cons_zero, List.set_cons_succ]
  have H1 := (Has.new w2 .u8 1 (fun _ => 1) 5 w2.heap.size rfl).src0
  replace K := K.call ((Below.refl w2.heap.size w2).alloc (Nat.le_refl _) (.cells #[.int .u8 1] 5))
  have e1 : In 256 1 (fun _ => (1 : Int)) := fun _ _ => (by decide : (0 : Int) ≤ 1 ∧ (1 : Int) < 256)
  refine callL rfl (fun _ => by kernel_rfl) (refMac_any (some ⟨T, 0, none⟩) 32 32 (by decide) (fun e => by cases e) (bmac 32 k len z) (bmac_in _ _ _ _ _) (some ⟨w2.heap.size, 0, none⟩) 1 1 (by decide) (fun e => by cases e) (fun _ => 1) e1 _ (K.get _ _ _ _ List.mem_cons_self).src0 H1) ?_
  rintro e w3 ⟨rfl, l⟩
  replace K := K.call l
  clear l H1 e1
  rw [kT_one _ z0]
  refine ⟨_, rfl, ?_⟩
  simp only [Act.put, List.setIfInBounds_toArray, List.set_cons_zero, List.set_cons_succ]
  refine allocL #[.int .u8 0, .int .u8 0, .int .u8 0, .int .u8 0, .int .u8 0, .int .u8 0, .int .u8 0, .int .u8 0, .int .u8 0, .int .u8 0, .int .u8 0, .int .u8 0, .int .u8 0, .int .u8 0, .int .u8 0, .int .u8 0, .int .u8 0, .int .u8 0, .int .u8 0, .int .u8 0, .int .u8 0, .int .u8 0, .int .u8 0, .int .u8 0, .int .u8 0, .int .u8 0, .int .u8 0, .int .u8 0, .int .u8 0, .int .u8 0, .int .u8 0, .int .u8 0] 25 rfl (fun _ => by kernel_rfl) ?_
  simp only [Act.put, List.setIfInBounds_toArray, List.set_cons_zero, List.set_cons_succ]
  refine storesL .u8 32 (kA k len z) w3.heap.size 25 _ _ rfl rfl rfl rfl (room_of (key_zero _ _ _ rfl).there) (key_info' _) ?_
  simp only [Act.put]
  have zA := K.size
  replace K := K.fresh .u8 32 (kA k len z) #[.int .u8 0, .int .u8 0, .int .u8 0, .int .u8 0, .int .u8 0, .int .u8 0, .int .u8 0, .int .u8 0, .int .u8 0, .int .u8 0, .int .u8 0, .int .u8 0, .int .u8 0, .int .u8 0, .int .u8 0, .int .u8 0, .int .u8 0, .int .u8 0, .int .u8 0, .int .u8 0, .int .u8 0, .int .u8 0, .int .u8 0, .int .u8 0, .int .u8 0, .int .u8 0, .int .u8 0, .int .u8 0, .int .u8 0, .int .u8 0, .int .u8 0, .int .u8 0] 25 (key_zero _ _ _ rfl).there
  generalize ((w3.alloc (.cells #[.int .u8 0, .int .u8 0, .int .u8 0, .int .u8 0, .int .u8 0, .int .u8 0, .int .u8 0, .int .u8 0, .int .u8 0, .int .u8 0, .int .u8 0, .int .u8 0, .int .u8 0, .int .u8 0, .int .u8 0, .int .u8 0, .int .u8 0, .int .u8 0, .int .u8 0, .int .u8 0, .int .u8 0, .int .u8 0, .int .u8 0, .int .u8 0, .int .u8 0, .int .u8 0, .int .u8 0, .int .u8 0, .int .u8 0, .int .u8 0, .int .u8 0, .int .u8 0] 25)).setCells w3.heap.size 0 (row .u8 32 (kA k len z))) = wq at K ⊢
  generalize w3.heap.size = A at *
  show Exit.then _ _ _ _ _
  go_upto_region 3 with fail
  refine wp_region_each (fun l v W => Below wq.heap.size wq W ∧ (l 0 = true → v 0 = .slice (some ⟨T, 0, none⟩) 32 32) ∧ (l 1 = true → l 3 = false → Own W wq.heap.size 5 .u8 0 z0 (v 1)) ∧ (l 2 = true → v 2 = .slice (some ⟨A, 0, none⟩) 32 32) ∧ (l 3 = true → l 5 = false → Own W wq.heap.size 5 .u8 32 (kA k len z) (v 3)) ∧ (l 4 = true → l 5 = false → ∃ p, v 4 = .slice (some ⟨p, 0, none⟩) 1 1 ∧ Src W (some ⟨p, 0, none⟩) 1 (fun _ => 2) ∧ p < W.heap.size ∧ (l 1 = true → l 3 = false → (v 1).ownBlock ≠ some p)) ∧ (l 5 = true → l 3 = true) ∧ (l 5 = true → l 6 = false → Own W wq.heap.size 5 .u8 33 (app (kA k len z) 32 (fun _ => 2)) (v 5)) ∧ (l 6 = true → v 6 = (.agg (row .u8 32 (kB k len z)).toArray)) ∧ (l 7 = true → l 8 = false → ∃ B, v 7 = .pointer (some ⟨B, 0, none⟩) ∧ Fb 32 wq.heap.size B W ∧ (l 1 = true → l 3 = false → (v 1).ownBlock ≠ some B) ∧ (l 3 = true → l 5 = false → (v 3).ownBlock ≠ some B)) ∧ (l 8 = true → (∀ i, i < 8 → l i = true) ∧ ∃ B, v 7 = .pointer (some ⟨B, 0, none⟩) ∧ Has W B .u8 32 (kB k len z) ∧ wq.heap.size ≤ B ∧ B < W.heap.size)) 9 [some 15, some 16, some 17, some 18, some 19, some 20, some 21, some 8, none] (by kernel_rfl) (by kernel_rfl) (by kernel_rfl) (by kernel_rfl) (by kernel_rfl) ?_ ?_ ?_
  · exact ⟨(Below.refl _ _).drew, fun h => nofalse h.symm, fun h _ => nofalse h.symm, fun h => nofalse h.symm, fun h _ => nofalse h.symm, fun h _ => nofalse h.symm, fun h => nofalse h.symm, fun h _ => nofalse h.symm, fun h => nofalse h.symm, fun h _ => nofalse h.symm, fun h => nofalse h.symm⟩
  · intro i hi
    match i, hi with
    | 0, _ =>
      refine does_value (by kernel_rfl) (by kernel_rfl) rfl rfl ?_
      intro l v W a hJ hl hp hat hold
      obtain ⟨fb, f0, f1, f2, f3, f4, q5, f5, f6, f7, f8⟩ := hJ
      exact ⟨_, W, cutAll _ _ _ _ rfl (hold 6 (by kernel_rfl)) (kcutAll T W), ⟨fb, fun _ => rfl, f1, f2, f3, f4, fun h => q5 h, f5, f6, f7, fun h => nofalse (((f8 h).1 0 (by decide)).symm.trans hl)⟩⟩
    | 1, _ =>
      refine does_value (by kernel_rfl) (by kernel_rfl) rfl rfl ?_
      intro l v W a hJ hl hp hat hold
      obtain ⟨fb, f0, f1, f2, f3, f4, q5, f5, f6, f7, f8⟩ := hJ
      have lb := (Below.refl W.heap.size W).alloc (Nat.le_refl _) (.cells #[] 5)
      exact ⟨.slice (some ⟨W.heap.size, 0, none⟩) 0 0, W.alloc (.cells #[] 5), by kernel_rfl, ⟨fb.trans (lb.mono fb.size), f0, fun _ _ => Own.lit W wq.heap.size 5 .u8 0 z0 fb.size (by unfold maxLen; omega), f2, fun h g => (f3 h g).below lb, fun h g => (by obtain ⟨p, h1, h2, h3, _⟩ := f4 h g; exact ⟨p, h1, h2.below lb (Nat.le_refl _), Nat.lt_of_lt_of_le h3 lb.size, fun _ _ e => by injection e with e; simp only at e; omega⟩), fun h => q5 h, fun h g => (f5 h g).below lb, f6, fun h g => (by obtain ⟨B, h1, h2, _, h4⟩ := f7 h g; have hi := h2.hi; exact ⟨B, h1, h2.call lb, fun _ _ e => by injection e with e; simp only at e; omega, h4⟩), fun h => nofalse (((f8 h).1 1 (by decide)).symm.trans hl)⟩⟩
    | 2, _ =>
      refine does_value (by kernel_rfl) (by kernel_rfl) rfl rfl ?_
      intro l v W a hJ hl hp hat hold
      obtain ⟨fb, f0, f1, f2, f3, f4, q5, f5, f6, f7, f8⟩ := hJ
      exact ⟨_, W, cutAll _ _ _ _ rfl (hold 7 (by kernel_rfl)) (kcutAll A W), ⟨fb, f0, f1, fun _ => rfl, f3, f4, fun h => q5 h, f5, f6, f7, fun h => nofalse (((f8 h).1 2 (by decide)).symm.trans hl)⟩⟩
    | 3, _ =>
      refine does_value (by kernel_rfl) (by kernel_rfl) rfl rfl ?_
      intro l v W a hJ hl hp hat hold
      obtain ⟨fb, f0, f1, f2, f3, f4, q5, f5, f6, f7, f8⟩ := hJ
      have ho1 := f1 (hp 1 (by kernel_rfl)) hl
      obtain ⟨x, w', hr, ho, hgr, hob⟩ := run_append_Own (P := Tryd.prog) (ty := 22) Tryd.underlying22 one8 ho1 (some ⟨A, 0, none⟩) 32 32 (kA k len z) ((K.get _ _ _ _ List.mem_cons_self).src0.below fb (Nat.le_refl _)) (fun e => by cases e) (by unfold maxLen; omega) (by omega) fb.size
      have hx : Own w' wq.heap.size 5 .u8 32 (kA k len z) x := by
        rw [Nat.zero_add] at ho
        exact ho.congr fun j _ => by unfold app; rw [if_neg (Nat.not_lt_zero j), Nat.sub_zero]
      exact ⟨x, w', appendOp _ _ 22 _ _ _ rfl (hat 1 16 rfl (hp 1 (by kernel_rfl))) ((hat 2 17 rfl (hp 2 (by kernel_rfl))).trans (f2 (hp 2 (by kernel_rfl)))) hr, ⟨fb.grown hgr fb.size (fun b hb => (World.ownsRow.lt ho1 b hb).1), f0, fun _ g => nofalse g, f2, fun _ _ => hx, fun h g => (by obtain ⟨p, h1, h2, h3, h4⟩ := f4 h g; exact ⟨p, h1, h2.grown hgr h3 (h4 (hp 1 (by kernel_rfl)) hl), Nat.lt_of_lt_of_le h3 hgr.size, fun _ g => nofalse g⟩), fun _ => rfl, fun h g => nofalse ((q5 h).symm.trans hl), f6, fun h g => (by obtain ⟨B, h1, h2, h3, _⟩ := f7 h g; exact ⟨B, h1, h2.grown hgr (h3 (hp 1 (by kernel_rfl)) hl), fun _ g => nofalse g, fun _ _ e => by rcases hob B e with e' | e'; exact h3 (hp 1 (by kernel_rfl)) hl e'; have := h2.hi; omega⟩), fun h => nofalse (((f8 h).1 3 (by decide)).symm.trans hl)⟩⟩
    | 4, _ =>
      refine does_value (by kernel_rfl) (by kernel_rfl) rfl rfl ?_
      intro l v W a hJ hl hp hat hold
      obtain ⟨fb, f0, f1, f2, f3, f4, q5, f5, f6, f7, f8⟩ := hJ
      have lb := (Below.refl W.heap.size W).alloc (Nat.le_refl _) (.cells #[.int .u8 2] 5)
      exact ⟨_, _, oneOp _ _ rfl rfl, ⟨fb.trans (lb.mono fb.size), f0, fun h g => (f1 h g).below lb, f2, fun h g => (f3 h g).below lb, fun _ _ => ⟨W.heap.size, rfl, (Has.new W .u8 1 (fun _ => 2) 5 W.heap.size rfl).src0, by simp, fun h g e => by have := (World.ownsRow.lt (f1 h g) _ e).2; omega⟩, fun h => q5 h, fun h g => (f5 h g).below lb, f6, fun h g => (by obtain ⟨B, h1, h2, h3, h4⟩ := f7 h g; exact ⟨B, h1, h2.call lb, h3, h4⟩), fun h => nofalse (((f8 h).1 4 (by decide)).symm.trans hl)⟩⟩
    | 5, _ =>
      refine does_value (by kernel_rfl) (by kernel_rfl) rfl rfl ?_
      intro l v W a hJ hl hp hat hold
      obtain ⟨fb, f0, f1, f2, f3, f4, q5, f5, f6, f7, f8⟩ := hJ
      have ho3 := f3 (hp 3 (by kernel_rfl)) hl
      obtain ⟨p, hp4, hsp, _⟩ := f4 (hp 4 (by kernel_rfl)) hl
      obtain ⟨x, w', hr, hx, hgr, _⟩ := run_append_Own (P := Tryd.prog) (ty := 22) Tryd.underlying22 one8 ho3 (some ⟨p, 0, none⟩) 1 1 (fun _ => 2) hsp (fun e => by cases e) (by unfold maxLen; omega) (by omega) fb.size
      exact ⟨x, w', appendOp _ _ 22 _ _ _ rfl (hat 3 18 rfl (hp 3 (by kernel_rfl))) ((hat 4 19 rfl (hp 4 (by kernel_rfl))).trans (hp4)) hr, ⟨fb.grown hgr fb.size (fun b hb => (World.ownsRow.lt ho3 b hb).1), f0, fun _ g => nofalse ((hp 3 (by kernel_rfl)).symm.trans g), f2, fun _ g => nofalse g, fun _ g => nofalse g, fun _ => (hp 3 (by kernel_rfl)), fun _ _ => hx, f6, fun h g => (by obtain ⟨B, h1, h2, _, h4⟩ := f7 h g; exact ⟨B, h1, h2.grown hgr (h4 (hp 3 (by kernel_rfl)) hl), fun _ g => nofalse ((hp 3 (by kernel_rfl)).symm.trans g), fun _ g => nofalse g⟩), fun h => nofalse (((f8 h).1 5 (by decide)).symm.trans hl)⟩⟩
    | 6, _ =>
      refine does_call (by kernel_rfl) (by kernel_rfl) rfl rfl ?_
      intro l v W a hJ hl hp hat hold
      obtain ⟨fb, f0, f1, f2, f3, f4, q5, f5, f6, f7, f8⟩ := hJ
      have ho := f5 (hp 5 (by kernel_rfl)) hl
      obtain ⟨xs, xc, hxe, hxc, hxs⟩ := ho.bytes
      rw [hxe] at ho
      refine ⟨21, _, _, enter2 21 _ _ _ _ _ rfl ((hat 0 15 rfl (hp 0 (by kernel_rfl))).trans (f0 (hp 0 (by kernel_rfl)))) ((hat 5 20 rfl (hp 5 (by kernel_rfl))).trans (hxe)) (by kernel_rfl), refMac_any (some ⟨T, 0, none⟩) 32 32 (by decide) (fun e => by cases e) (bmac 32 k len z) (bmac_in _ _ _ _ _) xs 33 xc (by decide) ho.nilCap (app (kA k len z) 32 (fun _ => 2)) (app_in 32 1 _ _ (kT_in _ _ _ _ _) (fun _ _ => (by decide : (0 : Int) ≤ 2 ∧ (2 : Int) < 256))) W ((K.get _ _ _ _ (List.mem_cons_of_mem _ List.mem_cons_self)).src0.below fb (Nat.le_refl _)) hxs, ?_⟩
      rintro e w' ⟨rfl, lb⟩
      exact ⟨_, rfl, ⟨fb.trans (lb.mono fb.size), f0, fun h g => (f1 h g).below lb, f2, fun h g => (f3 h g).below lb, fun h g => (by obtain ⟨p, h1, h2, h3, h4⟩ := f4 h g; exact ⟨p, h1, h2.below lb (Nat.le_refl _), Nat.lt_of_lt_of_le h3 lb.size, h4⟩), q5, fun _ g => nofalse g, fun _ => by show Value.agg _ = Value.agg _; rw [show bmac 32 (bmac 32 k len z) 33 (app (kA k len z) 32 (fun _ => 2)) = kB k len z from kT_two _ z0], fun h g => (by obtain ⟨B, h1, h2, h3, h4⟩ := f7 h g; exact ⟨B, h1, h2.call lb, h3, h4⟩), fun h => nofalse (((f8 h).1 6 (by decide)).symm.trans hl)⟩⟩
    | 7, _ =>
      refine does_value (by kernel_rfl) (by kernel_rfl) rfl rfl ?_
      intro l v W a hJ hl hp hat hold
      obtain ⟨fb, f0, f1, f2, f3, f4, q5, f5, f6, f7, f8⟩ := hJ
      have lb := (Below.refl W.heap.size W).alloc (Nat.le_refl _) (.cells #[.int .u8 0, .int .u8 0, .int .u8 0, .int .u8 0, .int .u8 0, .int .u8 0, .int .u8 0, .int .u8 0, .int .u8 0, .int .u8 0, .int .u8 0, .int .u8 0, .int .u8 0, .int .u8 0, .int .u8 0, .int .u8 0, .int .u8 0, .int .u8 0, .int .u8 0, .int .u8 0, .int .u8 0, .int .u8 0, .int .u8 0, .int .u8 0, .int .u8 0, .int .u8 0, .int .u8 0, .int .u8 0, .int .u8 0, .int .u8 0, .int .u8 0, .int .u8 0] 25)
      exact ⟨_, W.alloc (.cells #[.int .u8 0, .int .u8 0, .int .u8 0, .int .u8 0, .int .u8 0, .int .u8 0, .int .u8 0, .int .u8 0, .int .u8 0, .int .u8 0, .int .u8 0, .int .u8 0, .int .u8 0, .int .u8 0, .int .u8 0, .int .u8 0, .int .u8 0, .int .u8 0, .int .u8 0, .int .u8 0, .int .u8 0, .int .u8 0, .int .u8 0, .int .u8 0, .int .u8 0, .int .u8 0, .int .u8 0, .int .u8 0, .int .u8 0, .int .u8 0, .int .u8 0, .int .u8 0] 25), by kernel_rfl, ⟨fb.trans (lb.mono fb.size), f0, fun h g => (f1 h g).below lb, f2, fun h g => (f3 h g).below lb, fun h g => (by obtain ⟨p, h1, h2, h3, h4⟩ := f4 h g; exact ⟨p, h1, h2.below lb (Nat.le_refl _), Nat.lt_of_lt_of_le h3 lb.size, h4⟩), q5, fun h g => (f5 h g).below lb, f6, fun _ _ => ⟨W.heap.size, rfl, ⟨fb.size, by simp, (key_zero W _ _ rfl).there⟩, fun h g e => by have := (World.ownsRow.lt (f1 h g) _ e).2; omega, fun h g e => by have := (World.ownsRow.lt (f3 h g) _ e).2; omega⟩, fun h => nofalse (((f8 h).1 7 (by decide)).symm.trans hl)⟩⟩
    | 8, _ =>
      refine does_skip (by kernel_rfl) (by kernel_rfl) rfl rfl ?_
      intro l v W a hJ hl hp hat hold
      obtain ⟨fb, f0, f1, f2, f3, f4, q5, f5, f6, f7, f8⟩ := hJ
      obtain ⟨B, hB, hF, _⟩ := f7 (hp 7 (by kernel_rfl)) hl
      exact ⟨_, storeRow .u8 32 (kB k len z) B 25 _ _ rfl ((hat 7 8 rfl (hp 7 (by kernel_rfl))).trans (hB)) ((hat 6 21 rfl (hp 6 (by kernel_rfl))).trans (f6 (hp 6 (by kernel_rfl)))) (room_of hF.th) (key_info' _), ⟨below_setAll fb B hF.lo 0 _, f0, fun _ g => nofalse ((hp 3 (by kernel_rfl)).symm.trans g), f2, fun _ g => nofalse ((hp 5 (by kernel_rfl)).symm.trans g), fun _ g => nofalse ((hp 5 (by kernel_rfl)).symm.trans g), q5, fun _ g => nofalse ((hp 6 (by kernel_rfl)).symm.trans g), f6, fun _ g => nofalse g, fun _ => ⟨fun i hi => (match i, hi with | 0, _ => (hp 0 (by kernel_rfl)) | 1, _ => (hp 1 (by kernel_rfl)) | 2, _ => (hp 2 (by kernel_rfl)) | 3, _ => (hp 3 (by kernel_rfl)) | 4, _ => (hp 4 (by kernel_rfl)) | 5, _ => (hp 5 (by kernel_rfl)) | 6, _ => (hp 6 (by kernel_rfl)) | 7, _ => (hp 7 (by kernel_rfl)) | _ + 8, h => by omega), B, hB, Has.all hF.th .u8 _, hF.lo, by rw [size_setAll]; exact hF.hi⟩⟩⟩
    | _ + 9, h => omega
  · intro l v W hJ hl
    obtain ⟨fb, f0, f1, f2, f3, f4, q5, f5, f6, f7, f8⟩ := hJ
    obtain ⟨q8, G, e7, HG, hG1, hG2⟩ := f8 (hl 8 (by decide))
    simp only [putL, Act.put, List.setIfInBounds_toArray, List.set_cons_zero, List.set_cons_succ]
    rw [f0 (hl 0 (by decide)), f2 (hl 2 (by decide)), f6 (hl 6 (by decide)), e7]
    have hzq := K.size
    replace K := K.call fb
    replace K := K.own (Nat.le_trans hzq hG1) hG2 HG
    replace K := K.sub [(G, .u8, 32, kB k len z), (A, .u8, 32, kA k len z)] (fun p hp => by rcases List.mem_cons.1 hp with rfl | hp; exact List.mem_cons_self; obtain rfl := List.mem_singleton.1 hp; exact (List.mem_cons_of_mem _ List.mem_cons_self))
    clear HG hG1 hG2 q8 q5 fb f0 f1 f2 f3 f4 f5 f6 f7 f8 e7
    generalize v 1 = v1
    generalize v 3 = v3
    generalize v 4 = v4
    generalize v 5 = v5
    clear hl v l
    generalize W.heap.size = mm at K
    show Exit.then _ _ _ _ _
    go_upto_region 4 with fail
    refine wp_region_each (fun l v W => Kr w (mm) [(G, .u8, 32, kB k len z), (A, .u8, 32, kA k len z)] [(w.heap.size + 1 + 1, 32), (w.heap.size + 1, 32)] W ∧ (l 0 = true → v 0 = (.agg (row .u8 32 (kA k len z)).toArray)) ∧ (l 1 = true → v 1 = (.agg (row .u8 32 (kB k len z)).toArray)) ∧ (l 2 = true → Has W (w.heap.size + 1) .u8 32 (kA k len z)) ∧ (l 3 = true → Has W (w.heap.size + 1 + 1) .u8 32 (kB k len z))) 4 [some 22, some 23, none, none] (by kernel_rfl) (by kernel_rfl) (by kernel_rfl) (by kernel_rfl) (by kernel_rfl) ?_ ?_ ?_
    · exact ⟨K.drew, fun h => nofalse h.symm, fun h => nofalse h.symm, fun h => nofalse h.symm, fun h => nofalse h.symm⟩
    · intro i hi
      match i, hi with
      | 0, _ =>
        refine does_value (by kernel_rfl) (by kernel_rfl) rfl rfl ?_
        intro l v W a hJ hl hp hat hold
        obtain ⟨fk, f0, f1, f2, f3⟩ := hJ
        exact ⟨_, W, loadRow .u8 32 (kA k len z) A 25 _ _ rfl (hold 7 (by kernel_rfl)) Tryd.underlying25 rfl (key_info _) (fk.get _ _ _ _ (List.mem_cons_of_mem _ List.mem_cons_self)).range, fk, fun _ => rfl, f1, f2, f3⟩
      | 1, _ =>
        refine does_value (by kernel_rfl) (by kernel_rfl) rfl rfl ?_
        intro l v W a hJ hl hp hat hold
        obtain ⟨fk, f0, f1, f2, f3⟩ := hJ
        exact ⟨_, W, loadRow .u8 32 (kB k len z) G 25 _ _ rfl (hold 8 (by kernel_rfl)) Tryd.underlying25 rfl (key_info _) (fk.get _ _ _ _ List.mem_cons_self).range, fk, f0, fun _ => rfl, f2, f3⟩
      | 2, _ =>
        refine does_skip (by kernel_rfl) (by kernel_rfl) rfl rfl ?_
        intro l v W a hJ hl hp hat hold
        obtain ⟨fk, f0, f1, f2, f3⟩ := hJ
        exact ⟨_, storeRow .u8 32 (kA k len z) (w.heap.size + 1) 25 _ _ rfl (hold 4 (by kernel_rfl)) ((hat 0 22 rfl (hp 0 (by kernel_rfl))).trans (f0 (hp 0 (by kernel_rfl)))) (room_of (fk.room _ (List.mem_cons_of_mem _ List.mem_cons_self)).1) (key_info' _), fk.fill _ _ (List.mem_cons_of_mem _ List.mem_cons_self) _, f0, f1, fun _ => Has.all (fk.room _ (List.mem_cons_of_mem _ List.mem_cons_self)).1 .u8 _, fun h => (f3 h).setAll_other _ (by omega) 0 _⟩
      | 3, _ =>
        refine does_skip (by kernel_rfl) (by kernel_rfl) rfl rfl ?_
        intro l v W a hJ hl hp hat hold
        obtain ⟨fk, f0, f1, f2, f3⟩ := hJ
        exact ⟨_, storeRow .u8 32 (kB k len z) (w.heap.size + 1 + 1) 25 _ _ rfl (hold 5 (by kernel_rfl)) ((hat 1 23 rfl (hp 1 (by kernel_rfl))).trans (f1 (hp 1 (by kernel_rfl)))) (room_of (fk.room _ List.mem_cons_self).1) (key_info' _), fk.fill _ _ List.mem_cons_self _, f0, f1, fun h => (f2 h).setAll_other _ (by omega) 0 _, fun _ => Has.all (fk.room _ List.mem_cons_self).1 .u8 _⟩
      | _ + 4, h => omega
    · intro l v W hJ hl
      obtain ⟨fk, f0, f1, f2, f3⟩ := hJ
      simp only [putL, Act.put, List.setIfInBounds_toArray, List.set_cons_zero, List.set_cons_succ]
      rw [f0 (hl 0 (by decide)), f1 (hl 1 (by decide))]
      have hB := fk.below
      have HA := f2 (hl 2 (by decide))
      have HB := f3 (hl 3 (by decide))
      clear fk f0 f1 f2 f3 hl v l
      generalize hAe : kA k len z = fa at *
      generalize hBe : kB k len z = fc at *
      go_wp2
      exact bodyPost_ret (v := .tuple #[(.agg (row .u8 32 (fa)).toArray), (.agg (row .u8 32 (fc)).toArray)]) (results_two Tryd.results15 rfl rfl HA.range HB.range Tryd.underlying25 Tryd.underlying25 rfl rfl (key_info fa) (key_info fc)) rfl ⟨by rw [hAe, hBe], hB⟩
end Go.Proofs.YtcdbkbcfjdpdoaaDoor

namespace Go.Proofs.YtcdbkbcfjdpdoaaDoor
open Go.RowKit

set_option maxRecDepth 10000 in
set_option maxHeartbeats 8000000 in
theorem knamed_any (k : Nat → Int) (hk : In 256 32 k) (s : ByteArray) (hsz : s.size ≤ 1000) (w : World) :
    Calls Tryd.prog 24 #[(.agg (row .u8 32 (k)).toArray), .string s] w fun e w' => e = .returned (.agg (row .u8 32 (kT k s.size (zs s) 1)).toArray) ∧ Below w.heap.size w w' := by
  have K := Kr.init w
  replace K := K.box .u8 32 k 25 (w.heap.size) rfl
  replace K := K.make 32 #[.int .u8 0, .int .u8 0, .int .u8 0, .int .u8 0, .int .u8 0, .int .u8 0, .int .u8 0, .int .u8 0, .int .u8 0, .int .u8 0, .int .u8 0, .int .u8 0, .int .u8 0, .int .u8 0, .int .u8 0, .int .u8 0, .int .u8 0, .int .u8 0, .int .u8 0, .int .u8 0, .int .u8 0, .int .u8 0, .int .u8 0, .int .u8 0, .int .u8 0, .int .u8 0, .int .u8 0, .int .u8 0, .int .u8 0, .int .u8 0, .int .u8 0, .int .u8 0] 25 (w.heap.size + 1) (by simp) (key_zero _ _ _ (by simp)).there
  go_enter Tryd.func24, Tryd.ntmps24
  go_upto_region 1 with fail
  generalize ((w.alloc (.cells (row .u8 32 k).toArray 25)).alloc (.cells #[.int .u8 0, .int .u8 0, .int .u8 0, .int .u8 0, .int .u8 0, .int .u8 0, .int .u8 0, .int .u8 0, .int .u8 0, .int .u8 0, .int .u8 0, .int .u8 0, .int .u8 0, .int .u8 0, .int .u8 0, .int .u8 0, .int .u8 0, .int .u8 0, .int .u8 0, .int .u8 0, .int .u8 0, .int .u8 0, .int .u8 0, .int .u8 0, .int .u8 0, .int .u8 0, .int .u8 0, .int .u8 0, .int .u8 0, .int .u8 0, .int .u8 0, .int .u8 0] 25)) = w0 at K ⊢
  refine wp_region_list ?_
  refine rowKL .u8 32 (k) (w.heap.size) 0 25 _ _ rfl rfl rfl Tryd.underlying25 rfl (key_info _) ((K.get _ _ _ _ List.mem_cons_self).range) ?_
  simp only [Act.put, List.setIfInBounds_toArray, List.set_cons_zero, List.set_cons_succ]
  refine pureL (.string s) rfl (fun _ => by kernel_rfl) ?_
  simp only [Act.put, List.setIfInBounds_toArray, List.set_cons_zero, List.set_cons_succ]
  refine actL (w' := Lib.bytesWorld w0 5 s) (.slice (some ⟨w0.heap.size, 0, none⟩) s.size (grownCap w0 s.size 0 5)) rfl (convStr 9 22 5 _ s rfl rfl Tryd.underlying9 Tryd.underlying22 Tryd.underlying5) ?_
  simp only [Act.put, List.setIfInBounds_toArray, List.set_cons_zero, List.set_cons_succ]
  have hs := bytes_src w0 5 s
  replace K := K.call (bytes_below w0 5 s)
  generalize Lib.bytesWorld w0 5 s = w1 at K hs ⊢
  generalize grownCap w0 s.size 0 5 = sc
  refine callL rfl (fun _ => by kernel_rfl) (krefExpand_any k hk (some ⟨w0.heap.size, 0, none⟩) s.size sc (by omega) (fun e => by cases e) (zs s) (zs_in s _) 32 (by decide) _ hs) ?_
  rintro e w2 ⟨tp, tc, rfl, ⟨_, hsrc⟩, l⟩
  replace K := K.call l
  clear l hs
  refine ⟨_, rfl, ?_⟩
  simp only [Act.put, List.setIfInBounds_toArray, List.set_cons_zero, List.set_cons_succ]
  refine pureL (.tuple #[.slice tp 32 tc, .int .i64 0]) rfl (fun _ => by kernel_rfl) ?_
  simp only [Act.put, List.setIfInBounds_toArray, List.set_cons_zero, List.set_cons_succ]
  refine pureL (.slice tp 32 tc) rfl (fun _ => by kernel_rfl) ?_
  simp only [Act.put, List.setIfInBounds_toArray, List.set_cons_zero, List.set_cons_succ]
  refine pureL (.int .i64 0) rfl (fun _ => by kernel_rfl) ?_
  simp only [Act.put, List.setIfInBounds_toArray, List.set_cons_zero, List.set_cons_succ]
  refine pureL (.slice tp 32 tc) rfl (fun _ => by kernel_rfl) ?_
  simp only [Act.put, List.setIfInBounds_toArray, List.set_cons_zero, List.set_cons_succ]
  refine pureL (.int .i64 0) rfl (fun _ => by kernel_rfl) ?_
  simp only [Act.put, List.setIfInBounds_toArray, List.set_cons_zero, List.set_cons_succ]
  show Exit.then _ _ _ _ _
  replace hsrc : Src w2 tp 32 (kT k s.size (zs s) 1) := hsrc.congr fun j hj => by rw [kex_part k s.size (zs s) 0 j hj, Nat.mul_zero, Nat.zero_add]
  generalize hGe : kT k s.size (zs s) 1 = GG at hsrc
  go_upto_region 2 with fail
  refine wp_region_list ?_
  refine pureL (.agg (row .u8 32 (fun _ => 0)).toArray) rfl (fun _ => by kernel_rfl) ?_
  simp only [Act.put, List.setIfInBounds_toArray, List.set_cons_zero, List.set_cons_succ]
  refine allocL #[.int .u8 0, .int .u8 0, .int .u8 0, .int .u8 0, .int .u8 0, .int .u8 0, .int .u8 0, .int .u8 0, .int .u8 0, .int .u8 0, .int .u8 0, .int .u8 0, .int .u8 0, .int .u8 0, .int .u8 0, .int .u8 0, .int .u8 0, .int .u8 0, .int .u8 0, .int .u8 0, .int .u8 0, .int .u8 0, .int .u8 0, .int .u8 0, .int .u8 0, .int .u8 0, .int .u8 0, .int .u8 0, .int .u8 0, .int .u8 0, .int .u8 0, .int .u8 0] 25 rfl (fun _ => by kernel_rfl) ?_
  simp only [Act.put, List.setIfInBounds_toArray, List.set_cons_zero, List.set_cons_succ]
  refine storesL .u8 32 (fun _ => 0) w2.heap.size 25 _ _ rfl rfl rfl rfl (room_of (key_zero _ _ _ rfl).there) (key_info' _) ?_
  simp only [Act.put]
  have K1 := (Kr.init w2).fresh .u8 32 (fun _ => 0) #[.int .u8 0, .int .u8 0, .int .u8 0, .int .u8 0, .int .u8 0, .int .u8 0, .int .u8 0, .int .u8 0, .int .u8 0, .int .u8 0, .int .u8 0, .int .u8 0, .int .u8 0, .int .u8 0, .int .u8 0, .int .u8 0, .int .u8 0, .int .u8 0, .int .u8 0, .int .u8 0, .int .u8 0, .int .u8 0, .int .u8 0, .int .u8 0, .int .u8 0, .int .u8 0, .int .u8 0, .int .u8 0, .int .u8 0, .int .u8 0, .int .u8 0, .int .u8 0] 25 (key_zero _ _ _ rfl).there
  generalize ((w2.alloc (.cells #[.int .u8 0, .int .u8 0, .int .u8 0, .int .u8 0, .int .u8 0, .int .u8 0, .int .u8 0, .int .u8 0, .int .u8 0, .int .u8 0, .int .u8 0, .int .u8 0, .int .u8 0, .int .u8 0, .int .u8 0, .int .u8 0, .int .u8 0, .int .u8 0, .int .u8 0, .int .u8 0, .int .u8 0, .int .u8 0, .int .u8 0, .int .u8 0, .int .u8 0, .int .u8 0, .int .u8 0, .int .u8 0, .int .u8 0, .int .u8 0, .int .u8 0, .int .u8 0] 25)).setCells w2.heap.size 0 (row .u8 32 (fun _ => 0))) = w3 at K1 ⊢
  show Exit.then _ _ _ _ _
  go_wp2
  go_loopw [8] (fun i w' => ∃ (m : Nat) (f : Nat → Int), m ≤ 32 ∧ i = .int .i64 m ∧ Kr w2 (w2.heap.size + 1) [(w2.heap.size, .u8, 32, f)] [] w' ∧ ∀ j, j < m → f j = GG j) (fun i _ => 32 - (intOf i).toNat)
  case atStart => exact ⟨0, _, by omega, rfl, K1, fun j hj => absurd hj (Nat.not_lt_zero j)⟩
  case round =>
    clear K1
    obtain ⟨m, f, hm, rfl, K1, hf⟩ := hrel
    have g1 : (0 : Int) ≤ (m : Int) := by omega
    by_cases hlt : m < 32
    · have g2 : (m : Int) < 32 := by omega
      obtain ⟨ad, rfl, hc⟩ := (hsrc.below K1.below (Nat.le_refl _)) m hlt
      go_upto_region 6 with fail
      refine wp_region_list ?_
      refine pureL (.int .i64 (m : Int)) rfl (fun _ => by kernel_rfl) ?_
      simp only [Act.put, List.setIfInBounds_toArray, List.set_cons_zero, List.set_cons_succ]
      refine pureL (.slice (some ad) 32 tc) rfl (fun _ => by kernel_rfl) ?_
      simp only [Act.put, List.setIfInBounds_toArray, List.set_cons_zero, List.set_cons_succ]
      refine pureL (.int .i64 (m : Int)) rfl (fun _ => by kernel_rfl) ?_
      simp only [Act.put, List.setIfInBounds_toArray, List.set_cons_zero, List.set_cons_succ]
      refine pureL (.pointer (some (ad.add m))) rfl (fun w => idxSl 22 5 32 tc .i64 ad m _ _ Tryd.underlying22 (fun _ => by kernel_rfl) hlt rfl rfl rfl w) ?_
      simp only [Act.put, List.setIfInBounds_toArray, List.set_cons_zero, List.set_cons_succ]
      refine readL (.int .u8 (GG m)) rfl (loadAny 5 .u8 _ (ad.add m) _ rfl rfl Tryd.underlying5 hc) ?_
      simp only [Act.put, List.setIfInBounds_toArray, List.set_cons_zero, List.set_cons_succ]
      refine pureL (.pointer (some ⟨w2.heap.size, m, none⟩)) rfl (fun w' => bidxK w2.heap.size m hlt w' _ _ rfl rfl rfl) ?_
      simp only [Act.put, List.setIfInBounds_toArray, List.set_cons_zero, List.set_cons_succ]
      refine storeL .u8 (GG m) w2.heap.size m 5 _ _ rfl rfl rfl rfl (by rw [(K1.get _ _ _ _ List.mem_cons_self).cell m hlt]; rfl) ((K1.get _ _ _ _ List.mem_cons_self).free m hlt) (by kernel_rfl) ?_
      simp only [Act.put]
      replace K1 := K1.setCell [] w2.heap.size .u8 32 f m hlt (GG m) List.mem_cons_self (fun _ hp => by cases hp) (fun _ hp => by cases hp) (Nat.le_refl _)
      have HS := show Hid _ from (And.intro K1 (show ∀ j, j < m + 1 → upd f m (GG m) j = GG j from fun j hj => by
        by_cases e : j = m
        · subst e; rw [upd_same]
        · rw [upd_other _ _ _ _ e]; exact hf j (by omega)))
      clear K1 hf hc
      generalize wr.setCell ⟨w2.heap.size, m, none⟩ (.int .u8 (GG m)) = w4 at HS ⊢
      show Exit.inBlock _ _ _ _ _
      go_wp2
      go_roundw
      case rel => first | exact ⟨m + 1, _, by omega, by go_num, HS.out⟩ | ((repeat apply Exists.intro); refine ⟨⟨m + 1, _, by omega, by go_num, HS.out⟩, rfl⟩)
      case measure => simp [intOf]; omega
    · obtain rfl : m = 32 := by omega
      replace K := K.call K1.below
      have HR := (K1.get _ _ _ _ List.mem_cons_self).congr (g := GG) hf
      have hz' := (K.room _ List.mem_cons_self).1
      have hB := (K.fill _ _ List.mem_cons_self (row .u8 32 GG)).below
      clear K K1 hf hlt hm g1 hsrc
      go_wp2_with (first | (refine wpList_load_mid rfl 25 _ rfl (w2.heap.size) 0 rfl (row .u8 32 (GG)) _ (Has.range (HR)) Tryd.underlying25 rfl (key_info _) ?_) | (refine wpList_store_mid rfl 25 _ _ rfl (w.heap.size + 1) 0 (row .u8 32 GG).toArray rfl rfl (room_of hz') (key_info' _) (all_oneCell_toArray (row_one _ _ _)) ?_))
      exact bodyPost_ret (v := (.agg (row .u8 32 (GG)).toArray)) (results_row Tryd.results24 rfl (Has.all hz' .u8 GG).range Tryd.underlying25 rfl (key_info GG)) rfl ⟨by first | rfl | rw [hGe] | (rw [← hGe]; done), hB⟩

set_option maxRecDepth 10000 in
set_option maxHeartbeats 4000000 in
theorem krefLater_any (k : Nat → Int) (hk : In 256 32 k) (w : World) :
    Calls Tryd.prog 19 #[(.agg (row .u8 32 (k)).toArray)] w fun e w' => e = .returned (.agg (row .u8 32 (kT k 12 (zs sLater) 1)).toArray) ∧ Below w.heap.size w w' := by
  have K := Kr.init w
  replace K := K.box .u8 32 k 25 (w.heap.size) rfl
  replace K := K.make 32 #[.int .u8 0, .int .u8 0, .int .u8 0, .int .u8 0, .int .u8 0, .int .u8 0, .int .u8 0, .int .u8 0, .int .u8 0, .int .u8 0, .int .u8 0, .int .u8 0, .int .u8 0, .int .u8 0, .int .u8 0, .int .u8 0, .int .u8 0, .int .u8 0, .int .u8 0, .int .u8 0, .int .u8 0, .int .u8 0, .int .u8 0, .int .u8 0, .int .u8 0, .int .u8 0, .int .u8 0, .int .u8 0, .int .u8 0, .int .u8 0, .int .u8 0, .int .u8 0] 25 (w.heap.size + 1) (by simp) (key_zero _ _ _ (by simp)).there
  go_enter Tryd.func19, Tryd.ntmps19
  go_upto_region 1 with fail
  generalize ((w.alloc (.cells (row .u8 32 k).toArray 25)).alloc (.cells #[.int .u8 0, .int .u8 0, .int .u8 0, .int .u8 0, .int .u8 0, .int .u8 0, .int .u8 0, .int .u8 0, .int .u8 0, .int .u8 0, .int .u8 0, .int .u8 0, .int .u8 0, .int .u8 0, .int .u8 0, .int .u8 0, .int .u8 0, .int .u8 0, .int .u8 0, .int .u8 0, .int .u8 0, .int .u8 0, .int .u8 0, .int .u8 0, .int .u8 0, .int .u8 0, .int .u8 0, .int .u8 0, .int .u8 0, .int .u8 0, .int .u8 0, .int .u8 0] 25)) = w0 at K ⊢
  refine wp_region_list ?_
  refine rowKL .u8 32 (k) (w.heap.size) 0 25 _ _ rfl rfl rfl Tryd.underlying25 rfl (key_info _) ((K.get _ _ _ _ List.mem_cons_self).range) ?_
  simp only [Act.put, List.setIfInBounds_toArray, List.set_cons_zero, List.set_cons_succ]
  refine callL rfl (fun _ => by kernel_rfl) (knamed_any k hk sLater (by decide) _) ?_
  rintro e w1 ⟨rfl, l⟩
  replace K := K.call l
  clear l
  refine ⟨_, rfl, ?_⟩
  rw [show sLater.size = 12 from rfl]
  simp only [Act.put, List.setIfInBounds_toArray, List.set_cons_zero, List.set_cons_succ]
  have hz' := (K.room _ List.mem_cons_self).1
  refine storesL .u8 32 (kT k 12 (zs sLater) 1) (w.heap.size + 1) 25 _ _ rfl rfl rfl rfl (room_of hz') (key_info' _) ?_
  simp only [Act.put]
  have hB := (K.fill _ _ List.mem_cons_self (row .u8 32 (kT k 12 (zs sLater) 1))).below
  clear K
  generalize hGe : kT k 12 (zs sLater) 1 = G at *
  show Exit.then _ _ _ _ _
  go_wp2
  exact bodyPost_ret (v := (.agg (row .u8 32 (G)).toArray)) (results_row Tryd.results19 rfl (Has.all hz' .u8 G).range Tryd.underlying25 rfl (key_info G)) rfl ⟨by first | rfl | rw [hGe] | (rw [← hGe]; done), hB⟩

set_option maxRecDepth 10000 in
set_option maxHeartbeats 4000000 in
theorem krefOf_any (k : Nat → Int) (hk : In 256 32 k) (w : World) :
    Calls Tryd.prog 17 #[(.agg (row .u8 32 (k)).toArray)] w fun e w' => e = .returned (.agg (row .u8 32 (kT k 10 (zs sKey) 1)).toArray) ∧ Below w.heap.size w w' := by
  have K := Kr.init w
  replace K := K.box .u8 32 k 25 (w.heap.size) rfl
  replace K := K.make 32 #[.int .u8 0, .int .u8 0, .int .u8 0, .int .u8 0, .int .u8 0, .int .u8 0, .int .u8 0, .int .u8 0, .int .u8 0, .int .u8 0, .int .u8 0, .int .u8 0, .int .u8 0, .int .u8 0, .int .u8 0, .int .u8 0, .int .u8 0, .int .u8 0, .int .u8 0, .int .u8 0, .int .u8 0, .int .u8 0, .int .u8 0, .int .u8 0, .int .u8 0, .int .u8 0, .int .u8 0, .int .u8 0, .int .u8 0, .int .u8 0, .int .u8 0, .int .u8 0] 25 (w.heap.size + 1) (by simp) (key_zero _ _ _ (by simp)).there
  go_enter Tryd.func17, Tryd.ntmps17
  go_upto_region 1 with fail
  generalize ((w.alloc (.cells (row .u8 32 k).toArray 25)).alloc (.cells #[.int .u8 0, .int .u8 0, .int .u8 0, .int .u8 0, .int .u8 0, .int .u8 0, .int .u8 0, .int .u8 0, .int .u8 0, .int .u8 0, .int .u8 0, .int .u8 0, .int .u8 0, .int .u8 0, .int .u8 0, .int .u8 0, .int .u8 0, .int .u8 0, .int .u8 0, .int .u8 0, .int .u8 0, .int .u8 0, .int .u8 0, .int .u8 0, .int .u8 0, .int .u8 0, .int .u8 0, .int .u8 0, .int .u8 0, .int .u8 0, .int .u8 0, .int .u8 0] 25)) = w0 at K ⊢
  refine wp_region_list ?_
  refine rowKL .u8 32 (k) (w.heap.size) 0 25 _ _ rfl rfl rfl Tryd.underlying25 rfl (key_info _) ((K.get _ _ _ _ List.mem_cons_self).range) ?_
  simp only [Act.put, List.setIfInBounds_toArray, List.set_cons_zero, List.set_cons_succ]
  refine callL rfl (fun _ => by kernel_rfl) (knamed_any k hk sKey (by decide) _) ?_
  rintro e w1 ⟨rfl, l⟩
  replace K := K.call l
  clear l
  refine ⟨_, rfl, ?_⟩
  rw [show sKey.size = 10 from rfl]
  simp only [Act.put, List.setIfInBounds_toArray, List.set_cons_zero, List.set_cons_succ]
  have hz' := (K.room _ List.mem_cons_self).1
  refine storesL .u8 32 (kT k 10 (zs sKey) 1) (w.heap.size + 1) 25 _ _ rfl rfl rfl rfl (room_of hz') (key_info' _) ?_
  simp only [Act.put]
  have hB := (K.fill _ _ List.mem_cons_self (row .u8 32 (kT k 10 (zs sKey) 1))).below
  clear K
  generalize hGe : kT k 10 (zs sKey) 1 = G at *
  show Exit.then _ _ _ _ _
  go_wp2
  exact bodyPost_ret (v := (.agg (row .u8 32 (G)).toArray)) (results_row Tryd.results17 rfl (Has.all hz' .u8 G).range Tryd.underlying25 rfl (key_info G)) rfl ⟨by first | rfl | rw [hGe] | (rw [← hGe]; done), hB⟩
end Go.Proofs.YtcdbkbcfjdpdoaaDoor

namespace Go.Proofs.YtcdbkbcfjdpdoaaDoor
open Go.RowKit

/-- What is hashed for a part. -/
def knx (ll : Nat) (last : Nat → Int) (il : Nat) (inf : Nat → Int) (c : Int) : Nat → Int := app (app last ll inf) (ll + il) (fun _ => c)
theorem knx_in (ll : Nat) (last : Nat → Int) (il : Nat) (inf : Nat → Int) (c : Int) (hl : In 256 ll last) (hi : In 256 il inf) (hc : 0 ≤ c ∧ c < 256) : In 256 (ll + il + 1) (knx ll last il inf c) := app_in _ _ _ _ (app_in _ _ _ _ hl hi) (fun _ _ => hc)
theorem cat3k (ll : Nat) (last : Nat → Int) (il : Nat) (inf : Nat → Int) (c : Int) (j : Nat) : catz (pk3 ll il 1) (pk3 last inf (fun _ => c)) 3 j = knx ll last il inf c j := by
  show app (app (app (fun _ => 0) 0 last) (0 + ll) inf) (0 + ll + il) (fun _ => c) j = _
  unfold knx
  rw [Nat.zero_add]
  have e : app (fun _ => (0 : Int)) 0 last = last := by
    funext q
    unfold app
    rw [if_neg (Nat.not_lt_zero q), Nat.sub_zero]
  rw [e]
set_option maxRecDepth 10000 in
set_option maxHeartbeats 8000000 in
theorem knext_any (k : Nat → Int) (hk : In 256 32 k) (lp : Option Addr) (ll lc : Nat) (hll : ll ≤ 32) (hln : lp = none → lc = 0) (last : Nat → Int) (hla : In 256 ll last) (ip : Option Addr) (il ic : Nat) (hil : il ≤ 140737488351232) (hin : ip = none → ic = 0) (inf : Nat → Int) (hif : In 256 il inf) (c : Int) (hc : 0 ≤ c ∧ c < 256) (w : World) (hg : BGlob w) (hsl : Src w lp ll last) (hsi : Src w ip il inf) :
    Calls Tryd.prog 22 #[(.agg (row .u8 32 (k)).toArray), .slice lp ll lc, .slice ip il ic, .int .u8 c] w fun e w' => e = .returned (.agg (row .u8 32 (bmac 32 k (ll + il + 1) (knx ll last il inf c))).toArray) ∧ Below w.heap.size w w' := by
  have K := Kr.init w
  replace K := K.box .u8 32 k 25 (w.heap.size) rfl
  replace K := K.make 32 #[.int .u8 0, .int .u8 0, .int .u8 0, .int .u8 0, .int .u8 0, .int .u8 0, .int .u8 0, .int .u8 0, .int .u8 0, .int .u8 0, .int .u8 0, .int .u8 0, .int .u8 0, .int .u8 0, .int .u8 0, .int .u8 0, .int .u8 0, .int .u8 0, .int .u8 0, .int .u8 0, .int .u8 0, .int .u8 0, .int .u8 0, .int .u8 0, .int .u8 0, .int .u8 0, .int .u8 0, .int .u8 0, .int .u8 0, .int .u8 0, .int .u8 0, .int .u8 0] 25 (w.heap.size + 1) (by simp) (key_zero _ _ _ (by simp)).there
  go_enter Tryd.func22, Tryd.ntmps22
  go_upto_region 1 with fail
  generalize ((w.alloc (.cells (row .u8 32 k).toArray 25)).alloc (.cells #[.int .u8 0, .int .u8 0, .int .u8 0, .int .u8 0, .int .u8 0, .int .u8 0, .int .u8 0, .int .u8 0, .int .u8 0, .int .u8 0, .int .u8 0, .int .u8 0, .int .u8 0, .int .u8 0, .int .u8 0, .int .u8 0, .int .u8 0, .int .u8 0, .int .u8 0, .int .u8 0, .int .u8 0, .int .u8 0, .int .u8 0, .int .u8 0, .int .u8 0, .int .u8 0, .int .u8 0, .int .u8 0, .int .u8 0, .int .u8 0, .int .u8 0, .int .u8 0] 25)) = w0 at K ⊢
  refine wp_region_held_drew (S := fun w' => Kr w (w.heap.size + 1 + 1) [(w.heap.size, .u8, 32, k)] [(w.heap.size + 1, 32)] w') (by kernel_rfl) K.drew ?_
  clear K
  intro K
  generalize w0.drew = w1 at K ⊢
  refine pureH (i := 0) (some 9) rfl (.slice (some ⟨w.heap.size, 0, none⟩) 32 32) rfl rfl (fun w' => cutAll _ _ _ _ rfl rfl (kcutAll w.heap.size w')) (by kernel_rfl) (by kernel_rfl) (by kernel_rfl) (fun _ _ _ h => h) K ?_
  simp only [Act.put, List.setIfInBounds_toArray, List.set_cons_zero, List.set_cons_succ]
  refine pureH (i := 1) (some 10) rfl (.slice lp ll lc) rfl rfl (fun _ => by kernel_rfl) (by kernel_rfl) (by kernel_rfl) (by kernel_rfl) (fun _ _ _ h => h) K ?_
  simp only [Act.put, List.setIfInBounds_toArray, List.set_cons_zero, List.set_cons_succ]
  refine pureH (i := 2) (some 11) rfl (.slice ip il ic) rfl rfl (fun _ => by kernel_rfl) (by kernel_rfl) (by kernel_rfl) (by kernel_rfl) (fun _ _ _ h => h) K ?_
  simp only [Act.put, List.setIfInBounds_toArray, List.set_cons_zero, List.set_cons_succ]
  refine pureH (i := 3) (some 12) rfl (.int .u8 c) rfl rfl (fun _ => by kernel_rfl) (by kernel_rfl) (by kernel_rfl) (by kernel_rfl) (fun _ _ _ h => h) K ?_
  simp only [Act.put, List.setIfInBounds_toArray, List.set_cons_zero, List.set_cons_succ]
  have H1 := (Has.new w1 .u8 1 (fun _ => c) 5 w1.heap.size rfl).src0
  replace K := K.call ((Below.refl w1.heap.size w1).alloc (Nat.le_refl _) (.cells #[.int .u8 c] 5))
  refine actH (i := 4) (w' := w1.alloc (.cells #[.int .u8 c] 5)) (some 13) rfl (.slice (some ⟨w1.heap.size, 0, none⟩) 1 1) (by kernel_rfl) rfl rfl (by kernel_rfl) K ?_
  simp only [Act.put, List.setIfInBounds_toArray, List.set_cons_zero, List.set_cons_succ]
  have HC := catIn3 (w1.alloc (.cells #[.int .u8 c] 5)).heap.size lp ip (some ⟨w1.heap.size, 0, none⟩) ll il 1 lc ic 1 last inf (fun _ => c) 22 rfl (hsl.below K.below (Nat.le_refl _)) (hsi.below K.below (Nat.le_refl _)) H1 hln hin (fun e => by cases e)
  generalize w1.alloc (.cells #[.int .u8 c] 5) = w2 at K HC ⊢
  clear H1
  replace K := K.call ((Below.refl w2.heap.size w2).alloc (Nat.le_refl _) (.cells #[.slice lp ll lc, .slice ip il ic, .slice (some ⟨w1.heap.size, 0, none⟩) 1 1] 22))
  refine actH (i := 5) (w' := w2.alloc (.cells #[.slice lp ll lc, .slice ip il ic, .slice (some ⟨w1.heap.size, 0, none⟩) 1 1] 22)) (some 14) rfl (.slice (some ⟨w2.heap.size, 0, none⟩) 3 3) (by kernel_rfl) rfl rfl (by kernel_rfl) K ?_
  simp only [Act.put, List.setIfInBounds_toArray, List.set_cons_zero, List.set_cons_succ]
  generalize (w2.alloc (.cells #[.slice lp ll lc, .slice ip il ic, .slice (some ⟨w1.heap.size, 0, none⟩) 1 1] 22)) = w3 at K HC ⊢
  refine callH (i := 6) (some 15) rfl (by kernel_rfl) rfl rfl (fun _ => by kernel_rfl) (concat_any ⟨w2.heap.size, 0, none⟩ 3 3 _ _ _ _ (by decide) (by rw [tot3]; omega) _ HC) ?_
  rintro e w4 ⟨v, rfl, O, l⟩
  replace K := K.call l
  clear l HC
  rw [tot3] at O
  replace O := O.congr (fun j _ => cat3k ll last il inf c j)
  obtain ⟨p3, c3, rfl, hc3, S3⟩ := O.bytes
  have hn3 := O.nilCap
  clear O
  refine ⟨_, rfl, K, ?_⟩
  simp only [Act.put, List.setIfInBounds_toArray, List.set_cons_zero, List.set_cons_succ]
  refine callH (i := 7) (some 16) rfl (by kernel_rfl) rfl rfl (fun _ => by kernel_rfl) (bmac_any (some ⟨w.heap.size, 0, none⟩) 32 32 (by decide) (by decide) (fun e => by cases e) k hk p3 (ll + il + 1) c3 (by omega) hc3 hn3 _ (knx_in ll last il inf c hla hif hc) _ (hg.below K.below hg.size) (K.get _ _ _ _ List.mem_cons_self).src0 S3) ?_
  rintro e w5 ⟨rfl, l⟩
  replace K := K.call l
  clear l S3
  refine ⟨_, rfl, K, ?_⟩
  simp only [Act.put, List.setIfInBounds_toArray, List.set_cons_zero, List.set_cons_succ]
  have hz' := (K.room _ List.mem_cons_self).1
  refine storesH (i := 8) none rfl .u8 32 (bmac 32 k (ll + il + 1) (knx ll last il inf c)) (w.heap.size + 1) 25 _ _ (by kernel_rfl) rfl rfl rfl rfl rfl (room_of hz') (key_info' _) (K.fill _ _ List.mem_cons_self _) ?_
  simp only [Act.put]
  refine wpAnyH_done (by kernel_rfl) ?_ _
  have hB := (K.fill _ _ List.mem_cons_self (row .u8 32 (bmac 32 k (ll + il + 1) (knx ll last il inf c)))).below
  clear K
  generalize hGe : bmac 32 k (ll + il + 1) (knx ll last il inf c) = G at *
  go_wp2
  exact bodyPost_ret (v := (.agg (row .u8 32 (G)).toArray)) (results_row Tryd.results22 rfl (Has.all hz' .u8 G).range Tryd.underlying25 rfl (key_info G)) rfl ⟨by first | rfl | rw [hGe] | (rw [← hGe]; done), hB⟩

set_option maxRecDepth 10000 in
set_option maxHeartbeats 4000000 in
theorem kfirst_any (k : Nat → Int) (hk : In 256 32 k) (s : ByteArray) (hsz : s.size ≤ 1000) (w : World) (hg : BGlob w) :
    Calls Tryd.prog 23 #[(.agg (row .u8 32 (k)).toArray), .string s] w fun e w' => e = .returned (.agg (row .u8 32 (kT k s.size (zs s) 1)).toArray) ∧ Below w.heap.size w w' := by
  have K := Kr.init w
  replace K := K.box .u8 32 k 25 (w.heap.size) rfl
  replace K := K.make 32 #[.int .u8 0, .int .u8 0, .int .u8 0, .int .u8 0, .int .u8 0, .int .u8 0, .int .u8 0, .int .u8 0, .int .u8 0, .int .u8 0, .int .u8 0, .int .u8 0, .int .u8 0, .int .u8 0, .int .u8 0, .int .u8 0, .int .u8 0, .int .u8 0, .int .u8 0, .int .u8 0, .int .u8 0, .int .u8 0, .int .u8 0, .int .u8 0, .int .u8 0, .int .u8 0, .int .u8 0, .int .u8 0, .int .u8 0, .int .u8 0, .int .u8 0, .int .u8 0] 25 (w.heap.size + 1) (by simp) (key_zero _ _ _ (by simp)).there
  go_enter Tryd.func23, Tryd.ntmps23
  go_upto_region 1 with fail
  generalize ((w.alloc (.cells (row .u8 32 k).toArray 25)).alloc (.cells #[.int .u8 0, .int .u8 0, .int .u8 0, .int .u8 0, .int .u8 0, .int .u8 0, .int .u8 0, .int .u8 0, .int .u8 0, .int .u8 0, .int .u8 0, .int .u8 0, .int .u8 0, .int .u8 0, .int .u8 0, .int .u8 0, .int .u8 0, .int .u8 0, .int .u8 0, .int .u8 0, .int .u8 0, .int .u8 0, .int .u8 0, .int .u8 0, .int .u8 0, .int .u8 0, .int .u8 0, .int .u8 0, .int .u8 0, .int .u8 0, .int .u8 0, .int .u8 0] 25)) = w0 at K ⊢
  refine wp_region_list ?_
  refine rowKL .u8 32 (k) (w.heap.size) 0 25 _ _ rfl rfl rfl Tryd.underlying25 rfl (key_info _) ((K.get _ _ _ _ List.mem_cons_self).range) ?_
  simp only [Act.put, List.setIfInBounds_toArray, List.set_cons_zero, List.set_cons_succ]
  refine pureL (.string s) rfl (fun _ => by kernel_rfl) ?_
  simp only [Act.put, List.setIfInBounds_toArray, List.set_cons_zero, List.set_cons_succ]
  refine actL (w' := Lib.bytesWorld w0 5 s) (.slice (some ⟨w0.heap.size, 0, none⟩) s.size (grownCap w0 s.size 0 5)) rfl (convStr 9 22 5 _ s rfl rfl Tryd.underlying9 Tryd.underlying22 Tryd.underlying5) ?_
  simp only [Act.put, List.setIfInBounds_toArray, List.set_cons_zero, List.set_cons_succ]
  have hs := bytes_src w0 5 s
  replace K := K.call (bytes_below w0 5 s)
  generalize Lib.bytesWorld w0 5 s = w1 at K hs ⊢
  generalize grownCap w0 s.size 0 5 = sc
  refine callL rfl (fun _ => by kernel_rfl) (knext_any k hk none 0 0 (by decide) (fun _ => rfl) (fun _ => 0) (fun _ hj => absurd hj (Nat.not_lt_zero _)) (some ⟨w0.heap.size, 0, none⟩) s.size sc (by omega) (fun e => by cases e) (zs s) (zs_in s _) 1 (by decide) _ (hg.below K.below hg.size) (fun j hj => absurd hj (Nat.not_lt_zero j)) hs) ?_
  rintro e w2 ⟨rfl, l⟩
  replace K := K.call l
  clear l hs
  rw [show bmac 32 k (0 + s.size + 1) (knx 0 (fun _ => 0) s.size (zs s) 1) = kT k s.size (zs s) 1 from rfl]
  refine ⟨_, rfl, ?_⟩
  simp only [Act.put, List.setIfInBounds_toArray, List.set_cons_zero, List.set_cons_succ]
  have hz' := (K.room _ List.mem_cons_self).1
  refine storesL .u8 32 (kT k s.size (zs s) 1) (w.heap.size + 1) 25 _ _ rfl rfl rfl rfl (room_of hz') (key_info' _) ?_
  simp only [Act.put]
  have hB := (K.fill _ _ List.mem_cons_self (row .u8 32 (kT k s.size (zs s) 1))).below
  clear K
  generalize hGe : kT k s.size (zs s) 1 = G at *
  show Exit.then _ _ _ _ _
  go_wp2
  exact bodyPost_ret (v := (.agg (row .u8 32 (G)).toArray)) (results_row Tryd.results23 rfl (Has.all hz' .u8 G).range Tryd.underlying25 rfl (key_info G)) rfl ⟨by first | rfl | rw [hGe] | (rw [← hGe]; done), hB⟩

set_option maxRecDepth 10000 in
set_option maxHeartbeats 4000000 in
theorem klater_any (k : Nat → Int) (hk : In 256 32 k) (w : World) (hg : BGlob w) :
    Calls Tryd.prog 18 #[(.agg (row .u8 32 (k)).toArray)] w fun e w' => e = .returned (.agg (row .u8 32 (kT k 12 (zs sLater) 1)).toArray) ∧ Below w.heap.size w w' := by
  have K := Kr.init w
  replace K := K.box .u8 32 k 25 (w.heap.size) rfl
  replace K := K.make 32 #[.int .u8 0, .int .u8 0, .int .u8 0, .int .u8 0, .int .u8 0, .int .u8 0, .int .u8 0, .int .u8 0, .int .u8 0, .int .u8 0, .int .u8 0, .int .u8 0, .int .u8 0, .int .u8 0, .int .u8 0, .int .u8 0, .int .u8 0, .int .u8 0, .int .u8 0, .int .u8 0, .int .u8 0, .int .u8 0, .int .u8 0, .int .u8 0, .int .u8 0, .int .u8 0, .int .u8 0, .int .u8 0, .int .u8 0, .int .u8 0, .int .u8 0, .int .u8 0] 25 (w.heap.size + 1) (by simp) (key_zero _ _ _ (by simp)).there
  go_enter Tryd.func18, Tryd.ntmps18
  go_upto_region 1 with fail
  generalize ((w.alloc (.cells (row .u8 32 k).toArray 25)).alloc (.cells #[.int .u8 0, .int .u8 0, .int .u8 0, .int .u8 0, .int .u8 0, .int .u8 0, .int .u8 0, .int .u8 0, .int .u8 0, .int .u8 0, .int .u8 0, .int .u8 0, .int .u8 0, .int .u8 0, .int .u8 0, .int .u8 0, .int .u8 0, .int .u8 0, .int .u8 0, .int .u8 0, .int .u8 0, .int .u8 0, .int .u8 0, .int .u8 0, .int .u8 0, .int .u8 0, .int .u8 0, .int .u8 0, .int .u8 0, .int .u8 0, .int .u8 0, .int .u8 0] 25)) = w0 at K ⊢
  refine wp_region_list ?_
  refine rowKL .u8 32 (k) (w.heap.size) 0 25 _ _ rfl rfl rfl Tryd.underlying25 rfl (key_info _) ((K.get _ _ _ _ List.mem_cons_self).range) ?_
  simp only [Act.put, List.setIfInBounds_toArray, List.set_cons_zero, List.set_cons_succ]
  refine callL rfl (fun _ => by kernel_rfl) (kfirst_any k hk sLater (by decide) _ (hg.below K.below hg.size)) ?_
  rintro e w1 ⟨rfl, l⟩
  replace K := K.call l
  clear l
  refine ⟨_, rfl, ?_⟩
  rw [show sLater.size = 12 from rfl]
  simp only [Act.put, List.setIfInBounds_toArray, List.set_cons_zero, List.set_cons_succ]
  have hz' := (K.room _ List.mem_cons_self).1
  refine storesL .u8 32 (kT k 12 (zs sLater) 1) (w.heap.size + 1) 25 _ _ rfl rfl rfl rfl (room_of hz') (key_info' _) ?_
  simp only [Act.put]
  have hB := (K.fill _ _ List.mem_cons_self (row .u8 32 (kT k 12 (zs sLater) 1))).below
  clear K
  generalize hGe : kT k 12 (zs sLater) 1 = G at *
  show Exit.then _ _ _ _ _
  go_wp2
  exact bodyPost_ret (v := (.agg (row .u8 32 (G)).toArray)) (results_row Tryd.results18 rfl (Has.all hz' .u8 G).range Tryd.underlying25 rfl (key_info G)) rfl ⟨by first | rfl | rw [hGe] | (rw [← hGe]; done), hB⟩

set_option maxRecDepth 10000 in
set_option maxHeartbeats 4000000 in
theorem kof_any (k : Nat → Int) (hk : In 256 32 k) (w : World) (hg : BGlob w) :
    Calls Tryd.prog 16 #[(.agg (row .u8 32 (k)).toArray)] w fun e w' => e = .returned (.agg (row .u8 32 (kT k 10 (zs sKey) 1)).toArray) ∧ Below w.heap.size w w' := by
  have K := Kr.init w
  replace K := K.box .u8 32 k 25 (w.heap.size) rfl
  replace K := K.make 32 #[.int .u8 0, .int .u8 0, .int .u8 0, .int .u8 0, .int .u8 0, .int .u8 0, .int .u8 0, .int .u8 0, .int .u8 0, .int .u8 0, .int .u8 0, .int .u8 0, .int .u8 0, .int .u8 0, .int .u8 0, .int .u8 0, .int .u8 0, .int .u8 0, .int .u8 0, .int .u8 0, .int .u8 0, .int .u8 0, .int .u8 0, .int .u8 0, .int .u8 0, .int .u8 0, .int .u8 0, .int .u8 0, .int .u8 0, .int .u8 0, .int .u8 0, .int .u8 0] 25 (w.heap.size + 1) (by simp) (key_zero _ _ _ (by simp)).there
  go_enter Tryd.func16, Tryd.ntmps16
  go_upto_region 1 with fail
  generalize ((w.alloc (.cells (row .u8 32 k).toArray 25)).alloc (.cells #[.int .u8 0, .int .u8 0, .int .u8 0, .int .u8 0, .int .u8 0, .int .u8 0, .int .u8 0, .int .u8 0, .int .u8 0, .int .u8 0, .int .u8 0, .int .u8 0, .int .u8 0, .int .u8 0, .int .u8 0, .int .u8 0, .int .u8 0, .int .u8 0, .int .u8 0, .int .u8 0, .int .u8 0, .int .u8 0, .int .u8 0, .int .u8 0, .int .u8 0, .int .u8 0, .int .u8 0, .int .u8 0, .int .u8 0, .int .u8 0, .int .u8 0, .int .u8 0] 25)) = w0 at K ⊢
  refine wp_region_list ?_
  refine rowKL .u8 32 (k) (w.heap.size) 0 25 _ _ rfl rfl rfl Tryd.underlying25 rfl (key_info _) ((K.get _ _ _ _ List.mem_cons_self).range) ?_
  simp only [Act.put, List.setIfInBounds_toArray, List.set_cons_zero, List.set_cons_succ]
  refine callL rfl (fun _ => by kernel_rfl) (kfirst_any k hk sKey (by decide) _ (hg.below K.below hg.size)) ?_
  rintro e w1 ⟨rfl, l⟩
  replace K := K.call l
  clear l
  refine ⟨_, rfl, ?_⟩
  rw [show sKey.size = 10 from rfl]
  simp only [Act.put, List.setIfInBounds_toArray, List.set_cons_zero, List.set_cons_succ]
  have hz' := (K.room _ List.mem_cons_self).1
  refine storesL .u8 32 (kT k 10 (zs sKey) 1) (w.heap.size + 1) 25 _ _ rfl rfl rfl rfl (room_of hz') (key_info' _) ?_
  simp only [Act.put]
  have hB := (K.fill _ _ List.mem_cons_self (row .u8 32 (kT k 10 (zs sKey) 1))).below
  clear K
  generalize hGe : kT k 10 (zs sKey) 1 = G at *
  show Exit.then _ _ _ _ _
  go_wp2
  exact bodyPost_ret (v := (.agg (row .u8 32 (G)).toArray)) (results_row Tryd.results16 rfl (Has.all hz' .u8 G).range Tryd.underlying25 rfl (key_info G)) rfl ⟨by first | rfl | rw [hGe] | (rw [← hGe]; done), hB⟩

set_option maxRecDepth 10000 in
set_option maxHeartbeats 4000000 in
theorem kextract_any (kp : Option Addr) (kl kc : Nat) (hkl : kl ≤ 140737488355072) (hkc : kl ≤ kc) (hkn : kp = none → kc = 0) (key : Nat → Int) (hk : In 256 kl key) (sp : Option Addr) (len cap : Nat) (hlen : len ≤ 140737488354816) (hcap : len ≤ cap) (hn0 : sp = none → cap = 0) (z : Nat → Int) (hz : In 256 len z) (w : World) (hg : BGlob w) (hks : Src w kp kl key) (hs : Src w sp len z) :
    Calls Tryd.prog 10 #[.slice kp kl kc, .slice sp len cap] w fun e w' => e = .returned (.agg (row .u8 32 (bmac kl key len z)).toArray) ∧ Below w.heap.size w w' := by
  have K := Kr.init w
  replace K := K.make 32 #[.int .u8 0, .int .u8 0, .int .u8 0, .int .u8 0, .int .u8 0, .int .u8 0, .int .u8 0, .int .u8 0, .int .u8 0, .int .u8 0, .int .u8 0, .int .u8 0, .int .u8 0, .int .u8 0, .int .u8 0, .int .u8 0, .int .u8 0, .int .u8 0, .int .u8 0, .int .u8 0, .int .u8 0, .int .u8 0, .int .u8 0, .int .u8 0, .int .u8 0, .int .u8 0, .int .u8 0, .int .u8 0, .int .u8 0, .int .u8 0, .int .u8 0, .int .u8 0] 25 (w.heap.size) rfl (key_zero _ _ _ rfl).there
  go_enter Tryd.func10, Tryd.ntmps10
  go_upto_region 1 with fail
  generalize (w.alloc (.cells #[.int .u8 0, .int .u8 0, .int .u8 0, .int .u8 0, .int .u8 0, .int .u8 0, .int .u8 0, .int .u8 0, .int .u8 0, .int .u8 0, .int .u8 0, .int .u8 0, .int .u8 0, .int .u8 0, .int .u8 0, .int .u8 0, .int .u8 0, .int .u8 0, .int .u8 0, .int .u8 0, .int .u8 0, .int .u8 0, .int .u8 0, .int .u8 0, .int .u8 0, .int .u8 0, .int .u8 0, .int .u8 0, .int .u8 0, .int .u8 0, .int .u8 0, .int .u8 0] 25)) = w0 at K ⊢
  refine wp_region_list ?_
  refine pureL (.slice kp kl kc) rfl (fun _ => by kernel_rfl) ?_
  simp only [Act.put, List.setIfInBounds_toArray, List.set_cons_zero, List.set_cons_succ]
  refine pureL (.slice sp len cap) rfl (fun _ => by kernel_rfl) ?_
  simp only [Act.put, List.setIfInBounds_toArray, List.set_cons_zero, List.set_cons_succ]
  refine callL rfl (fun _ => by kernel_rfl) (bmac_any kp kl kc hkl hkc hkn key hk sp len cap hlen hcap hn0 z hz _ (hg.below K.below hg.size) (hks.below K.below (Nat.le_refl _)) (hs.below K.below (Nat.le_refl _))) ?_
  rintro e w1 ⟨rfl, l⟩
  replace K := K.call l
  clear l
  refine ⟨_, rfl, ?_⟩
  simp only [Act.put, List.setIfInBounds_toArray, List.set_cons_zero, List.set_cons_succ]
  have hz' := (K.room _ List.mem_cons_self).1
  refine storesL .u8 32 (bmac kl key len z) (w.heap.size) 25 _ _ rfl rfl rfl rfl (room_of hz') (key_info' _) ?_
  simp only [Act.put]
  have hB := (K.fill _ _ List.mem_cons_self (row .u8 32 (bmac kl key len z))).below
  clear K
  generalize hGe : bmac kl key len z = G at *
  show Exit.then _ _ _ _ _
  go_wp2
  exact bodyPost_ret (v := (.agg (row .u8 32 (G)).toArray)) (results_row Tryd.results10 rfl (Has.all hz' .u8 G).range Tryd.underlying25 rfl (key_info G)) rfl ⟨by first | rfl | rw [hGe] | (rw [← hGe]; done), hB⟩

set_option maxRecDepth 10000 in
set_option maxHeartbeats 8000000 in
theorem kchain_any (k : Nat → Int) (hk : In 256 32 k) (sp : Option Addr) (len cap : Nat) (hlen : len ≤ 140737488351232) (hcap : len ≤ cap) (hn0 : sp = none → cap = 0) (z : Nat → Int) (hz : In 256 len z) (w : World) (hg : BGlob w) (hs : Src w sp len z) :
    Calls Tryd.prog 14 #[(.agg (row .u8 32 (k)).toArray), .slice sp len cap] w fun e w' => e = .returned (.tuple #[(.agg (row .u8 32 (kA k len z)).toArray), (.agg (row .u8 32 (kB k len z)).toArray)]) ∧ Below w.heap.size w w' := by
  have K := Kr.init w
  replace K := K.box .u8 32 k 25 (w.heap.size) rfl
  replace K := K.make 32 #[.int .u8 0, .int .u8 0, .int .u8 0, .int .u8 0, .int .u8 0, .int .u8 0, .int .u8 0, .int .u8 0, .int .u8 0, .int .u8 0, .int .u8 0, .int .u8 0, .int .u8 0, .int .u8 0, .int .u8 0, .int .u8 0, .int .u8 0, .int .u8 0, .int .u8 0, .int .u8 0, .int .u8 0, .int .u8 0, .int .u8 0, .int .u8 0, .int .u8 0, .int .u8 0, .int .u8 0, .int .u8 0, .int .u8 0, .int .u8 0, .int .u8 0, .int .u8 0] 25 (w.heap.size + 1) (by simp) (key_zero _ _ _ (by simp)).there
  replace K := K.make 32 #[.int .u8 0, .int .u8 0, .int .u8 0, .int .u8 0, .int .u8 0, .int .u8 0, .int .u8 0, .int .u8 0, .int .u8 0, .int .u8 0, .int .u8 0, .int .u8 0, .int .u8 0, .int .u8 0, .int .u8 0, .int .u8 0, .int .u8 0, .int .u8 0, .int .u8 0, .int .u8 0, .int .u8 0, .int .u8 0, .int .u8 0, .int .u8 0, .int .u8 0, .int .u8 0, .int .u8 0, .int .u8 0, .int .u8 0, .int .u8 0, .int .u8 0, .int .u8 0] 25 (w.heap.size + 1 + 1) (by simp) (key_zero _ _ _ (by simp)).there
  go_enter Tryd.func14, Tryd.ntmps14
  go_upto_region 1 with fail
  generalize (((w.alloc (.cells (row .u8 32 k).toArray 25)).alloc (.cells #[.int .u8 0, .int .u8 0, .int .u8 0, .int .u8 0, .int .u8 0, .int .u8 0, .int .u8 0, .int .u8 0, .int .u8 0, .int .u8 0, .int .u8 0, .int .u8 0, .int .u8 0, .int .u8 0, .int .u8 0, .int .u8 0, .int .u8 0, .int .u8 0, .int .u8 0, .int .u8 0, .int .u8 0, .int .u8 0, .int .u8 0, .int .u8 0, .int .u8 0, .int .u8 0, .int .u8 0, .int .u8 0, .int .u8 0, .int .u8 0, .int .u8 0, .int .u8 0] 25)).alloc (.cells #[.int .u8 0, .int .u8 0, .int .u8 0, .int .u8 0, .int .u8 0, .int .u8 0, .int .u8 0, .int .u8 0, .int .u8 0, .int .u8 0, .int .u8 0, .int .u8 0, .int .u8 0, .int .u8 0, .int .u8 0, .int .u8 0, .int .u8 0, .int .u8 0, .int .u8 0, .int .u8 0, .int .u8 0, .int .u8 0, .int .u8 0, .int .u8 0, .int .u8 0, .int .u8 0, .int .u8 0, .int .u8 0, .int .u8 0, .int .u8 0, .int .u8 0, .int .u8 0] 25)) = w0 at K ⊢
  refine wp_region_list ?_
  refine pureL (.slice (some ⟨w.heap.size, 0, none⟩) 32 32) rfl (fun w' => cutAll _ _ _ _ rfl rfl (kcutAll w.heap.size w')) ?_
  simp only [Act.put, List.setIfInBounds_toArray, List.set_cons_zero, List.set_cons_succ]
  refine pureL (.slice sp len cap) rfl (fun _ => by kernel_rfl) ?_
  simp only [Act.put, List.setIfInBounds_toArray, List.set_cons_zero, List.set_cons_succ]
  refine callL rfl (fun _ => by kernel_rfl) (kextract_any (some ⟨w.heap.size, 0, none⟩) 32 32 (by decide) (by decide) (fun e => by cases e) k hk sp len cap (by omega) hcap hn0 z hz _ (hg.below K.below hg.size) (K.get _ _ _ _ List.mem_cons_self).src0 (hs.below K.below (Nat.le_refl _))) ?_
  rintro e w1 ⟨rfl, l⟩
  replace K := K.call l
  clear l
  refine ⟨_, rfl, ?_⟩
  simp only [Act.put, List.setIfInBounds_toArray, List.set_cons_zero, List.set_cons_succ]
  refine allocL #[.int .u8 0, .int .u8 0, .int .u8 0, .int .u8 0, .int .u8 0, .int .u8 0, .int .u8 0, .int .u8 0, .int .u8 0, .int .u8 0, .int .u8 0, .int .u8 0, .int .u8 0, .int .u8 0, .int .u8 0, .int .u8 0, .int .u8 0, .int .u8 0, .int .u8 0, .int .u8 0, .int .u8 0, .int .u8 0, .int .u8 0, .int .u8 0, .int .u8 0, .int .u8 0, .int .u8 0, .int .u8 0, .int .u8 0, .int .u8 0, .int .u8 0, .int .u8 0] 25 rfl (fun _ => by kernel_rfl) ?_
  simp only [Act.put, List.setIfInBounds_toArray, List.set_cons_zero, List.set_cons_succ]
  refine storesL .u8 32 ((bmac 32 k len z)) w1.heap.size 25 _ _ rfl rfl rfl rfl (room_of (key_zero _ _ _ rfl).there) (key_info' _) ?_
  simp only [Act.put]
  have zT := K.size
  replace K := K.fresh .u8 32 ((bmac 32 k len z)) #[.int .u8 0, .int .u8 0, .int .u8 0, .int .u8 0, .int .u8 0, .int .u8 0, .int .u8 0, .int .u8 0, .int .u8 0, .int .u8 0, .int .u8 0, .int .u8 0, .int .u8 0, .int .u8 0, .int .u8 0, .int .u8 0, .int .u8 0, .int .u8 0, .int .u8 0, .int .u8 0, .int .u8 0, .int .u8 0, .int .u8 0, .int .u8 0, .int .u8 0, .int .u8 0, .int .u8 0, .int .u8 0, .int .u8 0, .int .u8 0, .int .u8 0, .int .u8 0] 25 (key_zero _ _ _ rfl).there
  generalize ((w1.alloc (.cells #[.int .u8 0, .int .u8 0, .int .u8 0, .int .u8 0, .int .u8 0, .int .u8 0, .int .u8 0, .int .u8 0, .int .u8 0, .int .u8 0, .int .u8 0, .int .u8 0, .int .u8 0, .int .u8 0, .int .u8 0, .int .u8 0, .int .u8 0, .int .u8 0, .int .u8 0, .int .u8 0, .int .u8 0, .int .u8 0, .int .u8 0, .int .u8 0, .int .u8 0, .int .u8 0, .int .u8 0, .int .u8 0, .int .u8 0, .int .u8 0, .int .u8 0, .int .u8 0] 25)).setCells w1.heap.size 0 (row .u8 32 ((bmac 32 k len z)))) = w2 at K ⊢
  generalize w1.heap.size = T at *
  show Exit.then _ _ _ _ _
  go_upto_region 2 with fail
  refine wp_region_list ?_
  refine rowKL .u8 32 ((bmac 32 k len z)) (T) 0 25 _ _ rfl rfl rfl Tryd.underlying25 rfl (key_info _) ((K.get _ _ _ _ List.mem_cons_self).range) ?_
  simp only [Act.put, List.setIfInBounds_toArray, List.set_cons_zero, List.set_cons_succ]
  refine callL rfl (fun _ => by kernel_rfl) (knext_any (bmac 32 k len z) (bmac_in _ _ _ _ _) none 0 0 (by decide) (fun _ => rfl) (fun _ => 0) (fun _ hj => absurd hj (Nat.not_lt_zero _)) none 0 0 (by decide) (fun _ => rfl) (fun _ => 0) (fun _ hj => absurd hj (Nat.not_lt_zero _)) 1 (by decide) _ (hg.below K.below hg.size) (fun j hj => absurd hj (Nat.not_lt_zero j)) (fun j hj => absurd hj (Nat.not_lt_zero j))) ?_
  rintro e w3 ⟨rfl, l⟩
  replace K := K.call l
  clear l
  rw [show bmac 32 (bmac 32 k len z) (0 + 0 + 1) (knx 0 (fun _ => 0) 0 (fun _ => 0) 1) = kA k len z from rfl]
  refine ⟨_, rfl, ?_⟩
  simp only [Act.put, List.setIfInBounds_toArray, List.set_cons_zero, List.set_cons_succ]
  refine allocL #[.int .u8 0, .int .u8 0, .int .u8 0, .int .u8 0, .int .u8 0, .int .u8 0, .int .u8 0, .int .u8 0, .int .u8 0, .int .u8 0, .int .u8 0, .int .u8 0, .int .u8 0, .int .u8 0, .int .u8 0, .int .u8 0, .int .u8 0, .int .u8 0, .int .u8 0, .int .u8 0, .int .u8 0, .int .u8 0, .int .u8 0, .int .u8 0, .int .u8 0, .int .u8 0, .int .u8 0, .int .u8 0, .int .u8 0, .int .u8 0, .int .u8 0, .int .u8 0] 25 rfl (fun _ => by kernel_rfl) ?_
  simp only [Act.put, List.setIfInBounds_toArray, List.set_cons_zero, List.set_cons_succ]
  refine storesL .u8 32 (kA k len z) w3.heap.size 25 _ _ rfl rfl rfl rfl (room_of (key_zero _ _ _ rfl).there) (key_info' _) ?_
  simp only [Act.put]
  have zA := K.size
  replace K := K.fresh .u8 32 (kA k len z) #[.int .u8 0, .int .u8 0, .int .u8 0, .int .u8 0, .int .u8 0, .int .u8 0, .int .u8 0, .int .u8 0, .int .u8 0, .int .u8 0, .int .u8 0, .int .u8 0, .int .u8 0, .int .u8 0, .int .u8 0, .int .u8 0, .int .u8 0, .int .u8 0, .int .u8 0, .int .u8 0, .int .u8 0, .int .u8 0, .int .u8 0, .int .u8 0, .int .u8 0, .int .u8 0, .int .u8 0, .int .u8 0, .int .u8 0, .int .u8 0, .int .u8 0, .int .u8 0] 25 (key_zero _ _ _ rfl).there
  generalize ((w3.alloc (.cells #[.int .u8 0, .int .u8 0, .int .u8 0, .int .u8 0, .int .u8 0, .int .u8 0, .int .u8 0, .int .u8 0, .int .u8 0, .int .u8 0, .int .u8 0, .int .u8 0, .int .u8 0, .int .u8 0, .int .u8 0, .int .u8 0, .int .u8 0, .int .u8 0, .int .u8 0, .int .u8 0, .int .u8 0, .int .u8 0, .int .u8 0, .int .u8 0, .int .u8 0, .int .u8 0, .int .u8 0, .int .u8 0, .int .u8 0, .int .u8 0, .int .u8 0, .int .u8 0] 25)).setCells w3.heap.size 0 (row .u8 32 (kA k len z))) = w4 at K ⊢
  generalize w3.heap.size = A at *
  show Exit.then _ _ _ _ _
  go_upto_region 3 with fail
  refine wp_region_held_drew (S := fun w' => Kr w (A + 1) [(A, .u8, 32, kA k len z), (T, .u8, 32, (bmac 32 k len z)), (w.heap.size, .u8, 32, k)] [(w.heap.size + 1 + 1, 32), (w.heap.size + 1, 32)] w') (by kernel_rfl) K.drew ?_
  clear K
  intro K
  refine rowKH (i := 0) (some 13) rfl .u8 32 (kA k len z) (A) 0 25 _ _ rfl rfl rfl rfl (by kernel_rfl) (by kernel_rfl) (by kernel_rfl) (fun _ _ _ h => h) Tryd.underlying25 rfl (key_info _) K (fun _ h => (h.get _ _ _ _ List.mem_cons_self).range) ?_
  simp only [Act.put, List.setIfInBounds_toArray, List.set_cons_zero, List.set_cons_succ]
  refine rowKH (i := 1) (some 14) rfl .u8 32 ((bmac 32 k len z)) (T) 0 25 _ _ rfl rfl rfl rfl (by kernel_rfl) (by kernel_rfl) (by kernel_rfl) (fun _ _ _ h => h) Tryd.underlying25 rfl (key_info _) K (fun _ h => (h.get _ _ _ _ (List.mem_cons_of_mem _ List.mem_cons_self)).range) ?_
  simp only [Act.put, List.setIfInBounds_toArray, List.set_cons_zero, List.set_cons_succ]
  refine pureH (i := 2) (some 15) rfl (.slice (some ⟨A, 0, none⟩) 32 32) rfl rfl (fun w' => cutAll _ _ _ _ rfl rfl (kcutAll A w')) (by kernel_rfl) (by kernel_rfl) (by kernel_rfl) (fun _ _ _ h => h) K ?_
  simp only [Act.put, List.setIfInBounds_toArray, List.set_cons_zero, List.set_cons_succ]
  refine callH (i := 3) (some 16) rfl (by kernel_rfl) rfl rfl (fun _ => by kernel_rfl) (knext_any (bmac 32 k len z) (bmac_in _ _ _ _ _) (some ⟨A, 0, none⟩) 32 32 (by decide) (fun e => by cases e) (kA k len z) (kT_in _ _ _ _ _) none 0 0 (by decide) (fun _ => rfl) (fun _ => 0) (fun _ hj => absurd hj (Nat.not_lt_zero _)) 2 (by decide) _ (hg.below K.below hg.size) (K.get _ _ _ _ List.mem_cons_self).src0 (fun j hj => absurd hj (Nat.not_lt_zero j))) ?_
  rintro e w5 ⟨rfl, l⟩
  replace K := K.call l
  clear l
  rw [show bmac 32 (bmac 32 k len z) (32 + 0 + 1) (knx 32 (kA k len z) 0 (fun _ => 0) 2) = kB k len z from rfl]
  refine ⟨_, rfl, K, ?_⟩
  simp only [Act.put, List.setIfInBounds_toArray, List.set_cons_zero, List.set_cons_succ]
  have hz1 := (K.room _ (List.mem_cons_of_mem _ List.mem_cons_self)).1
  refine storesH (i := 4) none rfl .u8 32 (kA k len z) (w.heap.size + 1) 25 _ _ (by kernel_rfl) rfl rfl rfl rfl rfl (room_of hz1) (key_info' _) (K.fill _ _ (List.mem_cons_of_mem _ List.mem_cons_self) _) ?_
  simp only [Act.put]
  have HA := Has.all hz1 .u8 (kA k len z)
  replace K := K.fill _ _ (List.mem_cons_of_mem _ List.mem_cons_self) (row .u8 32 (kA k len z))
  generalize w5.setCells (w.heap.size + 1) 0 (row .u8 32 (kA k len z)) = w6 at K HA ⊢
  have hz2 := (K.room _ List.mem_cons_self).1
  refine storesH (i := 5) none rfl .u8 32 (kB k len z) (w.heap.size + 1 + 1) 25 _ _ (by kernel_rfl) rfl rfl rfl rfl rfl (room_of hz2) (key_info' _) (K.fill _ _ List.mem_cons_self _) ?_
  simp only [Act.put]
  refine wpAnyH_done (by kernel_rfl) ?_ _
  replace HA := HA.setAll_other (w.heap.size + 1 + 1) (by omega) 0 (row .u8 32 (kB k len z))
  have HB := Has.all hz2 .u8 (kB k len z)
  have hB := (K.fill _ _ List.mem_cons_self (row .u8 32 (kB k len z))).below
  clear K hz1 hz2
  generalize w6.setCells (w.heap.size + 1 + 1) 0 (row .u8 32 (kB k len z)) = w7 at HA HB hB ⊢
  generalize hAe : kA k len z = fa at *
  generalize hBe : kB k len z = fc at *
  go_wp2
  exact bodyPost_ret (v := .tuple #[(.agg (row .u8 32 (fa)).toArray), (.agg (row .u8 32 (fc)).toArray)]) (results_two Tryd.results14 rfl rfl HA.range HB.range Tryd.underlying25 Tryd.underlying25 rfl rfl (key_info fa) (key_info fc)) rfl ⟨by first | rfl | rw [hAe, hBe] | (rw [← hAe, ← hBe]; done), hB⟩
end Go.Proofs.YtcdbkbcfjdpdoaaDoor

namespace Go.Proofs.YtcdbkbcfjdpdoaaDoor
open Go.RowKit

/-- The bytes of the parts so far, noughts behind them. -/
def kpart (k : Nat → Int) (il : Nat) (inf : Nat → Int) (m : Nat) : Nat → Int := fun j => if j < 32 * m then kex k il inf j else 0
structure KX (w : World) (Y n : Nat) (k : Nat → Int) (il : Nat) (inf : Nat → Int) (m : Nat) (vl : Value) (w' : World) : Prop where
  kr : Kr w (Y + 1) [(Y, .u8, n, kpart k il inf m), (w.heap.size, .u8, 32, k)] [] w'
  last : ∃ ls lc, vl = .slice ls (klen m) lc ∧ (ls = none → lc = 0) ∧ Src w' ls (klen m) (kT k il inf m)
set_option maxRecDepth 10000 in
set_option maxHeartbeats 4000000 in
theorem kexpand_bad (k : Nat → Int) (ip : Option Addr) (il ic : Nat) (n : Int) (hbad : n < 0 ∨ 8160 < n) (w : World) :
    Calls Tryd.prog 12 #[(.agg (row .u8 32 (k)).toArray), .slice ip il ic, .int .i64 n] w fun e w' => e = .returned (.tuple #[.slice none 0 0, .int .i64 1]) ∧ Below w.heap.size w w' := by
  have hB := (Below.refl w.heap.size w).alloc (Nat.le_refl _) (.cells (row .u8 32 k).toArray 25)
  by_cases h1 : n < 0
  · go_enter Tryd.func12, Tryd.ntmps12
    go_wp2
    go_ret2
    exact ⟨rfl, hB⟩
  · have h2 : 8160 < n := by omega
    have h2' : 8161 ≤ n := by omega
    go_enter Tryd.func12, Tryd.ntmps12
    go_wp2
    go_ret2
    exact ⟨rfl, hB⟩
set_option maxRecDepth 10000 in
set_option maxHeartbeats 16000000 in
theorem kexpand_any (k : Nat → Int) (hk : In 256 32 k) (ip : Option Addr) (il ic : Nat) (hil : il ≤ 140737488351232) (hin : ip = none → ic = 0) (inf : Nat → Int) (hif : In 256 il inf) (n : Nat) (hn : n ≤ 8160) (w : World) (hg : BGlob w) (hs : Src w ip il inf) :
    Calls Tryd.prog 12 #[(.agg (row .u8 32 (k)).toArray), .slice ip il ic, .int .i64 (n : Int)] w fun e w' => ∃ sp cap, e = .returned (.tuple #[.slice sp n cap, .int .i64 0]) ∧ (n ≤ cap ∧ Src w' sp n (kex k il inf)) ∧ Below w.heap.size w w' := by
  have h1 : ¬ (n : Int) < 0 := by omega
  have h2 : ¬ 8160 < (n : Int) := by omega
  have h2' : ¬ 8161 ≤ (n : Int) := by omega
  have K := Kr.init w
  replace K := K.box .u8 32 k 25 (w.heap.size) rfl
  go_enter Tryd.func12, Tryd.ntmps12
  go_upto_region 3 with fail
  clear h1 h2 h2'
  generalize (w.alloc (.cells (row .u8 32 k).toArray 25)) = w0 at K ⊢
  have hYw := K.size
  refine wp_region_list ?_
  refine pureL (.int .i64 (n : Int)) rfl (fun _ => by kernel_rfl) ?_
  simp only [Act.put, List.setIfInBounds_toArray, List.set_cons_zero, List.set_cons_succ]
  refine actL (w' := w0.alloc (.cells (row .u8 n (fun _ => 0)).toArray 5)) (.slice (some ⟨w0.heap.size, 0, none⟩) n n) rfl (makeOp 22 _ _ _ _ _ rfl rfl rfl (made8 n (by omega) w0)) ?_
  simp only [Act.put, List.setIfInBounds_toArray, List.set_cons_zero, List.set_cons_succ]
  refine pureL (.slice (some ⟨w0.heap.size, 0, none⟩) n n) rfl (fun _ => by kernel_rfl) ?_
  simp only [Act.put, List.setIfInBounds_toArray, List.set_cons_zero, List.set_cons_succ]
  replace K := K.box .u8 n (fun _ => 0) 5 w0.heap.size rfl
  generalize w0.alloc (.cells (row .u8 n (fun _ => 0)).toArray 5) = w1 at K ⊢
  generalize w0.heap.size = Y at *
  have HX : KX w Y n k il inf 0 (.slice none 0 0) w1 := ⟨K, none, 0, rfl, fun _ => rfl, fun j hj => absurd hj (Nat.not_lt_zero j)⟩
  clear K
  show Exit.then _ _ _ _ _
  go_upto_region 4 with fail
  refine wp_region_list ?_
  refine pureL (.slice none 0 0) rfl (fun _ => by kernel_rfl) ?_
  simp only [Act.put, List.setIfInBounds_toArray, List.set_cons_zero, List.set_cons_succ]
  show Exit.then _ _ _ _ _
  go_upto_region 5 with fail
  refine wp_region_list ?_
  refine pureL (.int .i64 (n : Int)) rfl (fun _ => by kernel_rfl) ?_
  simp only [Act.put, List.setIfInBounds_toArray, List.set_cons_zero, List.set_cons_succ]
  refine pureL (.int .i64 ((n + 32 : Nat) : Int)) rfl (fun w => addI .i64 _ _ _ _ _ _ _ rfl rfl rfl (by rw [IntKind.wrap_i64]; omega) w) ?_
  simp only [Act.put, List.setIfInBounds_toArray, List.set_cons_zero, List.set_cons_succ]
  refine pureL (.int .i64 ((n + 31 : Nat) : Int)) rfl (fun w => subI .i64 _ _ _ _ _ _ _ rfl rfl rfl (by rw [IntKind.wrap_i64]; omega) w) ?_
  simp only [Act.put, List.setIfInBounds_toArray, List.set_cons_zero, List.set_cons_succ]
  refine pureL (.int .i64 ((((n + 31) / 32) : Nat) : Int)) rfl (fun w => quoI .i64 _ _ _ _ _ _ _ rfl rfl rfl (by decide) (by rw [IntKind.wrap_i64, Int.tdiv_eq_ediv_of_nonneg (by omega)]; omega) w) ?_
  simp only [Act.put, List.setIfInBounds_toArray, List.set_cons_zero, List.set_cons_succ]
  refine pureL (.int .i64 0) rfl (fun _ => by kernel_rfl) ?_
  simp only [Act.put, List.setIfInBounds_toArray, List.set_cons_zero, List.set_cons_succ]
  generalize hvl : (Value.slice none 0 0) = vl at HX
  show Exit.then _ _ _ _ _
  generalize hNe : ((n + 31) / 32) = N
  have hN1 : 32 * N < n + 32 := by omega
  have hN2 : n ≤ 32 * N := by omega
  clear hNe
  subst hvl
  go_wp2
  go_loopw [9, 24] (fun lw iw w' => ∃ (m : Nat) (vl : Value), m ≤ N ∧ vl = lw ∧ iw = .int .i64 (m : Int) ∧ KX w Y n k il inf m vl w') (fun _ iw _ => N - (intOf iw).toNat)
  case atStart => exact ⟨0, _, Nat.zero_le _, rfl, rfl, HX⟩
  case round =>
    clear HX
    obtain ⟨m, vl, hm, rfl, rfl, HX⟩ := hrel
    obtain ⟨ls, lc, rfl, hln, hls⟩ := HX.last
    by_cases hlt : m < N
    · have g1 : (m : Int) < (N : Int) := by omega
      go_upto_region 8 with fail
      refine wp_region_list ?_
      refine rowKL .u8 32 (k) (w.heap.size) 0 25 _ _ rfl rfl rfl Tryd.underlying25 rfl (key_info _) ((HX.kr.get _ _ _ _ (List.mem_cons_of_mem _ List.mem_cons_self)).range) ?_
      simp only [Act.put, List.setIfInBounds_toArray, List.set_cons_zero, List.set_cons_succ]
      refine pureL (.slice ls (klen m) lc) rfl (fun _ => by kernel_rfl) ?_
      simp only [Act.put, List.setIfInBounds_toArray, List.set_cons_zero, List.set_cons_succ]
      refine pureL (.slice ip il ic) rfl (fun _ => by kernel_rfl) ?_
      simp only [Act.put, List.setIfInBounds_toArray, List.set_cons_zero, List.set_cons_succ]
      refine pureL (.int .i64 (m : Int)) rfl (fun _ => by kernel_rfl) ?_
      simp only [Act.put, List.setIfInBounds_toArray, List.set_cons_zero, List.set_cons_succ]
      refine pureL (.int .i64 ((m + 1 : Nat) : Int)) rfl (fun w => addI .i64 _ _ _ _ _ _ _ rfl rfl rfl (by rw [IntKind.wrap_i64]; omega) w) ?_
      simp only [Act.put, List.setIfInBounds_toArray, List.set_cons_zero, List.set_cons_succ]
      refine pureL (.int .u8 ((m + 1 : Nat) : Int)) rfl (fun w => convI .i64 .u8 _ _ _ _ _ rfl (by kernel_rfl) Tryd.underlying5 (by kernel_rfl) rfl (by rw [IntKind.wrap_u8]; omega) w) ?_
      simp only [Act.put, List.setIfInBounds_toArray, List.set_cons_zero, List.set_cons_succ]
      refine callL rfl (fun _ => by kernel_rfl) (knext_any k hk ls (klen m) lc (klen_le m) hln (kT k il inf m) (kT_in k il inf _ m) ip il ic hil hin inf hif ((m + 1 : Nat) : Int) (by omega) _ (hg.below HX.kr.below hg.size) hls (hs.below HX.kr.below (Nat.le_refl _))) ?_
      rintro e w2 ⟨rfl, l⟩
      have K := HX.kr.call l
      clear l HX hls
      rw [show bmac 32 k (klen m + il + 1) (knx (klen m) (kT k il inf m) il inf ((m + 1 : Nat) : Int)) = kT k il inf (m + 1) from rfl]
      refine ⟨_, rfl, ?_⟩
      simp only [Act.put, List.setIfInBounds_toArray, List.set_cons_zero, List.set_cons_succ]
      refine allocL #[.int .u8 0, .int .u8 0, .int .u8 0, .int .u8 0, .int .u8 0, .int .u8 0, .int .u8 0, .int .u8 0, .int .u8 0, .int .u8 0, .int .u8 0, .int .u8 0, .int .u8 0, .int .u8 0, .int .u8 0, .int .u8 0, .int .u8 0, .int .u8 0, .int .u8 0, .int .u8 0, .int .u8 0, .int .u8 0, .int .u8 0, .int .u8 0, .int .u8 0, .int .u8 0, .int .u8 0, .int .u8 0, .int .u8 0, .int .u8 0, .int .u8 0, .int .u8 0] 25 rfl (fun _ => by kernel_rfl) ?_
      simp only [Act.put, List.setIfInBounds_toArray, List.set_cons_zero, List.set_cons_succ]
      refine storesL .u8 32 (kT k il inf (m + 1)) w2.heap.size 25 _ _ rfl rfl rfl rfl (room_of (key_zero _ _ _ rfl).there) (key_info' _) ?_
      simp only [Act.put]
      have zT := K.size
      replace K := K.fresh .u8 32 (kT k il inf (m + 1)) #[.int .u8 0, .int .u8 0, .int .u8 0, .int .u8 0, .int .u8 0, .int .u8 0, .int .u8 0, .int .u8 0, .int .u8 0, .int .u8 0, .int .u8 0, .int .u8 0, .int .u8 0, .int .u8 0, .int .u8 0, .int .u8 0, .int .u8 0, .int .u8 0, .int .u8 0, .int .u8 0, .int .u8 0, .int .u8 0, .int .u8 0, .int .u8 0, .int .u8 0, .int .u8 0, .int .u8 0, .int .u8 0, .int .u8 0, .int .u8 0, .int .u8 0, .int .u8 0] 25 (key_zero _ _ _ rfl).there
      generalize ((w2.alloc (.cells #[.int .u8 0, .int .u8 0, .int .u8 0, .int .u8 0, .int .u8 0, .int .u8 0, .int .u8 0, .int .u8 0, .int .u8 0, .int .u8 0, .int .u8 0, .int .u8 0, .int .u8 0, .int .u8 0, .int .u8 0, .int .u8 0, .int .u8 0, .int .u8 0, .int .u8 0, .int .u8 0, .int .u8 0, .int .u8 0, .int .u8 0, .int .u8 0, .int .u8 0, .int .u8 0, .int .u8 0, .int .u8 0, .int .u8 0, .int .u8 0, .int .u8 0, .int .u8 0] 25)).setCells w2.heap.size 0 (row .u8 32 (kT k il inf (m + 1)))) = w3 at K ⊢
      generalize w2.heap.size = T at *
      show Exit.then _ _ _ _ _
      go_upto_region 9 with fail
      refine wp_region_held_drew (S := fun _ => True) (by kernel_rfl) trivial ?_
      intro _
      replace K := K.drew
      generalize w3.drew = w4 at K ⊢
      refine pureH (i := 0) (some 34) rfl (.slice (some ⟨Y, 0, none⟩) n n) rfl rfl (fun _ => by kernel_rfl) (by kernel_rfl) (by kernel_rfl) (by kernel_rfl) (fun _ _ _ h => h) trivial ?_
      simp only [Act.put, List.setIfInBounds_toArray, List.set_cons_zero, List.set_cons_succ]
      refine pureH (i := 1) (some 35) rfl (.int .i64 (m : Int)) rfl rfl (fun _ => by kernel_rfl) (by kernel_rfl) (by kernel_rfl) (by kernel_rfl) (fun _ _ _ h => h) trivial ?_
      simp only [Act.put, List.setIfInBounds_toArray, List.set_cons_zero, List.set_cons_succ]
      refine pureH (i := 2) (some 36) rfl (.int .i64 ((32 * m : Nat) : Int)) rfl rfl (fun w => mulI .i64 _ _ _ _ _ _ _ rfl rfl rfl (by rw [IntKind.wrap_i64]; omega) w) (by kernel_rfl) (by kernel_rfl) (by kernel_rfl) (fun _ _ _ h => h) trivial ?_
      simp only [Act.put, List.setIfInBounds_toArray, List.set_cons_zero, List.set_cons_succ]
      refine pureH (i := 3) (some 37) rfl (.slice (some ⟨Y, 32 * m, none⟩) (n - 32 * m) (n - 32 * m)) rfl rfl (fun w' => cutOp _ _ _ _ _ _ rfl rfl rfl (kcutLo Y n (32 * m) (by omega) w')) (by kernel_rfl) (by kernel_rfl) (by kernel_rfl) (fun _ _ _ h => h) trivial ?_
      simp only [Act.put, List.setIfInBounds_toArray, List.set_cons_zero, List.set_cons_succ]
      refine pureH (i := 4) (some 38) rfl (.slice (some ⟨T, 0, none⟩) 32 32) rfl rfl (fun w' => cutAll _ _ _ _ rfl rfl (kcutAll T w')) (by kernel_rfl) (by kernel_rfl) (by kernel_rfl) (fun _ _ _ h => h) trivial ?_
      simp only [Act.put, List.setIfInBounds_toArray, List.set_cons_zero, List.set_cons_succ]
      refine actH (i := 5) (some 39) rfl (.int .i64 (((min 32 (n - 32 * m)) : Nat) : Int)) (by kernel_rfl) rfl rfl (run_copy_win _ _ 22 22 5 rfl Tryd.underlying22 (by kernel_rfl) Y (32 * m) (n - 32 * m) (n - 32 * m) 32 32 (min 32 (n - 32 * m)) n _ (kT k il inf (m + 1)) ⟨T, 0, none⟩ rfl rfl rfl (K.get _ _ _ _ (List.mem_cons_of_mem _ List.mem_cons_self)) (by omega) (fun j hj => (K.get _ _ _ _ List.mem_cons_self).src0 j (by omega))) trivial ?_
      simp only [Act.put, List.setIfInBounds_toArray, List.set_cons_zero, List.set_cons_succ]
      refine wpAnyH_done (by kernel_rfl) ?_ _
      have HT := (K.get _ _ _ _ List.mem_cons_self).setAll_other Y (by omega) (32 * m) (row .u8 (min 32 (n - 32 * m)) (kT k il inf (m + 1)))
      replace K := (K.part [(w.heap.size, .u8, 32, k)] Y .u8 n (kpart k il inf m) (32 * m) (min 32 (n - 32 * m)) (by omega) (kT k il inf (m + 1)) (List.mem_cons_of_mem _ List.mem_cons_self) (fun p hp => by obtain rfl := List.mem_singleton.1 hp; exact (List.mem_cons_of_mem _ (List.mem_cons_of_mem _ List.mem_cons_self))) (fun p hp => by obtain rfl := List.mem_singleton.1 hp; simp only; omega) (by omega)).headC (kpart k il inf (m + 1)) (fun j hj => by
        unfold over kpart
        by_cases e : j < 32 * m
        · rw [if_neg (by omega), if_pos e, if_pos (by omega)]
        · by_cases e2 : j < 32 * (m + 1)
          · rw [if_pos (by omega), if_pos e2, kex_part k il inf m _ (by omega), show 32 * m + (j - 32 * m) = j by omega]
          · rw [if_neg (by omega), if_neg e, if_neg e2])
      generalize w4.setCells Y (32 * m) (row .u8 (min 32 (n - 32 * m)) (kT k il inf (m + 1))) = w5 at K HT ⊢
      replace K := K.back [(Y, .u8, n, kpart k il inf (m + 1)), (w.heap.size, .u8, 32, k)] (Y + 1) (fun p hp => by rcases List.mem_cons.1 hp with rfl | hp; exact List.mem_cons_self; obtain rfl := List.mem_singleton.1 hp; exact (List.mem_cons_of_mem _ List.mem_cons_self)) (fun p hp => by rcases List.mem_cons.1 hp with rfl | hp; simp only; omega; obtain rfl := List.mem_singleton.1 hp; simp only; omega) (fun _ h => by cases h) (by omega) (by omega)
      have HS := show Hid _ from (show KX w Y n k il inf (m + 1) (.slice (some ⟨T, 0, none⟩) 32 32) w5 from ⟨K, _, _, rfl, fun e => (by cases e), HT.src0⟩)
      clear K HT
      show Exit.then _ _ _ _ _
      go_upto_region 10 with fail
      refine wp_region_list ?_
      refine pureL (.slice (some ⟨T, 0, none⟩) 32 32) rfl (fun w' => cutAll _ _ _ _ rfl rfl (kcutAll T w')) ?_
      simp only [Act.put, List.setIfInBounds_toArray, List.set_cons_zero, List.set_cons_succ]
      refine pureL (.slice (some ⟨T, 0, none⟩) 32 32) rfl (fun _ => by kernel_rfl) ?_
      simp only [Act.put, List.setIfInBounds_toArray, List.set_cons_zero, List.set_cons_succ]
      show Exit.inBlock _ _ _ _ _
      go_wp2
      go_roundw
      case rel => first | exact ⟨m + 1, _, by omega, rfl, by go_num, HS.out⟩ | ((repeat apply Exists.intro); refine ⟨⟨m + 1, _, by omega, rfl, by go_num, HS.out⟩, rfl⟩)
      case measure => simp [intOf]; omega
    · obtain rfl : m = N := by omega
      have hS : Src wr (some ⟨Y, 0, none⟩) n (kex k il inf) := (HX.kr.get _ _ _ _ List.mem_cons_self).src0.congr fun j hj => by unfold kpart; rw [if_pos (by omega)]
      have hB := HX.kr.below
      clear HX hls hlt hm
      go_upto_region 12 with fail
      refine wp_region_list ?_
      refine pureL (.slice (some ⟨Y, 0, none⟩) n n) rfl (fun _ => by kernel_rfl) ?_
      simp only [Act.put, List.setIfInBounds_toArray, List.set_cons_zero, List.set_cons_succ]
      refine pureL (.slice (some ⟨Y, 0, none⟩) n n) rfl (fun _ => by kernel_rfl) ?_
      simp only [Act.put, List.setIfInBounds_toArray, List.set_cons_zero, List.set_cons_succ]
      refine pureL (.int .i64 0) rfl (fun _ => by kernel_rfl) ?_
      simp only [Act.put, List.setIfInBounds_toArray, List.set_cons_zero, List.set_cons_succ]
      show Exit.then _ _ _ _ _
      go_wp2
      go_ret2
      exact ⟨_, _, rfl, ⟨Nat.le_refl _, hS⟩, hB⟩
end Go.Proofs.YtcdbkbcfjdpdoaaDoor

namespace Go.Proofs.YtcdbkbcfjdpdoaaDoor
open Go.RowKit

set_option maxRecDepth 10000 in
set_option maxHeartbeats 8000000 in
theorem kshown_any (w : World) (hg : BGlob w) :
    Calls Tryd.prog 9 #[] w fun e w' => e = .returned (.bool true) ∧ Below w.heap.size w w' := by
  have K := Kr.init w
  go_enter Tryd.func9, Tryd.ntmps9
  go_upto_region 1 with fail
  refine wp_region_list ?_
  refine pureL (.agg (row .u8 32 z0).toArray) rfl (fun _ => by kernel_rfl) ?_
  simp only [Act.put, List.setIfInBounds_toArray, List.set_cons_zero, List.set_cons_succ]
  refine callL rfl (fun _ => by kernel_rfl) (kexpand_bad z0 none 0 0 (-1) (.inl (by decide)) _) ?_
  rintro e w1 ⟨rfl, l⟩
  replace K := K.call l
  clear l
  refine ⟨_, rfl, ?_⟩
  simp only [Act.put, List.setIfInBounds_toArray, List.set_cons_zero, List.set_cons_succ]
  refine pureL (.tuple #[.slice none 0 0, .int .i64 1]) rfl (fun _ => by kernel_rfl) ?_
  simp only [Act.put, List.setIfInBounds_toArray, List.set_cons_zero, List.set_cons_succ]
  refine pureL (.slice none 0 0) rfl (fun _ => by kernel_rfl) ?_
  simp only [Act.put, List.setIfInBounds_toArray, List.set_cons_zero, List.set_cons_succ]
  refine pureL (.int .i64 1) rfl (fun _ => by kernel_rfl) ?_
  simp only [Act.put, List.setIfInBounds_toArray, List.set_cons_zero, List.set_cons_succ]
  refine pureL (.slice none 0 0) rfl (fun _ => by kernel_rfl) ?_
  simp only [Act.put, List.setIfInBounds_toArray, List.set_cons_zero, List.set_cons_succ]
  refine pureL (.int .i64 1) rfl (fun _ => by kernel_rfl) ?_
  simp only [Act.put, List.setIfInBounds_toArray, List.set_cons_zero, List.set_cons_succ]
  show Exit.then _ _ _ _ _
  go_upto_region 2 with fail
  refine wp_region_list ?_
  refine pureL (.agg (row .u8 32 z0).toArray) rfl (fun _ => by kernel_rfl) ?_
  simp only [Act.put, List.setIfInBounds_toArray, List.set_cons_zero, List.set_cons_succ]
  refine callL rfl (fun _ => by kernel_rfl) (kexpand_bad z0 none 0 0 8161 (.inr (by decide)) _) ?_
  rintro e w2 ⟨rfl, l⟩
  replace K := K.call l
  clear l
  refine ⟨_, rfl, ?_⟩
  simp only [Act.put, List.setIfInBounds_toArray, List.set_cons_zero, List.set_cons_succ]
  refine pureL (.tuple #[.slice none 0 0, .int .i64 1]) rfl (fun _ => by kernel_rfl) ?_
  simp only [Act.put, List.setIfInBounds_toArray, List.set_cons_zero, List.set_cons_succ]
  refine pureL (.slice none 0 0) rfl (fun _ => by kernel_rfl) ?_
  simp only [Act.put, List.setIfInBounds_toArray, List.set_cons_zero, List.set_cons_succ]
  refine pureL (.int .i64 1) rfl (fun _ => by kernel_rfl) ?_
  simp only [Act.put, List.setIfInBounds_toArray, List.set_cons_zero, List.set_cons_succ]
  refine pureL (.slice none 0 0) rfl (fun _ => by kernel_rfl) ?_
  simp only [Act.put, List.setIfInBounds_toArray, List.set_cons_zero, List.set_cons_succ]
  refine pureL (.int .i64 1) rfl (fun _ => by kernel_rfl) ?_
  simp only [Act.put, List.setIfInBounds_toArray, List.set_cons_zero, List.set_cons_succ]
  show Exit.then _ _ _ _ _
  go_upto_region 3 with fail
  refine wp_region_list ?_
  refine pureL (.agg (row .u8 32 z0).toArray) rfl (fun _ => by kernel_rfl) ?_
  simp only [Act.put, List.setIfInBounds_toArray, List.set_cons_zero, List.set_cons_succ]
  refine callL rfl (fun _ => by kernel_rfl) (kexpand_any z0 (z0_in 32) none 0 0 (by decide) (fun _ => rfl) z0 (z0_in 0) 0 (by decide) _ (hg.below K.below hg.size) (fun j hj => absurd hj (Nat.not_lt_zero j))) ?_
  rintro e w3 ⟨s3, c3, rfl, _, l⟩
  replace K := K.call l
  clear l
  refine ⟨_, rfl, ?_⟩
  simp only [Act.put, List.setIfInBounds_toArray, List.set_cons_zero, List.set_cons_succ]
  refine pureL (.tuple #[.slice s3 0 c3, .int .i64 0]) rfl (fun _ => by kernel_rfl) ?_
  simp only [Act.put, List.setIfInBounds_toArray, List.set_cons_zero, List.set_cons_succ]
  refine pureL (.slice s3 0 c3) rfl (fun _ => by kernel_rfl) ?_
  simp only [Act.put, List.setIfInBounds_toArray, List.set_cons_zero, List.set_cons_succ]
  refine pureL (.int .i64 0) rfl (fun _ => by kernel_rfl) ?_
  simp only [Act.put, List.setIfInBounds_toArray, List.set_cons_zero, List.set_cons_succ]
  refine pureL (.slice s3 0 c3) rfl (fun _ => by kernel_rfl) ?_
  simp only [Act.put, List.setIfInBounds_toArray, List.set_cons_zero, List.set_cons_succ]
  refine pureL (.int .i64 0) rfl (fun _ => by kernel_rfl) ?_
  simp only [Act.put, List.setIfInBounds_toArray, List.set_cons_zero, List.set_cons_succ]
  show Exit.then _ _ _ _ _
  go_upto_region 4 with fail
  refine wp_region_list ?_
  refine pureL (.agg (row .u8 32 z0).toArray) rfl (fun _ => by kernel_rfl) ?_
  simp only [Act.put, List.setIfInBounds_toArray, List.set_cons_zero, List.set_cons_succ]
  refine callL rfl (fun _ => by kernel_rfl) (klater_any z0 (z0_in 32) _ (hg.below K.below hg.size)) ?_
  rintro e w4 ⟨rfl, l⟩
  replace K := K.call l
  clear l
  refine ⟨_, rfl, ?_⟩
  simp only [Act.put, List.setIfInBounds_toArray, List.set_cons_zero, List.set_cons_succ]
  refine allocL #[.int .u8 0, .int .u8 0, .int .u8 0, .int .u8 0, .int .u8 0, .int .u8 0, .int .u8 0, .int .u8 0, .int .u8 0, .int .u8 0, .int .u8 0, .int .u8 0, .int .u8 0, .int .u8 0, .int .u8 0, .int .u8 0, .int .u8 0, .int .u8 0, .int .u8 0, .int .u8 0, .int .u8 0, .int .u8 0, .int .u8 0, .int .u8 0, .int .u8 0, .int .u8 0, .int .u8 0, .int .u8 0, .int .u8 0, .int .u8 0, .int .u8 0, .int .u8 0] 25 rfl (fun _ => by kernel_rfl) ?_
  simp only [Act.put, List.setIfInBounds_toArray, List.set_cons_zero, List.set_cons_succ]
  refine storesL .u8 32 (kT z0 12 (zs sLater) 1) w4.heap.size 25 _ _ rfl rfl rfl rfl (room_of (key_zero _ _ _ rfl).there) (key_info' _) ?_
  simp only [Act.put]
  have zX := K.size
  replace K := K.fresh .u8 32 (kT z0 12 (zs sLater) 1) #[.int .u8 0, .int .u8 0, .int .u8 0, .int .u8 0, .int .u8 0, .int .u8 0, .int .u8 0, .int .u8 0, .int .u8 0, .int .u8 0, .int .u8 0, .int .u8 0, .int .u8 0, .int .u8 0, .int .u8 0, .int .u8 0, .int .u8 0, .int .u8 0, .int .u8 0, .int .u8 0, .int .u8 0, .int .u8 0, .int .u8 0, .int .u8 0, .int .u8 0, .int .u8 0, .int .u8 0, .int .u8 0, .int .u8 0, .int .u8 0, .int .u8 0, .int .u8 0] 25 (key_zero _ _ _ rfl).there
  generalize ((w4.alloc (.cells #[.int .u8 0, .int .u8 0, .int .u8 0, .int .u8 0, .int .u8 0, .int .u8 0, .int .u8 0, .int .u8 0, .int .u8 0, .int .u8 0, .int .u8 0, .int .u8 0, .int .u8 0, .int .u8 0, .int .u8 0, .int .u8 0, .int .u8 0, .int .u8 0, .int .u8 0, .int .u8 0, .int .u8 0, .int .u8 0, .int .u8 0, .int .u8 0, .int .u8 0, .int .u8 0, .int .u8 0, .int .u8 0, .int .u8 0, .int .u8 0, .int .u8 0, .int .u8 0] 25)).setCells w4.heap.size 0 (row .u8 32 (kT z0 12 (zs sLater) 1))) = w5 at K ⊢
  generalize w4.heap.size = X at *
  show Exit.then _ _ _ _ _
  go_upto_region 5 with fail
  refine wp_region_list ?_
  refine pureL (.agg (row .u8 32 z0).toArray) rfl (fun _ => by kernel_rfl) ?_
  simp only [Act.put, List.setIfInBounds_toArray, List.set_cons_zero, List.set_cons_succ]
  refine callL rfl (fun _ => by kernel_rfl) (kof_any z0 (z0_in 32) _ (hg.below K.below hg.size)) ?_
  rintro e w6 ⟨rfl, l⟩
  replace K := K.call l
  clear l
  refine ⟨_, rfl, ?_⟩
  simp only [Act.put, List.setIfInBounds_toArray, List.set_cons_zero, List.set_cons_succ]
  refine allocL #[.int .u8 0, .int .u8 0, .int .u8 0, .int .u8 0, .int .u8 0, .int .u8 0, .int .u8 0, .int .u8 0, .int .u8 0, .int .u8 0, .int .u8 0, .int .u8 0, .int .u8 0, .int .u8 0, .int .u8 0, .int .u8 0, .int .u8 0, .int .u8 0, .int .u8 0, .int .u8 0, .int .u8 0, .int .u8 0, .int .u8 0, .int .u8 0, .int .u8 0, .int .u8 0, .int .u8 0, .int .u8 0, .int .u8 0, .int .u8 0, .int .u8 0, .int .u8 0] 25 rfl (fun _ => by kernel_rfl) ?_
  simp only [Act.put, List.setIfInBounds_toArray, List.set_cons_zero, List.set_cons_succ]
  refine storesL .u8 32 (kT z0 10 (zs sKey) 1) w6.heap.size 25 _ _ rfl rfl rfl rfl (room_of (key_zero _ _ _ rfl).there) (key_info' _) ?_
  simp only [Act.put]
  have zY := K.size
  replace K := K.fresh .u8 32 (kT z0 10 (zs sKey) 1) #[.int .u8 0, .int .u8 0, .int .u8 0, .int .u8 0, .int .u8 0, .int .u8 0, .int .u8 0, .int .u8 0, .int .u8 0, .int .u8 0, .int .u8 0, .int .u8 0, .int .u8 0, .int .u8 0, .int .u8 0, .int .u8 0, .int .u8 0, .int .u8 0, .int .u8 0, .int .u8 0, .int .u8 0, .int .u8 0, .int .u8 0, .int .u8 0, .int .u8 0, .int .u8 0, .int .u8 0, .int .u8 0, .int .u8 0, .int .u8 0, .int .u8 0, .int .u8 0] 25 (key_zero _ _ _ rfl).there
  generalize ((w6.alloc (.cells #[.int .u8 0, .int .u8 0, .int .u8 0, .int .u8 0, .int .u8 0, .int .u8 0, .int .u8 0, .int .u8 0, .int .u8 0, .int .u8 0, .int .u8 0, .int .u8 0, .int .u8 0, .int .u8 0, .int .u8 0, .int .u8 0, .int .u8 0, .int .u8 0, .int .u8 0, .int .u8 0, .int .u8 0, .int .u8 0, .int .u8 0, .int .u8 0, .int .u8 0, .int .u8 0, .int .u8 0, .int .u8 0, .int .u8 0, .int .u8 0, .int .u8 0, .int .u8 0] 25)).setCells w6.heap.size 0 (row .u8 32 (kT z0 10 (zs sKey) 1))) = w7 at K ⊢
  generalize w6.heap.size = Y at *
  show Exit.then _ _ _ _ _
  go_upto_region 6 with fail
  refine wp_region_list ?_
  refine pureL (.int .i64 1) rfl (fun _ => by kernel_rfl) ?_
  simp only [Act.put, List.setIfInBounds_toArray, List.set_cons_zero, List.set_cons_succ]
  refine pureL (.bool true) rfl (fun w => eqlI .i64 _ _ _ _ _ _ rfl rfl rfl true (by decide) w) ?_
  simp only [Act.put, List.setIfInBounds_toArray, List.set_cons_zero, List.set_cons_succ]
  refine pureL (.bool true) rfl (fun _ => by kernel_rfl) ?_
  simp only [Act.put, List.setIfInBounds_toArray, List.set_cons_zero, List.set_cons_succ]
  refine pureL (.int .i64 1) rfl (fun _ => by kernel_rfl) ?_
  simp only [Act.put, List.setIfInBounds_toArray, List.set_cons_zero, List.set_cons_succ]
  refine pureL (.bool true) rfl (fun w => eqlI .i64 _ _ _ _ _ _ rfl rfl rfl true (by decide) w) ?_
  simp only [Act.put, List.setIfInBounds_toArray, List.set_cons_zero, List.set_cons_succ]
  refine pureL (.bool true) rfl (fun _ => by kernel_rfl) ?_
  simp only [Act.put, List.setIfInBounds_toArray, List.set_cons_zero, List.set_cons_succ]
  refine pureL (.bool true) rfl (fun _ => by kernel_rfl) ?_
  simp only [Act.put, List.setIfInBounds_toArray, List.set_cons_zero, List.set_cons_succ]
  refine pureL (.int .i64 0) rfl (fun _ => by kernel_rfl) ?_
  simp only [Act.put, List.setIfInBounds_toArray, List.set_cons_zero, List.set_cons_succ]
  refine pureL (.bool true) rfl (fun w => eqlI .i64 _ _ _ _ _ _ rfl rfl rfl true (by decide) w) ?_
  simp only [Act.put, List.setIfInBounds_toArray, List.set_cons_zero, List.set_cons_succ]
  refine pureL (.bool true) rfl (fun _ => by kernel_rfl) ?_
  simp only [Act.put, List.setIfInBounds_toArray, List.set_cons_zero, List.set_cons_succ]
  refine pureL (.bool true) rfl (fun _ => by kernel_rfl) ?_
  simp only [Act.put, List.setIfInBounds_toArray, List.set_cons_zero, List.set_cons_succ]
  refine pureL (.slice s3 0 c3) rfl (fun _ => by kernel_rfl) ?_
  simp only [Act.put, List.setIfInBounds_toArray, List.set_cons_zero, List.set_cons_succ]
  refine pureL (.int .i64 ((0 : Nat) : Int)) rfl (fun w => lenS _ 22 5 s3 0 c3 rfl Tryd.underlying22 rfl w) ?_
  simp only [Act.put, List.setIfInBounds_toArray, List.set_cons_zero, List.set_cons_succ]
  refine pureL (.bool true) rfl (fun w => eqlI .i64 _ _ _ _ _ _ rfl rfl rfl true (by decide) w) ?_
  simp only [Act.put, List.setIfInBounds_toArray, List.set_cons_zero, List.set_cons_succ]
  refine pureL (.bool true) rfl (fun _ => by kernel_rfl) ?_
  simp only [Act.put, List.setIfInBounds_toArray, List.set_cons_zero, List.set_cons_succ]
  refine pureL (.bool true) rfl (fun _ => by kernel_rfl) ?_
  simp only [Act.put, List.setIfInBounds_toArray, List.set_cons_zero, List.set_cons_succ]
  refine rowKL .u8 32 (kT z0 12 (zs sLater) 1) (X) 0 25 _ _ rfl rfl rfl Tryd.underlying25 rfl (key_info _) ((K.get _ _ _ _ (List.mem_cons_of_mem _ List.mem_cons_self)).range) ?_
  simp only [Act.put, List.setIfInBounds_toArray, List.set_cons_zero, List.set_cons_succ]
  refine rowKL .u8 32 (kT z0 10 (zs sKey) 1) (Y) 0 25 _ _ rfl rfl rfl Tryd.underlying25 rfl (key_info _) ((K.get _ _ _ _ List.mem_cons_self).range) ?_
  simp only [Act.put, List.setIfInBounds_toArray, List.set_cons_zero, List.set_cons_succ]
  refine pureL (.bool true) rfl (fun w => neqV 32 (kT z0 12 (zs sLater) 1) (kT z0 10 (zs sKey) 1) 25 5 _ _ _ rfl rfl rfl Tryd.underlying25 Tryd.underlying5 (fun _ => by kernel_rfl) (by kernel_rfl) (kT_in _ _ _ _ _) (kT_in _ _ _ _ _) true (val_ne (kT_in _ _ _ _ _) (kT_in _ _ _ _ _) 0 (by decide) (by rw [later_noughts, of_noughts]; decide)) w) ?_
  simp only [Act.put, List.setIfInBounds_toArray, List.set_cons_zero, List.set_cons_succ]
  refine pureL (.bool true) rfl (fun _ => by kernel_rfl) ?_
  simp only [Act.put, List.setIfInBounds_toArray, List.set_cons_zero, List.set_cons_succ]
  refine pureL (.bool true) rfl (fun _ => by kernel_rfl) ?_
  simp only [Act.put, List.setIfInBounds_toArray, List.set_cons_zero, List.set_cons_succ]
  refine rowKL .u8 32 (kT z0 12 (zs sLater) 1) (X) 0 25 _ _ rfl rfl rfl Tryd.underlying25 rfl (key_info _) ((K.get _ _ _ _ (List.mem_cons_of_mem _ List.mem_cons_self)).range) ?_
  simp only [Act.put, List.setIfInBounds_toArray, List.set_cons_zero, List.set_cons_succ]
  refine pureL (.agg (row .u8 32 z0).toArray) rfl (fun _ => by kernel_rfl) ?_
  simp only [Act.put, List.setIfInBounds_toArray, List.set_cons_zero, List.set_cons_succ]
  refine pureL (.bool true) rfl (fun w => neqV 32 (kT z0 12 (zs sLater) 1) (z0) 25 5 _ _ _ rfl rfl rfl Tryd.underlying25 Tryd.underlying5 (fun _ => by kernel_rfl) (by kernel_rfl) (kT_in _ _ _ _ _) (z0_in 32) true (val_ne (kT_in _ _ _ _ _) (z0_in 32) 0 (by decide) (by rw [later_noughts]; decide)) w) ?_
  simp only [Act.put, List.setIfInBounds_toArray, List.set_cons_zero, List.set_cons_succ]
  refine pureL (.bool true) rfl (fun _ => by kernel_rfl) ?_
  simp only [Act.put, List.setIfInBounds_toArray, List.set_cons_zero, List.set_cons_succ]
  refine pureL (.bool true) rfl (fun _ => by kernel_rfl) ?_
  simp only [Act.put, List.setIfInBounds_toArray, List.set_cons_zero]
  show Exit.then _ _ _ _ _
  have hB := K.below
  clear K
  go_wp2
  go_ret
  exact ⟨rfl, hB⟩
end Go.Proofs.YtcdbkbcfjdpdoaaDoor

namespace Go.Proofs.YtcdbkbcfjdpdoaaDoor
open Go.ChangeShapes Go.WideShapes Go.ChangeAt Go.WideMaps Go.WideElems Go.RowKit

theorem own : ownKnob Tryd.prog.godebug = none := by kernel_rfl
theorem gFirst6 : Tryd.prog.globalNamed "sheave/blake.iv" = some 0 := by kernel_rfl
theorem gOrders6 : Tryd.prog.globalNamed "sheave/blake.rows" = some 2 := by kernel_rfl
theorem gPlaces6 : Tryd.prog.globalNamed "sheave/blake.places" = some 1 := by kernel_rfl
theorem tFirst6 : (Tryd.prog.globals[0]?).map (·.type) = some 43 := by kernel_rfl
theorem tOrders6 : (Tryd.prog.globals[2]?).map (·.type) = some 63 := by kernel_rfl
theorem tPlaces6 : (Tryd.prog.globals[1]?).map (·.type) = some 65 := by kernel_rfl
theorem cellsByte : Tryd.prog.cellsOf 5 = 1 := by kernel_rfl
theorem cellsW32 : Tryd.prog.cellsOf 42 = 1 := by kernel_rfl
theorem cellsSt : Tryd.prog.cellsOf 43 = 8 := by kernel_rfl
theorem cells16i : Tryd.prog.cellsOf 62 = 16 := by kernel_rfl
theorem cells4i : Tryd.prog.cellsOf 64 = 4 := by kernel_rfl

/-- What the cards' rows list. -/
def laidB {H : Type} : List (String × DataW H) := [("sheave/blake.iv", Rows.laid_sheave_blake_iv), ("sheave/blake.rows", Rows.laid_sheave_blake_rows), ("sheave/blake.places", Rows.laid_sheave_blake_places)]

theorem glob_of_laidB {W : World} (h : laidMetH Tryd.prog laidB W) : BGlob W := by
  rw [MakeChecks.laidMetH_plain _ _ _ (by kernel_rfl)] at h
  obtain ⟨ps, ⟨g0, t0, cs0, f0, p0, q0, hg0, ht0, hv0, hd0, ⟨g1, t1, cs1, f1, p1, q1, hg1, ht1, hv1, hd1, ⟨g2, t2, cs2, f2, p2, q2, hg2, ht2, hv2, hd2, _, _⟩, _⟩, _⟩, _, _⟩ := h
  obtain rfl := Option.some.inj (gFirst6.symm.trans hg0)
  obtain rfl := Option.some.inj (gOrders6.symm.trans hg1)
  obtain rfl := Option.some.inj (gPlaces6.symm.trans hg2)
  obtain rfl := Option.some.inj (tFirst6.symm.trans ht0)
  obtain rfl := Option.some.inj (tOrders6.symm.trans ht1)
  obtain rfl := Option.some.inj (tPlaces6.symm.trans ht2)
  obtain ⟨f, _, e1, e2⟩ := open_row Tryd.underlying43 Tryd.underlying42 cellsSt cellsW32 hd0
  simp only [Prod.mk.injEq] at e2
  have ef := litR_inj (show (litR .u32 8 iv : DataW _) = litR .u32 8 f from e2.1)
  have b := open_table (n := 10) (m := 16) Tryd.underlying63 Tryd.underlying62 Tryd.underlying5 cells16i cellsByte (by decide) (fun j => ((sgL.getD j 0 : Nat) : Int)) (by rfl) hd1
  have c := open_table (n := 8) (m := 4) Tryd.underlying65 Tryd.underlying64 Tryd.underlying5 cells4i cellsByte (by decide) bplc (by rfl) hd2
  have c0 : ∀ j, j < 8 → W.cell? ⟨0, j, none⟩ = some (.int .u32 (iv j)) := fun j hj => by
    rw [World.var?_cell hg0 hv0 j, ef j hj]
    have := row_get .u32 8 f j hj
    rw [← e1] at this
    simpa using this
  have c1 : ∀ j, j < 160 → W.cell? ⟨2, j, none⟩ = some (.int .u8 (sgL.getD j 0 : Nat)) := fun j hj => by
    rw [World.var?_cell hg1 hv1 j]; simpa using b j hj
  have c2 : ∀ j, j < 32 → W.cell? ⟨1, j, none⟩ = some (.int .u8 (bplc j)) := fun j hj => by
    rw [World.var?_cell hg2 hv2 j]; simpa using c j hj
  have s0 := World.block_lt_of_cell? W _ (c0 0 (by omega))
  have s1 := World.block_lt_of_cell? W _ (c1 0 (by omega))
  have s2 := World.block_lt_of_cell? W _ (c2 0 (by omega))
  exact ⟨c0, c1, c2, by dsimp only at s0 s1 s2; omega⟩

/-- The door's own heap meets the condition: three closed facts. -/
theorem door_metB (os : Os) (args : Array Value) : laidMetH Tryd.prog laidB ((World.doorLaid Tryd.prog 37 os).forCall (fun _ _ => 0) ⟨#[], args, []⟩).memory :=
  laidMetH_of_parts3 (fuel := 8) (laidMet_of_run' 8 (by kernel_rfl) (by kernel_rfl)) (by kernel_rfl) (by kernel_rfl)
end Go.Proofs.YtcdbkbcfjdpdoaaDoor

namespace Go.Proofs.YtcdbkbcfjdpdoaaDoor
theorem cellsKey : Tryd.prog.cellsOf 25 = 32 := by kernel_rfl
def keyNought : Value := .agg #[.int .u8 0, .int .u8 0, .int .u8 0, .int .u8 0, .int .u8 0, .int .u8 0, .int .u8 0, .int .u8 0, .int .u8 0, .int .u8 0, .int .u8 0, .int .u8 0, .int .u8 0, .int .u8 0, .int .u8 0, .int .u8 0, .int .u8 0, .int .u8 0, .int .u8 0, .int .u8 0, .int .u8 0, .int .u8 0, .int .u8 0, .int .u8 0, .int .u8 0, .int .u8 0, .int .u8 0, .int .u8 0, .int .u8 0, .int .u8 0, .int .u8 0, .int .u8 0]
end Go.Proofs.YtcdbkbcfjdpdoaaDoor
