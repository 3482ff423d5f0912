/- Texts of Bt Jz Ja Jo Jl Jb Je Ea Mx My Ob Oc Va Qa Fq Oi, joined. -/
import Derived.Test.YtckohmdmjhaknaaDoorP3KeysPlays
import Derived.Test.YtckohmdmjhaknaaDoorP4KeysPlays
import Derived.Test.YtckohmdmjhaknaaDoorP1KeysPlays
import Derived.Laws.StructEq
import Derived.Laws.Small
import Derived.Lib.ConvBytes
import Derived.Laws.Cells
set_option maxRecDepth 20000
set_option maxHeartbeats 64000000
namespace Go.Proofs.YtckohmdmjhaknaaDoor
open Go.RowKit
def bout (h : Nat → Int) : Nat → Int := fun j => b32 (h (j / 4)) (j % 4)
def nbt (n : Nat) : Nat := if n = 0 then 1 else (n + 63) / 64
def tH (h0 : Nat → Int) (n : Nat) (f : Nat → Int) : Nat → Nat → Int
  | 0 => h0
  | i + 1 => bpr (tH h0 n f i) (fun j => f (64 * i + j)) ((min (64 * i + 64) n : Nat) : Int) (decide (i + 1 = nbt n))
theorem tH_in (h0 : Nat → Int) (n : Nat) (f : Nat → Int) (h : In V 8 h0) : ∀ i, In V 8 (tH h0 n f i)
  | 0 => h
  | i + 1 => bpr_in _ _ _ _ (tH_in h0 n f h i)
theorem bH_tH (kl : Nat) (key : Nat → Int) (size len : Nat) (z : Nat → Int) : ∀ i, bH kl key size len z i = tH (bh0 kl size) (btl kl len) (btx kl key len z) i
  | 0 => rfl
  | i + 1 => by
    unfold bH tH
    rw [bH_tH kl key size len z i]
    rfl
theorem bsum_tH (kl : Nat) (key : Nat → Int) (size len : Nat) (z : Nat → Int) : bsum kl key size len z = bout (tH (bh0 kl size) (btl kl len) (btx kl key len z) (nbt (btl kl len))) := by
  funext j
  unfold bsum bout
  rw [bH_tH]
  rfl
theorem bN_congr (m m' : Nat → Int) (r : Nat) (h : ∀ i, i < 16 → m i = m' i) (v : Nat → Int) : ∀ k, bN m (sg r) v k = bN m' (sg r) v k
  | 0 => rfl
  | k + 1 => by
    unfold bN
    rw [bN_congr m m' r h v k]
    unfold bAt
    rw [h _ (sg_lt r _), h _ (sg_lt r _)]
theorem bR_congr (m m' : Nat → Int) (h : ∀ i, i < 16 → m i = m' i) (v : Nat → Int) : ∀ r, bR m v r = bR m' v r
  | 0 => rfl
  | r + 1 => by
    unfold bR
    rw [bR_congr m m' h v r, bN_congr m m' r h]
theorem bpr_congr (h z z' : Nat → Int) (t : Int) (last : Bool) (e : ∀ j, j < 64 → z j = z' j) : bpr h z t last = bpr h z' t last := by
  funext i
  unfold bpr
  rw [bR_congr (bpw z) (bpw z') (fun i hi => by unfold bpw w32; rw [e _ (by omega), e _ (by omega), e _ (by omega), e _ (by omega)])]
def tx2 (fl : Nat) (y : Nat → Int) (len : Nat) (z : Nat → Int) : Nat → Int := fun j => if j < fl then y j else padz len z (j - fl)
theorem tx2_none (y z : Nat → Int) (j : Nat) : tx2 64 y 0 z (64 * 0 + j) = padz 64 y j := by
  unfold tx2 padz
  rw [Nat.mul_zero, Nat.zero_add]
  by_cases e : j < 64
  · rw [if_pos e, if_pos e]
  · rw [if_neg e, if_neg e, if_neg (Nat.not_lt_zero _)]
theorem bhash_tx2 (fl : Nat) (y : Nat → Int) (len : Nat) (z : Nat → Int) : bhash (fl + len) (app y fl z) = bout (tH (bh0 0 32) (fl + len) (tx2 fl y len z) (nbt (fl + len))) := by
  have e1 : btl 0 (fl + len) = fl + len := Nat.zero_add _
  have e2 : btx 0 (fun _ => 0) (fl + len) (app y fl z) = tx2 fl y len z := by
    funext j
    unfold btx tx2 padz app
    rw [if_pos rfl]
    by_cases e : j < fl
    · rw [if_pos (by omega), if_pos e, if_pos e]
    · rw [if_neg e, if_neg e]
      by_cases e3 : j < fl + len
      · rw [if_pos e3, if_pos (by omega)]
      · rw [if_neg e3, if_neg (by omega)]
  unfold bhash
  rw [bsum_tH, e1, e2]
def z0 : Nat → Int := fun _ => 0
def zs (s : ByteArray) : Nat → Int := fun j => ((s.data.toList.getD j 0).toNat : Int)
theorem zs_in (s : ByteArray) (n : Nat) : In 256 n (zs s) := fun j _ => by
  have h : (s.data.toList.getD j 0).toNat < 256 := UInt8.toNat_lt _
  unfold zs
  omega
theorem bmac_in (kl : Nat) (key : Nat → Int) (len : Nat) (z : Nat → Int) (n : Nat) : In 256 n (bmac kl key len z) := bhash_in _ _ n
def klen : Nat → Nat
  | 0 => 0
  | _ + 1 => 32
def ktx (il : Nat) (inf : Nat → Int) (i : Nat) (t : Nat → Int) : Nat → Int := app (app t (klen i) inf) (klen i + il) (fun _ => ((i + 1 : Nat) : Int))
def kT (k : Nat → Int) (il : Nat) (inf : Nat → Int) : Nat → Nat → Int
  | 0 => fun _ => 0
  | i + 1 => bmac 32 k (klen i + il + 1) (ktx il inf i (kT k il inf i))
def kex (k : Nat → Int) (il : Nat) (inf : Nat → Int) : Nat → Int := fun j => kT k il inf (j / 32 + 1) (j % 32)
theorem klen_le (i : Nat) : klen i ≤ 32 := by cases i <;> simp [klen]
theorem kT_in (k : Nat → Int) (il : Nat) (inf : Nat → Int) (n : Nat) : ∀ i, In 256 n (kT k il inf i)
  | 0 => fun _ _ => ⟨Int.le_refl 0, (by decide : (0 : Int) < 256)⟩
  | _ + 1 => bmac_in _ _ _ _ _
theorem ktx_in (il : Nat) (inf : Nat → Int) (hi : In 256 il inf) (i : Nat) (h : i + 1 < 256) (t : Nat → Int) (ht : In 256 32 t) : In 256 (klen i + il + 1) (ktx il inf i t) :=
  app_in _ _ _ _ (app_in _ _ _ _ (fun j hj => ht j (Nat.lt_of_lt_of_le hj (klen_le i))) hi) (fun _ _ => ⟨by omega, by omega⟩)
theorem kex_next (k : Nat → Int) (il : Nat) (inf : Nat → Int) (i : Nat) : ∀ j, app (kex k il inf) (32 * i) (kT k il inf (i + 1)) j = if j < 32 * i + 32 then kex k il inf j else kT k il inf (i + 1) (j - 32 * i) := fun j => by
  unfold app
  by_cases e : j < 32 * i
  · rw [if_pos e, if_pos (by omega)]
  · rw [if_neg e]
    by_cases e2 : j < 32 * i + 32
    · rw [if_pos e2]
      unfold kex
      rw [show j / 32 = i by omega, show j % 32 = j - 32 * i by omega]
    · rw [if_neg e2]
theorem kex_part (k : Nat → Int) (il : Nat) (inf : Nat → Int) (i : Nat) : ∀ j, j < 32 → kT k il inf (i + 1) j = kex k il inf (32 * i + j) := fun j hj => by
  unfold kex
  rw [show (32 * i + j) / 32 = i by omega, show (32 * i + j) % 32 = j by omega]
def oct {α : Type} (g : Nat → Int) (k : (Nat → Int) → α) : α :=
  forceI (g 0) fun a0 => forceI (g 1) fun a1 => forceI (g 2) fun a2 => forceI (g 3) fun a3 => forceI (g 4) fun a4 => forceI (g 5) fun a5 => forceI (g 6) fun a6 => forceI (g 7) fun a7 => k (bl [a0, a1, a2, a3, a4, a5, a6, a7])
theorem oct_eq {α : Type} (g : Nat → Int) (k : (Nat → Int) → α) : oct g k = k (bl [g 0, g 1, g 2, g 3, g 4, g 5, g 6, g 7]) := by simp only [oct, forceI_eq]
theorem oct_bl (g : Nat → Int) : ∀ i, i < 8 → bl [g 0, g 1, g 2, g 3, g 4, g 5, g 6, g 7] i = g i
  | 0, _ | 1, _ | 2, _ | 3, _ | 4, _ | 5, _ | 6, _ | 7, _ => rfl
  | _ + 8, h => by omega
theorem evP_congr (h h' z : Nat → Int) (t : Int) (last : Bool) (e : ∀ i, i < 8 → h i = h' i) (i : Nat) (hi : i < 8) : evP h z t last i = evP h' z t last i := by
  unfold evP
  rw [e 0 (by decide), e 1 (by decide), e 2 (by decide), e 3 (by decide), e 4 (by decide), e 5 (by decide), e 6 (by decide), e 7 (by decide), e i hi]
def evT {α : Type} (n : Nat) (f : Nat → Int) : Nat → Nat → (Nat → Int) → ((Nat → Int) → α) → α
  | 0, _, h, k => k h
  | m + 1, i, h, k => oct (evP h (fun j => f (64 * i + j)) ((min (64 * i + 64) n : Nat) : Int) (decide (i + 1 = nbt n))) fun h' => evT n f m (i + 1) h' k
theorem evT_eq {α : Type} (h0 : Nat → Int) (n : Nat) (f : Nat → Int) (k : (Nat → Int) → α) (hk : ∀ h h', (∀ i, i < 8 → h i = h' i) → k h = k h') : ∀ m i h, (∀ j, j < 8 → h j = tH h0 n f i j) → evT n f m i h k = k (tH h0 n f (i + m))
  | 0, _, _, e => hk _ _ e
  | m + 1, i, h, e => by
    show oct _ _ = _
    rw [oct_eq, show i + (m + 1) = i + 1 + m by omega]
    refine evT_eq h0 n f k hk m (i + 1) _ fun j hj => ?_
    rw [oct_bl _ j hj, evP_congr h (tH h0 n f i) _ _ _ e j hj, ← evP_eq]
    rfl
theorem bout_congr (h h' : Nat → Int) (e : ∀ i, i < 8 → h i = h' i) : ∀ j, j < 32 → bout h j = bout h' j := fun j hj => by
  unfold bout
  rw [e _ (by omega)]
def evM (yo yi : Nat → Int) (len : Nat) (z : Nat → Int) (j : Nat) : Int :=
  evT (64 + len) (tx2 64 yi len z) (nbt (64 + len)) 0 (bh0 0 32) fun h => evT (64 + 32) (tx2 64 yo 32 (bout h)) (nbt (64 + 32)) 0 (bh0 0 32) fun g => bout g j
theorem evM_eq (kl : Nat) (key : Nat → Int) (len : Nat) (z : Nat → Int) (j : Nat) (hj : j < 32) : bmac kl key len z j = evM (bxx 92 (bkk kl key)) (bxx 54 (bkk kl key)) len z j := by
  unfold evM
  have e2 : ∀ h : Nat → Int, evT (64 + 32) (tx2 64 (bxx 92 (bkk kl key)) 32 (bout h)) (nbt (64 + 32)) 0 (bh0 0 32) (fun g => bout g j) = bout (tH (bh0 0 32) (64 + 32) (tx2 64 (bxx 92 (bkk kl key)) 32 (bout h)) (0 + nbt (64 + 32))) j :=
    fun h => evT_eq (bh0 0 32) _ _ (fun g => bout g j) (fun h h' e => bout_congr h h' e j hj) _ 0 _ (fun _ _ => rfl)
  have ec : ∀ h h' : Nat → Int, (∀ i, i < 8 → h i = h' i) → tx2 64 (bxx 92 (bkk kl key)) 32 (bout h) = tx2 64 (bxx 92 (bkk kl key)) 32 (bout h') := fun h h' e => by
    funext q
    unfold tx2 padz
    by_cases e1 : q < 64
    · rw [if_pos e1, if_pos e1]
    · rw [if_neg e1, if_neg e1]
      by_cases e3 : q - 64 < 32
      · rw [if_pos e3, if_pos e3]; exact bout_congr h h' e _ e3
      · rw [if_neg e3, if_neg e3]
  rw [evT_eq (bh0 0 32) _ _ _ (fun h h' e => by rw [ec h h' e]) _ 0 (bh0 0 32) (fun _ _ => rfl), e2, Nat.zero_add, Nat.zero_add]
  unfold bmac
  rw [← bhash_tx2 64 (bxx 54 (bkk kl key)) len z, ← bhash_tx2 64 (bxx 92 (bkk kl key)) 32]
def sLater : ByteArray := ⟨#[115, 104, 101, 97, 118, 101, 32, 108, 97, 116, 101, 114]⟩
def sKey : ByteArray := ⟨#[115, 104, 101, 97, 118, 101, 32, 107, 101, 121]⟩
section
def ub (l : Nat → Bool) (i : Nat) : Nat → Bool := fun j => if j = i then true else l j
def uv (v : Nat → Value) (i : Nat) (x : Value) : Nat → Value := fun j => if j = i then x else v j
theorem ub_same (l : Nat → Bool) (i : Nat) : ub l i i = true := if_pos rfl
theorem ub_other (l : Nat → Bool) {i j : Nat} (h : j ≠ i) : ub l i j = l j := if_neg h
theorem uv_same (v : Nat → Value) (i : Nat) (x : Value) : uv v i x i = x := if_pos rfl
theorem uv_other (v : Nat → Value) {i j : Nat} (x : Value) (h : j ≠ i) : uv v i x j = v j := if_neg h
def un : Nat → (Nat → Bool) → Nat
  | 0, _ => 0
  | n + 1, l => un n l + (if l n then 0 else 1)
theorem un_congr {l l' : Nat → Bool} : ∀ n, (∀ j, j < n → l j = l' j) → un n l = un n l'
  | 0, _ => rfl
  | n + 1, h => by
    unfold un
    rw [un_congr n fun j hj => h j (by omega), h n (by omega)]
theorem un_ub (l : Nat → Bool) (i : Nat) (hl : l i = false) : ∀ n, i < n → un n (ub l i) + 1 = un n l
  | 0, h => by omega
  | n + 1, h => by
    unfold un
    by_cases e : n = i
    · subst e
      rw [ub_same, hl, un_congr (l := ub l n) (l' := l) n fun j hj => ub_other l (by omega)]
      rfl
    · rw [ub_other l e, ← un_ub l i hl n (by omega)]
      omega
theorem un_zero (l : Nat → Bool) : ∀ n, un n l = 0 → ∀ i, i < n → l i = true
  | 0, _, i, hi => by omega
  | n + 1, h, i, hi => by
    unfold un at h
    by_cases e : i = n
    · subst e
      cases hli : l i with
      | true => rfl
      | false => rw [hli] at h; simp at h
    · exact un_zero l n (by omega) i (by omega)
section
variable {P : Program} {ops : Array Oper} {Q : Exit → Act → World → Prop} {md : Region.Mode}
def dstOf (ops : Array Oper) (i : Nat) : Option Tmp := (ops[i]?).bind (·.dst)
def puts (ops : Array Oper) (a : Act) (l : Nat → Bool) (v : Nat → Value) : Nat → Act
  | 0 => a
  | n + 1 => if l n = true then (puts ops a l v n).put (dstOf ops n) (v n) else puts ops a l v n
theorem puts_congr (a : Act) {l l' : Nat → Bool} {v v' : Nat → Value} : ∀ n, (∀ j, j < n → l j = l' j ∧ v j = v' j) → puts ops a l v n = puts ops a l' v' n
  | 0, _ => rfl
  | n + 1, h => by
    unfold puts
    rw [puts_congr a n fun j hj => h j (by omega), (h n (by omega)).1, (h n (by omega)).2]
def apartB (ops : Array Oper) : Bool := (List.range ops.size).all fun i => (List.range ops.size).all fun j => i == j || match dstOf ops i with | none => true | some d => !(dstOf ops j == some d)
def withinB (ops : Array Oper) (z : Nat) : Bool := (List.range ops.size).all fun i => match dstOf ops i with | none => true | some d => decide (d < z)
def lowB (md : Region.Mode) (ops : Array Oper) : Bool := (List.range ops.size).all fun i => match ops[i]? with | none => true | some o => o.after.all fun e => !Region.binds md e || decide (e.on < i)
theorem dst_lt {i : Nat} {d : Tmp} (h : dstOf ops i = some d) : i < ops.size := by
  unfold dstOf at h
  rcases Nat.lt_or_ge i ops.size with h' | h'
  · exact h'
  · rw [Array.getElem?_eq_none h'] at h; cases h
theorem dst_apart (hD : apartB ops = true) {i j : Nat} {d : Tmp} (hij : i ≠ j) (hi : dstOf ops i = some d) : dstOf ops j ≠ some d := fun hj => by
  have h := List.all_eq_true.1 (List.all_eq_true.1 hD i (List.mem_range.2 (dst_lt hi))) j (List.mem_range.2 (dst_lt hj))
  rw [hi, hj] at h
  simp [hij] at h
theorem puts_put (hD : apartB ops = true) (a : Act) (l : Nat → Bool) (v : Nat → Value) (i : Nat) (x : Value) (hl : l i = false) : ∀ n, i < n → (puts ops a l v n).put (dstOf ops i) x = puts ops a (ub l i) (uv v i x) n
  | 0, h => by omega
  | n + 1, h => by
    unfold puts
    by_cases e : n = i
    · subst e
      rw [ub_same, hl, uv_same, if_pos rfl, if_neg (by decide), puts_congr (l := ub l n) (l' := l) (v := uv v n x) (v' := v) a n fun j hj => ⟨ub_other l (by omega), uv_other v x (by omega)⟩]
    · rw [ub_other l e, uv_other v x e]
      by_cases hn : l n = true
      · rw [if_pos hn, if_pos hn, ← puts_put hD a l v i x hl n (by omega)]
        exact Act.put_comm _ _ _ fun d hd => dst_apart hD e hd
      · rw [if_neg hn, if_neg hn]
        exact puts_put hD a l v i x hl n (by omega)
theorem put_size (a : Act) (d : Option Tmp) (x : Value) : (a.put d x).tmps.size = a.tmps.size := by
  cases d <;> simp [Act.put]
theorem puts_size (a : Act) (l : Nat → Bool) (v : Nat → Value) : ∀ n, (puts ops a l v n).tmps.size = a.tmps.size
  | 0 => rfl
  | n + 1 => by
    unfold puts
    split
    · rw [put_size, puts_size a l v n]
    · exact puts_size a l v n
theorem put_at (a : Act) (d : Tmp) (x : Value) (h : d < a.tmps.size) : (a.put (some d) x).tmps.getD d undef = x := by
  rw [Array.getD_eq_getD_getElem?]
  simp [Act.put, h]
theorem put_off (a : Act) (e : Option Tmp) (d : Tmp) (x : Value) (h : e ≠ some d) : (a.put e x).tmps.getD d undef = a.tmps.getD d undef := by
  cases e with
  | none => rfl
  | some e =>
    have h' : e ≠ d := fun he => h (by rw [he])
    rw [Array.getD_eq_getD_getElem?, Array.getD_eq_getD_getElem?]
    simp [Act.put, h']
theorem puts_at (hD : apartB ops = true) (a : Act) (l : Nat → Bool) (v : Nat → Value) (j : Nat) (d : Tmp) (hd : dstOf ops j = some d) (hz : d < a.tmps.size) (hl : l j = true) : ∀ n, j < n → (puts ops a l v n).tmps.getD d undef = v j
  | 0, h => by omega
  | n + 1, h => by
    unfold puts
    by_cases e : n = j
    · subst e
      rw [if_pos hl, hd, put_at _ _ _ (by rw [puts_size]; exact hz)]
    · have h1 := puts_at hD a l v j d hd hz hl n (by omega)
      by_cases hn : l n = true
      · rw [if_pos hn, put_off _ _ _ _ (dst_apart hD (Ne.symm e) hd)]
        exact h1
      · rw [if_neg hn]
        exact h1
theorem puts_old (a : Act) (l : Nat → Bool) (v : Nat → Value) (d : Tmp) (hd : ∀ j, dstOf ops j ≠ some d) : ∀ n, (puts ops a l v n).tmps.getD d undef = a.tmps.getD d undef
  | 0 => rfl
  | n + 1 => by
    unfold puts
    by_cases hn : l n = true
    · rw [if_pos hn, put_off _ _ _ _ (hd n)]
      exact puts_old a l v d hd n
    · rw [if_neg hn]
      exact puts_old a l v d hd n
def Does (P : Program) (md : Region.Mode) (ops : Array Oper) (Q : Exit → Act → World → Prop) (a0 : Act) (J : (Nat → Bool) → (Nat → Value) → World → Prop) (i : Nat) : Prop :=
  ∀ o, ops[i]? = some o → ∀ l v w, J l v w → l i = false → (∀ e ∈ o.after, Region.binds md e = true → l e.on = true) →
    wpOp P ops Q i (fun a' w' => ∃ x, a' = (puts ops a0 l v ops.size).put o.dst x ∧ J (ub l i) (uv v i x) w') (puts ops a0 l v ops.size) w
theorem set_ub (L : Array Bool) (i : Nat) (hi : i < L.size) : (fun j => (L.setIfInBounds i true).getD j false) = ub (fun j => L.getD j false) i := by
  funext j
  by_cases e : j = i
  · subst e
    rw [ub_same, Array.getD_eq_getD_getElem?, Array.getElem?_setIfInBounds_self_of_lt hi]
    rfl
  · rw [ub_other _ e, getD_set_ne false (Ne.symm e)]
theorem getD_both {L : Array Bool} {i : Nat} (hi : i < L.size) : L.getD i true = L.getD i false := by
  rw [Array.getD_eq_getD_getElem?, Array.getD_eq_getD_getElem?, Array.getElem?_eq_getElem hi]
  rfl
theorem all_listed {L : Array Bool} (hs : L.size = ops.size) (hlow : lowB md ops = true) (hr : Region.ready md ops L = []) : ∀ i, i < ops.size → L.getD i false = true := by
  intro i
  induction i using Nat.strongRecOn with
  | _ i ih =>
    intro hi
    cases e : L.getD i false with
    | true => rfl
    | false =>
      have hmem : i ∈ Region.ready md ops L := mem_ready.2 ⟨by rw [getD_both (by omega), e], ops[i], Array.getElem?_eq_getElem hi, fun x hx hb => by
        have h := List.all_eq_true.1 hlow i (List.mem_range.2 hi)
        rw [Array.getElem?_eq_getElem hi] at h
        have h2 := Array.all_eq_true_iff_forall_mem.1 h x hx
        rw [hb] at h2
        have h3 : x.on < i := by simpa using h2
        exact ih x.on h3 (by omega)⟩
      rw [hr] at hmem
      cases hmem
theorem wpAny_each (a0 : Act) (J : (Nat → Bool) → (Nat → Value) → World → Prop) (hD : apartB ops = true) (hlow : lowB md ops = true) (hdoes : ∀ i, i < ops.size → Does P md ops Q a0 J i)
    (fin : ∀ l v w, J l v w → (∀ i, i < ops.size → l i = true) → Q .normal (puts ops a0 l v ops.size) w) : ∀ n L v w, L.size = ops.size → un ops.size (fun j => L.getD j false) = n → J (fun j => L.getD j false) v w →
    wpAny P md ops Q n L (puts ops a0 (fun j => L.getD j false) v ops.size) w
  | 0, L, v, w, hs, hn, hJ => by
    have hall := un_zero _ _ hn
    refine ⟨?_, fin _ v w hJ hall⟩
    cases hr : Region.ready md ops L with
    | nil => rfl
    | cons i r =>
      have hm : i ∈ Region.ready md ops L := by rw [hr]; exact mS
      obtain ⟨h0, o, ho, _⟩ := mem_ready.1 hm
      have hi : i < ops.size := (Array.getElem?_eq_some_iff.1 ho).1
      rw [getD_both (by omega)] at h0
      have := hall i hi
      rw [h0] at this
      cases this
  | n + 1, L, v, w, hs, hn, hJ => by
    refine ⟨fun hr => fin _ v w hJ (all_listed hs hlow hr), fun i hi => ?_⟩
    obtain ⟨h0, o, ho, hp⟩ := mem_ready.1 hi
    have hlt : i < ops.size := (Array.getElem?_eq_some_iff.1 ho).1
    rw [getD_both (by omega)] at h0
    refine wpOp_mono (fun a' w' h => ?_) (hdoes i hlt o ho (fun j => L.getD j false) v w hJ h0 hp)
    obtain ⟨x, rfl, hJ'⟩ := h
    have hd : o.dst = dstOf ops i := by unfold dstOf; rw [ho]; rfl
    rw [hd, puts_put hD a0 _ v i x h0 ops.size hlt, ← set_ub L i (by omega)]
    refine wpAny_each a0 J hD hlow hdoes fin n _ _ w' (by simp [hs]) ?_ ?_
    · rw [set_ub L i (by omega)]
      have := un_ub (fun j => L.getD j false) i h0 ops.size hlt
      omega
    · rw [set_ub L i (by omega)]
      exact hJ'
def putL (a : Act) (v : Nat → Value) : Nat → List (Option Tmp) → Act
  | _, [] => a
  | i, d :: ds => putL (a.put d (v i)) v (i + 1) ds
theorem putL_snoc (v : Nat → Value) (d : Option Tmp) : ∀ (ds : List (Option Tmp)) (a : Act) (i : Nat), putL a v i (ds ++ [d]) = (putL a v i ds).put d (v (i + ds.length))
  | [], _, _ => rfl
  | e :: ds, a, i => by
    show putL (a.put e (v i)) v (i + 1) (ds ++ [d]) = (putL (a.put e (v i)) v (i + 1) ds).put d (v (i + (ds.length + 1)))
    rw [putL_snoc v d ds, show i + 1 + ds.length = i + (ds.length + 1) by omega]
theorem puts_all (a : Act) (l : Nat → Bool) (v : Nat → Value) : ∀ n, (∀ i, i < n → l i = true) → puts ops a l v n = putL a v 0 ((List.range n).map (dstOf ops))
  | 0, _ => rfl
  | n + 1, h => by
    unfold puts
    rw [if_pos (h n (by omega)), puts_all a l v n fun i hi => h i (by omega), List.range_succ, List.map_append]
    show _ = putL a v 0 ((List.range n).map (dstOf ops) ++ [dstOf ops n])
    rw [putL_snoc]
    simp
theorem wp_region_each (J : (Nat → Bool) → (Nat → Value) → World → Prop) (n : Nat) (ds : List (Option Tmp)) {id : Nat} {a : Act} {w : World} (hm : P.follows .mixedOrders = true) (hn : ops.size = n) (hds : (List.range n).map (dstOf ops) = ds) (hD : apartB ops = true) (hlow : lowB .any ops = true)
    (h0 : J (fun _ => false) (fun _ => undef) w.drew) (hdoes : ∀ i, i < n → Does P .any ops Q a J i)
    (fin : ∀ l v w, J l v w → (∀ i, i < n → l i = true) → Q .normal (putL a v 0 ds) w) : (Code.region id ops true).wp P Q a w := by
  subst hn
  refine wp_region_any hm ?_
  have hf : (fun j => (Array.replicate ops.size false).getD j false) = fun _ => false := by
    funext j
    rw [Array.getD_eq_getD_getElem?]
    by_cases e : j < ops.size
    · rw [Array.getElem?_replicate, if_pos e]; rfl
    · rw [Array.getElem?_replicate, if_neg e]; rfl
  have hp : puts ops a (fun _ => false) (fun _ => undef) ops.size = a := by
    have : ∀ n, puts ops a (fun _ => false) (fun _ => undef) n = a := fun n => by
      induction n with
      | zero => rfl
      | succ n ih => unfold puts; rw [if_neg (by decide)]; exact ih
    exact this _
  have hu : un ops.size (fun _ => false) = ops.size := by
    have : ∀ n, un n (fun _ => false) = n := fun n => by
      induction n with
      | zero => rfl
      | succ n ih => unfold un; rw [ih]; rfl
    exact this _
  have h := wpAny_each (Q := Q) a J hD hlow hdoes (fun l v w hJl hl => by
    rw [puts_all a l v ops.size hl, hds]
    exact fin l v w hJl hl) ops.size (Array.replicate ops.size false) (fun _ => undef) w.drew (by simp) (by rw [hf]; exact hu) (by rw [hf]; exact h0)
  rw [hf, hp] at h
  exact h
def waitsB (o : Oper) (j : Nat) : Bool := o.after.any fun e => Region.binds .any e && e.on == j
section
variable {a0 : Act} {J : (Nat → Bool) → (Nat → Value) → World → Prop} {i : Nat} {o : Oper}
theorem does_of (hD : apartB ops = true) (hW : withinB ops a0.tmps.size = true) (hi : ops[i]? = some o)
    (h : ∀ l v w (a : Act), J l v w → l i = false → (∀ j, waitsB o j = true → l j = true) → (∀ j d, dstOf ops j = some d → l j = true → a.eval (.tmp d) = v j) → (∀ d, ((List.range ops.size).all fun j => !(dstOf ops j == some d)) = true → a.eval (.tmp d) = a0.eval (.tmp d)) →
      wpOp P ops Q i (fun a' w' => ∃ x, a' = a.put o.dst x ∧ J (ub l i) (uv v i x) w') a w) : Does P .any ops Q a0 J i := by
  intro o' ho' l v w hJ hl hp
  obtain rfl : o = o' := Option.some.inj (hi.symm.trans ho')
  refine h l v w _ hJ hl (fun j hj => ?_) (fun j d hd hlj => ?_) (fun d hd => ?_)
  · unfold waitsB at hj
    obtain ⟨e, he, hb⟩ := Array.any_eq_true'.1 hj
    rw [Bool.and_eq_true] at hb
    have h1 := hp e he hb.1
    have h2 : e.on = j := by simpa using hb.2
    rw [← h2]
    exact h1
  · have hlt := dst_lt hd
    have hz : d < a0.tmps.size := by
      have h := List.all_eq_true.1 hW j (List.mem_range.2 hlt)
      rw [hd] at h
      simpa using h
    exact puts_at hD a0 l v j d hd hz hlj _ hlt
  · exact puts_old a0 l v d (fun j hj => by
      have h := List.all_eq_true.1 hd j (List.mem_range.2 (dst_lt hj))
      rw [hj] at h
      simp at h) _
theorem skipOp {K : Act → World → Prop} {a : Act} {w w' : World} (hi : ops[i]? = some o) (hg : o.guard = none) (he : (execOp a.eval o).run P w = .ok .skip w') (h : K (a.put o.dst undef) w') : wpOp P ops Q i K a w := by
  have hw : Region.wanted o (yielded ops a.tmps) = true := by unfold Region.wanted; rw [hg]
  unfold wpOp
  simp only [hi, hw, if_true]
  refine .inl ?_
  unfold Oper.wp
  rw [he]
  exact h
theorem does_value (hD : apartB ops = true) (hW : withinB ops a0.tmps.size = true) (hi : ops[i]? = some o) (hg : o.guard = none)
    (h : ∀ l v w (a : Act), J l v w → l i = false → (∀ j, waitsB o j = true → l j = true) → (∀ j d, dstOf ops j = some d → l j = true → a.eval (.tmp d) = v j) → (∀ d, ((List.range ops.size).all fun j => !(dstOf ops j == some d)) = true → a.eval (.tmp d) = a0.eval (.tmp d)) →
      ∃ x w', (execOp a.eval o).run P w = .ok (.value x) w' ∧ J (ub l i) (uv v i x) w') : Does P .any ops Q a0 J i :=
  does_of hD hW hi fun l v w a hJ hl hp hat hold => by
    obtain ⟨x, w', he, hJ'⟩ := h l v w a hJ hl hp hat hold
    exact allocOp hi hg he ⟨x, rfl, hJ'⟩
theorem does_call (hD : apartB ops = true) (hW : withinB ops a0.tmps.size = true) (hi : ops[i]? = some o) (hg : o.guard = none)
    (h : ∀ l v w (a : Act), J l v w → l i = false → (∀ j, waitsB o j = true → l j = true) → (∀ j d, dstOf ops j = some d → l j = true → a.eval (.tmp d) = v j) → (∀ d, ((List.range ops.size).all fun j => !(dstOf ops j == some d)) = true → a.eval (.tmp d) = a0.eval (.tmp d)) →
      ∃ f args R, (execOp a.eval o).run P w = .ok (.enter f args) w ∧ Calls P f args w R ∧ ∀ e w', R e w' → ∃ x, e = .returned x ∧ J (ub l i) (uv v i x) w') : Does P .any ops Q a0 J i :=
  does_of hD hW hi fun l v w a hJ hl hp hat hold => by
    obtain ⟨f, args, R, he, hc, hK⟩ := h l v w a hJ hl hp hat hold
    exact callOp hi hg he hc fun e w' hR => by
      obtain ⟨x, hx, hJ'⟩ := hK e w' hR
      exact ⟨x, hx, x, rfl, hJ'⟩
theorem does_skip (hD : apartB ops = true) (hW : withinB ops a0.tmps.size = true) (hi : ops[i]? = some o) (hg : o.guard = none)
    (h : ∀ l v w (a : Act), J l v w → l i = false → (∀ j, waitsB o j = true → l j = true) → (∀ j d, dstOf ops j = some d → l j = true → a.eval (.tmp d) = v j) → (∀ d, ((List.range ops.size).all fun j => !(dstOf ops j == some d)) = true → a.eval (.tmp d) = a0.eval (.tmp d)) →
      ∃ w', (execOp a.eval o).run P w = .ok .skip w' ∧ J (ub l i) (uv v i undef) w') : Does P .any ops Q a0 J i :=
  does_of hD hW hi fun l v w a hJ hl hp hat hold => by
    obtain ⟨w', he, hJ'⟩ := h l v w a hJ hl hp hat hold
    exact skipOp hi hg he ⟨undef, rfl, hJ'⟩
end
end
end
section
theorem bytes_below (w : World) (e : TypeId) (s : ByteArray) : Below w.heap.size w (Lib.bytesWorld w e s) :=
  ⟨rfl, rfl, rfl, by rw [Lib.bytesWorld_size]; omega, fun j hj => Lib.bytesWorld_at_old w e s j hj⟩
theorem bytes_src (w : World) (e : TypeId) (s : ByteArray) : Src (Lib.bytesWorld w e s) (some ⟨w.heap.size, 0, none⟩) s.size (zs s) := fun j hj => ⟨_, rfl, by
  rw [Addr.add_mid, Nat.zero_add]
  exact Lib.bytesWorld_cell w e s j hj⟩
theorem convStr {P : Program} {o : Oper} {a : Act} {w : World} (t t' e : TypeId) (x : Operand) (s : ByteArray) (ho : o.op = .convert t t' x) (hx : a.eval x = .string s) (ht : P.underlying t = some .string) (hd : P.underlying t' = some (.slice e)) (he : P.underlying e = some (.int .u8)) :
    (execOp a.eval o).run P w = .ok (.value (.slice (some ⟨w.heap.size, 0, none⟩) s.size (grownCap w s.size 0 e))) (Lib.bytesWorld w e s) := by
  unfold execOp
  simp only [ho, hx, Sem.run_bind, Lib.run_convert_string_bytes w t t' e s ht hd he, Sem.run_pure, Result.andThen_ok]
theorem neq_rows {P : Program} (w : World) (t e : TypeId) (n : Nat) (ht : P.underlying t = some (.array n e)) (he : P.underlying e = some (.int .u8)) (hsz : ∀ w, (sizeOf e).run P w = .ok 1 w) (f g : Nat → Int) (hf : In 256 n f) (hg : In 256 n g) :
    (binOp .neq t (.agg (row .u8 n f).toArray) (.agg (row .u8 n g).toArray)).run P w = .ok (.bool (!decide (val 256 f n = val 256 g n))) w := by
  rw [row_bytes n f hf, row_bytes n g hg, run_neq_struct, run_equalIn_bytes w 9998 t e n ht he hsz _ _ (by simp [bytesOf]) (by simp [bytesOf]), bytesOf_inj n f g hf hg]
  rfl
theorem neqV {P : Program} {o : Oper} {a : Act} (n : Nat) (f g : Nat → Int) (t e t' : TypeId) (x y : Operand) (ho : o.op = .binOp .neq t x y t') (hx : a.eval x = .agg (row .u8 n f).toArray) (hy : a.eval y = .agg (row .u8 n g).toArray)
    (ht : P.underlying t = some (.array n e)) (he : P.underlying e = some (.int .u8)) (hsz : ∀ w, (sizeOf e).run P w = .ok 1 w) (hm : P.eqGuardType P.depth t = false) (hf : In 256 n f) (hg : In 256 n g) (r : Bool) (hr : (!decide (val 256 f n = val 256 g n)) = r) (w : World) :
    (execOp a.eval o).run P w = .ok (.value (.bool r)) w := by
  unfold execOp
  simp only [ho, hx, hy, Sem.run_bind, run_eqGuard_agg w .neq t x y _ _ hm, Result.andThen_ok, neq_rows w t e n ht he hsz f g hf hg, Sem.run_pure, hr]
theorem there_grown {w w' : World} {B n : Nat} {r : Option Nat} (h : w.there B 0 n) (g : w.grownBy w' r) (hb : B < w.heap.size) (hne : r ≠ some B) : w'.there B 0 n := fun j hj => by
  have e := g.block B hb (fun e => hne e.symm)
  have := h j hj
  rw [World.cell?_of_block (a := ⟨B, 0 + j, none⟩) e, World.frozen?_of_block (a := ⟨B, 0 + j, none⟩) e]
  exact this
theorem Fb.grown {n w0 B : Nat} {w w' : World} {r : Option Nat} (h : Fb n w0 B w) (g : w.grownBy w' r) (hne : r ≠ some B) : Fb n w0 B w' := ⟨h.lo, Nat.lt_of_lt_of_le h.hi g.size, there_grown h.th g h.hi hne⟩
theorem moveOp {P : Program} {o : Oper} {a : Act} {w : World} (x : Operand) (p : Value) (ho : o.op = .move x) (hx : a.eval x = p) : (execOp a.eval o).run P w = .ok (.value p) w := by
  unfold execOp
  simp only [ho, hx]
  rfl
theorem oneOp {o : Oper} {a : Act} {w : World} (x : Operand) (c : Int) (ho : o.op = .buildSlice 51 1 #[(0, x)]) (hx : a.eval x = .int .u8 c) : (execOp a.eval o).run Tryd.prog w = .ok (.value (.slice (some ⟨w.heap.size, 0, none⟩) 1 1)) (w.alloc (.cells #[.int .u8 c] 5)) := by
  have e : (Instr.buildSlice 51 1 #[(0, .int .u8 c)]).run Tryd.prog w = .ok (.slice (some ⟨w.heap.size, 0, none⟩) 1 1) (w.alloc (.cells #[.int .u8 c] 5)) := by kernel_rfl
  unfold execOp
  simp only [ho, List.map_toArray, List.map_cons, List.map_nil, hx, Sem.run_bind, e, Result.andThen_ok, Sem.run_pure]
theorem enter2 {P : Program} {o : Oper} {a : Act} {w : World} (f : FuncId) (ts : Array TypeId) (x y : Operand) (p q : Value) (ho : o.op = .call { callee := .value (.func f), args := #[x, y], argTypes := ts }) (hx : a.eval x = p) (hy : a.eval y = q) (hc : (callFunc f #[p, q]).run P w = .ok (.enter f #[p, q]) w) : (execOp a.eval o).run P w = .ok (.enter f #[p, q]) w := by
  have hf : a.eval (.func f) = .func (.func f) #[] #[] := rfl
  simp [execOp, ho, resolve, invoke, hx, hy, hf, Deferred.ofValue, hc]
theorem storeRow {P : Program} {o : Oper} {a : Act} {w : World} (k : IntKind) (n : Nat) (f : Nat → Int) (b : Nat) (ty : TypeId) (x y : Operand) (ho : o.op = .store ty x y) (hx : a.eval x = .pointer (some ⟨b, 0, none⟩)) (hy : a.eval y = .agg (row k n f).toArray)
    (ht : w.there b 0 (row k n f).toArray.size) (hz : (P.info? ty).map (·.size) = some (row k n f).toArray.size) : (execOp a.eval o).run P w = .ok .skip (w.setCells b 0 (row k n f)) := by
  unfold execOp
  simp only [ho, hx, hy]
  have e := run_storeAt_mid (P := P) w b 0 ty (row k n f).toArray ht hz (all_oneCell_toArray (row_one k n f))
  simp only [Sem.run_bind, e, Result.andThen_ok, Sem.run_pure]
section
variable {P : Program} {ops : Array Oper} {Q : Exit → Act → World → Prop} {md : Region.Mode} {S : World → Prop}
theorem skipL {o : Oper} {rest : List Oper} {a : Act} {w : World} (hw : Region.wanted o (yielded ops a.tmps) = false) (h : wpList P ops Q rest (a.put o.dst undef) w) : wpList P ops Q (o :: rest) a w := by
  unfold wpList
  rw [if_neg (by rw [hw]; decide)]
  exact h
end
theorem nofalse {C : Prop} (h : true = false) : C := by cases h
end
theorem kcutAll (b : Nat) (w : World) : (Instr.sliceAt 23 (.pointer (some ⟨b, 0, none⟩)) none none none).run Tryd.prog w = .ok (.slice (some ⟨b, 0, none⟩) 32 32) w := by kernel_rfl
structure KE (w : World) (B : Nat) (k : Nat → Int) (il : Nat) (inf : Nat → Int) (m : Nat) (vo vl : Value) (w' : World) : Prop where
  kr : Kr w B [(w.heap.size, .u8, 32, k)] [] w'
  out : Own w' B 5 .u8 (32 * m) (kex k il inf) vo
  last : ∃ ls lc, vl = .slice ls (klen m) lc ∧ (ls = none → lc = 0) ∧ Src w' ls (klen m) (kT k il inf m)
theorem krefExpand_any (k : Nat → Int) (hk : In 256 32 k) (ip : Option Addr) (il ic : Nat) (hil : il ≤ 140737488351232) (hin : ip = none → ic = 0) (inf : Nat → Int) (hif : In 256 il inf) (n : Nat) (hn : n ≤ 8160) (w : World) (hs : Src w ip il inf) :
    Calls Tryd.prog 28 #[(.agg (row .u8 32 (k)).toArray), .slice ip il ic, .int .i64 (n : Int)] w fun e w' => ∃ sp cap, e = .returned (.tuple #[.slice sp n cap, .int .i64 0]) ∧ (n ≤ cap ∧ Src w' sp n (kex k il inf)) ∧ Below w.heap.size w w' := by
  have h1 : ¬ (n : Int) < 0 := by omega
  have h2 : ¬ 8160 < (n : Int) := by omega
  have h2' : ¬ 8161 ≤ (n : Int) := by omega
  have K := Kr.init w
  replace K := K.box .u8 32 k 23 (w.heap.size) rfl
  go_enter Tryd.func28, Tryd.ntmps28
  go_upto_region 3 with fail
  clear h1 h2 h2'
  generalize (w.alloc (.cells (row .u8 32 k).toArray 23)) = w0 at K ⊢
  refine wp_region_list ?_
  refine actL (w' := w0.alloc (.cells #[] 5)) (.slice (some ⟨w0.heap.size, 0, none⟩) 0 0) rfl (by kernel_rfl) ?_
  simp only [aP, lI, l0, lS]
  refine pureL (.slice (some ⟨w0.heap.size, 0, none⟩) 0 0) rfl (fun _ => by kernel_rfl) ?_
  simp only [aP, lI, l0, lS]
  show Exit.then _ _ _ _ _
  go_upto_region 4 with fail
  refine wp_region_list ?_
  refine actL (w' := (w0.alloc (.cells #[] 5)).alloc (.cells #[] 5)) (.slice (some ⟨(w0.alloc (.cells #[] 5)).heap.size, 0, none⟩) 0 0) rfl (by kernel_rfl) ?_
  simp only [aP, lI, l0, lS]
  refine pureL (.slice (some ⟨(w0.alloc (.cells #[] 5)).heap.size, 0, none⟩) 0 0) rfl (fun _ => by kernel_rfl) ?_
  simp only [aP, lI, l0, lS]
  have HE : KE w (w.heap.size + 1) k il inf 0 (.slice (some ⟨w0.heap.size, 0, none⟩) 0 0) (.slice (some ⟨(w0.alloc (.cells #[] 5)).heap.size, 0, none⟩) 0 0) ((w0.alloc (.cells #[] 5)).alloc (.cells #[] 5)) :=
    ⟨(K.call ((Below.refl w0.heap.size w0).alloc (Nat.le_refl _) (.cells #[] 5))).call ((Below.refl _ _).alloc (Nat.le_refl _) (.cells #[] 5)), Own.alloc (Own.lit w0 (w.heap.size + 1) 5 .u8 0 _ K.size (by unfold maxLen; omega)) _, _, _, rfl, fun e => (by cases e), fun j hj => absurd hj (Nat.not_lt_zero j)⟩
  clear K
  generalize (w0.alloc (.cells #[] 5)).alloc (.cells #[] 5) = w1 at HE ⊢
  generalize (Value.slice (some ⟨(w0.alloc (.cells #[] 5)).heap.size, 0, none⟩) 0 0) = vl at HE ⊢
  generalize (Value.slice (some ⟨w0.heap.size, 0, none⟩) 0 0) = vo at HE ⊢
  show Exit.then _ _ _ _ _
  go_wp2
  go_loopw [8, 9, 10] (fun ow lw iw w' => ∃ (m : Nat) (vo vl : Value), 32 * m < n + 32 ∧ vo = ow ∧ vl = lw ∧ iw = .int .i64 ((m + 1 : Nat) : Int) ∧ KE w (w.heap.size + 1) k il inf m vo vl w') (fun _ _ iw _ => 300 - (intOf iw).toNat)
  case atStart => exact ⟨0, _, _, by omega, rfl, rfl, rfl, HE⟩
  case round =>
    clear HE
    obtain ⟨m, vo, vl, hm, rfl, rfl, rfl, HE⟩ := hrel
    obtain ⟨ls, lc, rfl, hln, hls⟩ := HE.last
    obtain ⟨os, oc, rfl, hoc, hos⟩ := HE.out.bytes
    by_cases hlt : 32 * m < n
    · have g1 : ((32 * m : Nat) : Int) < (n : Int) := by omega
      have g1' : 32 * (m : Int) < (n : Int) := by omega
      go_upto_region 8 with fail
      refine wp_region_list ?_
      refine actL (w' := wr.alloc (.cells #[] 5)) (.slice (some ⟨wr.heap.size, 0, none⟩) 0 0) rfl (by kernel_rfl) ?_
      simp only [aP, lI, l0, lS]
      refine pureL (.slice ls (klen m) lc) rfl (fun _ => by kernel_rfl) ?_
      simp only [aP, lI, l0, lS]
      have hb0 := (Below.refl wr.heap.size wr).alloc (Nat.le_refl _) (.cells #[] 5)
      obtain ⟨v1, w2, hr, ho, hg, _⟩ := run_append_Own (P := Tryd.prog) (ty := 51) Tryd.underlying51 one8 (Own.lit wr wr.heap.size 5 .u8 0 (fun _ => 0) (Nat.le_refl _) (by unfold maxLen; omega)) ls (klen m) lc (kT k il inf m) (hls.below hb0 (Nat.le_refl _)) hln (by have := klen_le m; unfold maxLen; omega) (by have := klen_le m; omega) hb0.size
      have hb2 := hb0.grown hg hb0.size (fun b hb => by injection hb with hb; simp only at hb; omega)
      refine actL v1 rfl (appendOp _ _ 51 _ _ _ rfl rfl rfl hr) ?_
      simp only [aP, lI, l0, lS]
      refine pureL (.slice ip il ic) rfl (fun _ => by kernel_rfl) ?_
      simp only [aP, lI, l0, lS]
      replace ho : Own w2 wr.heap.size 5 .u8 (klen m) (kT k il inf m) v1 := by
        rw [Nat.zero_add] at ho
        exact ho.congr fun j _ => by unfold app; rw [if_neg (Nat.not_lt_zero j), Nat.sub_zero]
      clear hr hg
      obtain ⟨v2, w3, hr, ho3, hg, _⟩ := run_append_Own (P := Tryd.prog) (ty := 51) Tryd.underlying51 one8 ho ip il ic inf (hs.below (HE.kr.call hb2).below (Nat.le_refl _)) hin (by have := klen_le m; unfold maxLen; omega) (by have := klen_le m; omega) hb2.size
      have hb3 := hb2.grown hg hb2.size (fun b hb => (World.ownsRow.lt ho b hb).1)
      refine actL v2 rfl (appendOp _ _ 51 _ _ _ rfl rfl rfl hr) ?_
      simp only [aP, lI, l0, lS]
      refine pureL v2 rfl (fun _ => by kernel_rfl) ?_
      simp only [aP, lI, l0, lS]
      clear hr hg ho hb0 hb2
      show Exit.then _ _ _ _ _
      go_upto_region 9 with fail
      refine wp_region_each (fun l v W => Below wr.heap.size wr W ∧ (l 0 = true → v 0 = .slice (some ⟨w.heap.size, 0, none⟩) 32 32) ∧ (l 1 = true → v 1 = v2) ∧ (l 2 = true → v 2 = .int .i64 ((m + 1 : Nat) : Int)) ∧ (l 3 = true → v 3 = .int .u8 ((m + 1 : Nat) : Int)) ∧ (l 4 = true → l 5 = false → ∃ p, v 4 = .slice (some ⟨p, 0, none⟩) 1 1 ∧ Src W (some ⟨p, 0, none⟩) 1 (fun _ => ((m + 1 : Nat) : Int))) ∧ (l 5 = false → Own W wr.heap.size 5 .u8 (klen m + il) (app (kT k il inf m) (klen m) inf) v2) ∧ (l 5 = true → l 6 = false → Own W wr.heap.size 5 .u8 (klen m + il + 1) (ktx il inf m (kT k il inf m)) (v 5)) ∧ (l 6 = true → v 6 = (.agg (row .u8 32 (kT k il inf (m + 1))).toArray)) ∧ (l 7 = true → l 8 = false → ∃ B, v 7 = .pointer (some ⟨B, 0, none⟩) ∧ Fb 32 wr.heap.size B W ∧ (l 5 = false → v2.ownBlock ≠ some B)) ∧ (l 8 = true → l 5 = true ∧ l 7 = true ∧ ∃ B, v 7 = .pointer (some ⟨B, 0, none⟩) ∧ Has W B .u8 32 (kT k il inf (m + 1)) ∧ wr.heap.size ≤ B ∧ B < W.heap.size)) 9 [some 32, some 33, some 34, some 35, some 36, some 37, some 38, some 12, none] (by kernel_rfl) (by kernel_rfl) (by kernel_rfl) (by kernel_rfl) (by kernel_rfl) ?_ ?_ ?_
      · exact ⟨hb3.drew, fun h => nofalse h.symm, fun h => nofalse h.symm, fun h => nofalse h.symm, fun h => nofalse h.symm, fun h _ => nofalse h.symm, fun _ => ho3.drew, fun h _ => nofalse h.symm, fun h => nofalse h.symm, fun h _ => nofalse h.symm, fun h => nofalse h.symm⟩
      · intro i hi
        match i, hi with
        | 0, _ =>
          refine does_value (by kernel_rfl) (by kernel_rfl) rfl rfl ?_
          intro l v W a hJ hl hp hat hold
          obtain ⟨fb, f0, f1, f2, f3, f4, fo, f5, f6, f7, f8⟩ := hJ
          exact ⟨_, W, cutAll _ _ _ _ rfl (hold 3 (by kernel_rfl)) (kcutAll w.heap.size W), ⟨fb, fun _ => rfl, f1, f2, f3, f4, fo, f5, f6, f7, f8⟩⟩
        | 1, _ =>
          refine does_value (by kernel_rfl) (by kernel_rfl) rfl rfl ?_
          intro l v W a hJ hl hp hat hold
          obtain ⟨fb, f0, f1, f2, f3, f4, fo, f5, f6, f7, f8⟩ := hJ
          exact ⟨_, W, moveOp _ _ rfl (hold 11 (by kernel_rfl)), ⟨fb, f0, fun _ => rfl, f2, f3, f4, fo, f5, f6, f7, f8⟩⟩
        | 2, _ =>
          refine does_value (by kernel_rfl) (by kernel_rfl) rfl rfl ?_
          intro l v W a hJ hl hp hat hold
          obtain ⟨fb, f0, f1, f2, f3, f4, fo, f5, f6, f7, f8⟩ := hJ
          exact ⟨_, W, moveOp _ _ rfl (hold 10 (by kernel_rfl)), ⟨fb, f0, f1, fun _ => rfl, f3, f4, fo, f5, f6, f7, f8⟩⟩
        | 3, _ =>
          refine does_value (by kernel_rfl) (by kernel_rfl) rfl rfl ?_
          intro l v W a hJ hl hp hat hold
          obtain ⟨fb, f0, f1, f2, f3, f4, fo, f5, f6, f7, f8⟩ := hJ
          exact ⟨.int .u8 ((m + 1 : Nat) : Int), W, convI .i64 .u8 _ _ _ _ _ rfl (by kernel_rfl) Tryd.underlying5 (by kernel_rfl) ((hat 2 34 rfl (hp 2 (by kernel_rfl))).trans (f2 (hp 2 (by kernel_rfl)))) (by rw [IntKind.wrap_u8]; omega) W, ⟨fb, f0, f1, f2, fun _ => rfl, f4, fo, f5, f6, f7, f8⟩⟩
        | 4, _ =>
          refine does_value (by kernel_rfl) (by kernel_rfl) rfl rfl ?_
          intro l v W a hJ hl hp hat hold
          obtain ⟨fb, f0, f1, f2, f3, f4, fo, f5, f6, f7, f8⟩ := hJ
          have lb := (Below.refl W.heap.size W).alloc (Nat.le_refl _) (.cells #[.int .u8 ((m + 1 : Nat) : Int)] 5)
          exact ⟨_, _, oneOp _ _ rfl ((hat 3 35 rfl (hp 3 (by kernel_rfl))).trans (f3 (hp 3 (by kernel_rfl)))), ⟨fb.trans (lb.mono fb.size), f0, f1, f2, f3, fun _ _ => ⟨W.heap.size, rfl, (Has.new W .u8 1 (fun _ => ((m + 1 : Nat) : Int)) 5 W.heap.size rfl).src0⟩, fun h => (fo h).below lb, fun h g => (f5 h g).below lb, f6, fun h g => (by obtain ⟨B, h1, h2, h3⟩ := f7 h g; exact ⟨B, h1, h2.call lb, h3⟩), fun h => (by obtain ⟨h5, h7, B, h1, h2, h3, h4⟩ := f8 h; exact ⟨h5, h7, B, h1, h2.below lb h4, h3, Nat.lt_of_lt_of_le h4 lb.size⟩)⟩⟩
        | 5, _ =>
          refine does_value (by kernel_rfl) (by kernel_rfl) rfl rfl ?_
          intro l v W a hJ hl hp hat hold
          obtain ⟨fb, f0, f1, f2, f3, f4, fo, f5, f6, f7, f8⟩ := hJ
          obtain ⟨p, hp4, hsp⟩ := f4 (hp 4 (by kernel_rfl)) hl
          obtain ⟨x, w', hr, ho, hgr, _⟩ := run_append_Own (P := Tryd.prog) (ty := 51) Tryd.underlying51 one8 (fo hl) (some ⟨p, 0, none⟩) 1 1 (fun _ => ((m + 1 : Nat) : Int)) hsp (fun e => by cases e) (by have := klen_le m; unfold maxLen; omega) (by have := klen_le m; omega) fb.size
          have hx : Own w' wr.heap.size 5 .u8 (klen m + il + 1) (ktx il inf m (kT k il inf m)) x := ho
          exact ⟨x, w', appendOp _ _ 51 _ _ _ rfl ((hat 1 33 rfl (hp 1 (by kernel_rfl))).trans (f1 (hp 1 (by kernel_rfl)))) ((hat 4 36 rfl (hp 4 (by kernel_rfl))).trans (hp4)) hr, ⟨fb.grown hgr fb.size (fun b hb => (World.ownsRow.lt (fo hl) b hb).1), f0, f1, f2, f3, fun _ g => nofalse g, fun g => nofalse g, fun _ _ => hx, f6, fun h g => (by obtain ⟨B, h1, h2, h3⟩ := f7 h g; exact ⟨B, h1, h2.grown hgr (h3 hl), fun g => nofalse g⟩), fun h => nofalse ((f8 h).1.symm.trans hl)⟩⟩
        | 6, _ =>
          refine does_call (by kernel_rfl) (by kernel_rfl) rfl rfl ?_
          intro l v W a hJ hl hp hat hold
          obtain ⟨fb, f0, f1, f2, f3, f4, fo, f5, f6, f7, f8⟩ := hJ
          have ho := f5 (hp 5 (by kernel_rfl)) hl
          obtain ⟨xs, xc, hxe, hxc, hxs⟩ := ho.bytes
          rw [hxe] at ho
          refine ⟨31, _, _, enter2 31 _ _ _ _ _ rfl ((hat 0 32 rfl (hp 0 (by kernel_rfl))).trans (f0 (hp 0 (by kernel_rfl)))) ((hat 5 37 rfl (hp 5 (by kernel_rfl))).trans (hxe)) (by kernel_rfl), refMac_any (some ⟨w.heap.size, 0, none⟩) 32 32 (by decide) (fun e => by cases e) k hk xs (klen m + il + 1) xc (by have := klen_le m; omega) ho.nilCap (ktx il inf m (kT k il inf m)) (ktx_in il inf hif m (by omega) _ (kT_in k il inf 32 m)) W ((HE.kr.get _ _ _ _ mS).src0.below fb (Nat.le_refl _)) hxs, ?_⟩
          rintro e w' ⟨rfl, lb⟩
          exact ⟨_, rfl, ⟨fb.trans (lb.mono fb.size), f0, f1, f2, f3, fun h g => (by obtain ⟨p, h1, h2⟩ := f4 h g; exact ⟨p, h1, h2.below lb (Nat.le_refl _)⟩), fun h => (fo h).below lb, fun _ g => nofalse g, fun _ => rfl, fun h g => (by obtain ⟨B, h1, h2, h3⟩ := f7 h g; exact ⟨B, h1, h2.call lb, h3⟩), fun h => (by obtain ⟨h5, h7, B, h1, h2, h3, h4⟩ := f8 h; exact ⟨h5, h7, B, h1, h2.below lb h4, h3, Nat.lt_of_lt_of_le h4 lb.size⟩)⟩⟩
        | 7, _ =>
          refine does_value (by kernel_rfl) (by kernel_rfl) rfl rfl ?_
          intro l v W a hJ hl hp hat hold
          obtain ⟨fb, f0, f1, f2, f3, f4, fo, f5, f6, f7, f8⟩ := hJ
          have lb := (Below.refl W.heap.size W).alloc (Nat.le_refl _) (.cells zu8_32 23)
          exact ⟨_, W.alloc (.cells zu8_32 23), by kernel_rfl, ⟨fb.trans (lb.mono fb.size), f0, f1, f2, f3, fun h g => (by obtain ⟨p, h1, h2⟩ := f4 h g; exact ⟨p, h1, h2.below lb (Nat.le_refl _)⟩), fun h => (fo h).below lb, fun h g => (f5 h g).below lb, f6, fun _ _ => ⟨W.heap.size, rfl, ⟨fb.size, by simp, (key_zero W _ _ rfl).there⟩, fun g e => by have := (World.ownsRow.lt (fo g) _ e).2; omega⟩, fun h => nofalse ((f8 h).2.1.symm.trans hl)⟩⟩
        | 8, _ =>
          refine does_skip (by kernel_rfl) (by kernel_rfl) rfl rfl ?_
          intro l v W a hJ hl hp hat hold
          obtain ⟨fb, f0, f1, f2, f3, f4, fo, f5, f6, f7, f8⟩ := hJ
          obtain ⟨B, hB, hF, _⟩ := f7 (hp 7 (by kernel_rfl)) hl
          exact ⟨_, storeRow .u8 32 (kT k il inf (m + 1)) B 23 _ _ rfl ((hat 7 12 rfl (hp 7 (by kernel_rfl))).trans (hB)) ((hat 6 38 rfl (hp 6 (by kernel_rfl))).trans (f6 (hp 6 (by kernel_rfl)))) (room_of hF.th) (key_info' _), ⟨below_setAll fb B hF.lo 0 _, f0, f1, f2, f3, fun _ g => nofalse ((hp 5 (by kernel_rfl)).symm.trans g), fun g => nofalse ((hp 5 (by kernel_rfl)).symm.trans g), fun _ g => nofalse ((hp 6 (by kernel_rfl)).symm.trans g), f6, fun _ g => nofalse g, fun _ => ⟨(hp 5 (by kernel_rfl)), (hp 7 (by kernel_rfl)), B, hB, Has.all hF.th .u8 _, hF.lo, by rw [size_setAll]; exact hF.hi⟩⟩⟩
        | _ + 9, h => omega
      · intro l v W hJ hl
        obtain ⟨fb, f0, f1, f2, f3, f4, fo, f5, f6, f7, f8⟩ := hJ
        obtain ⟨q5, q7, T, e7, HT, hT1, hT2⟩ := f8 (hl 8 (by decide))
        simp only [putL, Act.put, List.setIfInBounds_toArray, List.set_cons_zero, List.set_cons_succ]
        rw [f0 (hl 0 (by decide)), f1 (hl 1 (by decide)), f2 (hl 2 (by decide)), f3 (hl 3 (by decide)), f6 (hl 6 (by decide)), e7]
        have hK := HE.kr.call fb
        have hO := HE.out.below fb
        clear HE ho3 hb3 fb f0 f1 f2 f3 f4 fo f5 f6 f7 f8 e7 hos hls
        generalize v 4 = va
        generalize v 5 = vb
        clear q5 q7 hl v l
        show Exit.then _ _ _ _ _
        go_upto_region 10 with fail
        refine wp_region_list ?_
        refine actL (w' := W.alloc (.cells #[] 5)) (.slice (some ⟨W.heap.size, 0, none⟩) 0 0) rfl (by kernel_rfl) ?_
        simp only [aP, lI, l0, lS]
        refine pureL (.slice (some ⟨T, 0, none⟩) 32 32) rfl (fun w' => cutAll _ _ _ _ rfl rfl (kcutAll T w')) ?_
        simp only [aP, lI, l0, lS]
        have hb0 := (Below.refl W.heap.size W).alloc (Nat.le_refl _) (.cells #[] 5)
        obtain ⟨v1, w2, hr, ho, hg, _⟩ := run_append_Own (P := Tryd.prog) (ty := 51) Tryd.underlying51 one8 (Own.lit W W.heap.size 5 .u8 0 (fun _ => 0) (Nat.le_refl _) (by unfold maxLen; omega)) (some ⟨T, 0, none⟩) 32 32 (kT k il inf (m + 1)) (HT.src0.below hb0 (Nat.le_refl _)) (fun e => by cases e) (by unfold maxLen; omega) (by omega) hb0.size
        have hb2 := hb0.grown hg hb0.size (fun b hb => by injection hb with hb; simp only at hb; omega)
        refine actL v1 rfl (appendOp _ _ 51 _ _ _ rfl rfl rfl hr) ?_
        simp only [aP, lI, l0, lS]
        refine pureL v1 rfl (fun _ => by kernel_rfl) ?_
        simp only [aP, lI, l0, lS]
        replace ho : Own w2 W.heap.size 5 .u8 32 (kT k il inf (m + 1)) v1 := by
          rw [Nat.zero_add] at ho
          exact ho.congr fun j _ => by unfold app; rw [if_neg (Nat.not_lt_zero j), Nat.sub_zero]
        obtain ⟨g, gc, rfl, hg1, hg2, Hg⟩ := ho.has (by decide)
        have hob : ∀ b, Value.ownBlock (.slice os (32 * m) oc) = some b → b < W.heap.size := fun b hb => (World.ownsRow.lt hO b hb).2
        replace hK := hK.call hb2
        replace hO := hO.below hb2
        clear hr hg ho hb0 HT hT1 hT2
        show Exit.then _ _ _ _ _
        go_upto_region 11 with fail
        refine wp_region_list ?_
        refine pureL (.slice os (32 * m) oc) rfl (fun _ => by kernel_rfl) ?_
        simp only [aP, lI, l0, lS]
        refine pureL (.slice (some ⟨g, 0, none⟩) 32 gc) rfl (fun _ => by kernel_rfl) ?_
        simp only [aP, lI, l0, lS]
        obtain ⟨v3, w4, hr, ho, hgr, _⟩ := run_append_Own (P := Tryd.prog) (ty := 51) Tryd.underlying51 one8 hO (some ⟨g, 0, none⟩) 32 gc (kT k il inf (m + 1)) Hg.src0 (fun e => by cases e) (by unfold maxLen; omega) (by omega) hK.size
        refine actL v3 rfl (appendOp _ _ 51 _ _ _ rfl rfl rfl hr) ?_
        simp only [aP, lI, l0, lS]
        refine pureL v3 rfl (fun _ => by kernel_rfl) ?_
        simp only [aP, lI, l0, lS]
        have HS := show Hid _ from (show KE w (w.heap.size + 1) k il inf (m + 1) v3 (.slice (some ⟨g, 0, none⟩) 32 gc) w4 from ⟨hK.grown hgr (fun b hb => (World.ownsRow.lt hO b hb).1), (by
            rw [show 32 * (m + 1) = 32 * m + 32 by omega]
            exact ho.congr fun j hj => by rw [kex_next, if_pos hj]), _, _, rfl, fun e => (by cases e), (Hg.grown hgr hg2 (fun e => by have := hob g e.symm; omega)).src0⟩)
        obtain ⟨os3, oc3, rfl, _, _⟩ := ho.bytes
        clear hr ho hgr hK hO Hg hob hb2
        show Exit.inBlock _ _ _ _ _
        go_wp2
        go_roundw
        case rel => first | exact ⟨m + 1, _, _, by omega, rfl, rfl, by go_num, HS.out⟩ | ((repeat apply Exists.intro); refine ⟨⟨m + 1, _, _, by omega, rfl, rfl, by go_num, HS.out⟩, rfl⟩)
        case measure => simp [intOf]; omega
    · have g1 : ¬ ((32 * m : Nat) : Int) < (n : Int) := by omega
      have g1' : ¬ 32 * (m : Int) < (n : Int) := by omega
      obtain ⟨sp, hcut, hsrc⟩ := cut_hi (P := Tryd.prog) (t := 51) (by kernel_rfl) (fun _ => by kernel_rfl) os (32 * m) oc n (by omega) hoc
      have hB := HE.kr.below
      go_upto_region 12 with fail
      refine wp_region_list ?_
      refine pureL (.slice os (32 * m) oc) rfl (fun _ => by kernel_rfl) ?_
      simp only [aP, lI, l0, lS]
      refine pureL (.int .i64 (n : Int)) rfl (fun _ => by kernel_rfl) ?_
      simp only [aP, lI, l0, lS]
      refine pureL (.slice sp n oc) rfl (fun w => cutHi _ _ _ _ _ _ rfl rfl rfl (hcut w)) ?_
      simp only [aP, lI, l0, lS]
      refine pureL (.slice sp n oc) rfl (fun _ => by kernel_rfl) ?_
      simp only [aP, lI, l0, lS]
      refine pureL (.int .i64 0) rfl (fun _ => by kernel_rfl) ?_
      simp only [aP, lI, l0, lS]
      show Exit.then _ _ _ _ _
      have hS := hsrc _ _ hos
      clear hcut hsrc HE hos hls
      go_wp2
      go_ret2
      exact ⟨sp, oc, rfl, ⟨by omega, hS⟩, hB⟩
theorem knamed_any (k : Nat → Int) (hk : In 256 32 k) (s : ByteArray) (hsz : s.size ≤ 1000) (w : World) :
    Calls Tryd.prog 26 #[(.agg (row .u8 32 (k)).toArray), .string s] w fun e w' => e = .returned (.agg (row .u8 32 (kT k s.size (zs s) 1)).toArray) ∧ Below w.heap.size w w' := by
  have K := Kr.init w
  replace K := K.box .u8 32 k 23 (w.heap.size) rfl
  replace K := K.make 32 zu8_32 23 (w.heap.size + 1) (by simp) (key_zero _ _ _ (by simp)).there
  go_enter Tryd.func26, Tryd.ntmps26
  go_upto_region 1 with fail
  generalize ((w.alloc (.cells (row .u8 32 k).toArray 23)).alloc (.cells zu8_32 23)) = w0 at K ⊢
  refine wp_region_list ?_
  refine rowKL .u8 32 (k) (w.heap.size) 0 23 _ _ rfl rfl rfl Tryd.underlying23 rfl (key_info _) ((K.get _ _ _ _ mS).range) ?_
  simp only [aP, lI, l0, lS]
  refine pureL (.string s) rfl (fun _ => by kernel_rfl) ?_
  simp only [aP, lI, l0, lS]
  refine actL (w' := Lib.bytesWorld w0 5 s) (.slice (some ⟨w0.heap.size, 0, none⟩) s.size (grownCap w0 s.size 0 5)) rfl (convStr 9 51 5 _ s rfl rfl Tryd.underlying9 Tryd.underlying51 Tryd.underlying5) ?_
  simp only [aP, lI, l0, lS]
  have hs := bytes_src w0 5 s
  replace K := K.call (bytes_below w0 5 s)
  generalize Lib.bytesWorld w0 5 s = w1 at K hs ⊢
  generalize grownCap w0 s.size 0 5 = sc
  refine callL rfl (fun _ => by kernel_rfl) (krefExpand_any k hk (some ⟨w0.heap.size, 0, none⟩) s.size sc (by omega) (fun e => by cases e) (zs s) (zs_in s _) 32 (by decide) _ hs) ?_
  rintro e w2 ⟨tp, tc, rfl, ⟨_, hsrc⟩, l⟩
  replace K := K.call l
  clear l hs
  refine ⟨_, rfl, ?_⟩
  simp only [aP, lI, l0, lS]
  refine pureL (.tuple #[.slice tp 32 tc, .int .i64 0]) rfl (fun _ => by kernel_rfl) ?_
  simp only [aP, lI, l0, lS]
  refine pureL (.slice tp 32 tc) rfl (fun _ => by kernel_rfl) ?_
  simp only [aP, lI, l0, lS]
  refine pureL (.int .i64 0) rfl (fun _ => by kernel_rfl) ?_
  simp only [aP, lI, l0, lS]
  refine pureL (.slice tp 32 tc) rfl (fun _ => by kernel_rfl) ?_
  simp only [aP, lI, l0, lS]
  refine pureL (.int .i64 0) rfl (fun _ => by kernel_rfl) ?_
  simp only [aP, lI, l0, lS]
  show Exit.then _ _ _ _ _
  replace hsrc : Src w2 tp 32 (kT k s.size (zs s) 1) := hsrc.congr fun j hj => by rw [kex_part k s.size (zs s) 0 j hj, Nat.mul_zero, Nat.zero_add]
  generalize hGe : kT k s.size (zs s) 1 = GG at hsrc
  go_upto_region 2 with fail
  refine wp_region_list ?_
  refine pureL (.agg (row .u8 32 (fun _ => 0)).toArray) rfl (fun _ => by kernel_rfl) ?_
  simp only [aP, lI, l0, lS]
  refine allocL zu8_32 23 rfl (fun _ => by kernel_rfl) ?_
  simp only [aP, lI, l0, lS]
  refine storesL .u8 32 (fun _ => 0) w2.heap.size 23 _ _ rfl rfl rfl rfl (room_of (key_zero _ _ _ rfl).there) (key_info' _) ?_
  simp only [Act.put]
  have K1 := (Kr.init w2).fresh .u8 32 (fun _ => 0) zu8_32 23 (key_zero _ _ _ rfl).there
  generalize ((w2.alloc (.cells zu8_32 23)).setCells w2.heap.size 0 (row .u8 32 (fun _ => 0))) = w3 at K1 ⊢
  show Exit.then _ _ _ _ _
  go_wp2
  go_loopw [8] (fun i w' => ∃ (m : Nat) (f : Nat → Int), m ≤ 32 ∧ i = .int .i64 m ∧ Kr w2 (w2.heap.size + 1) [(w2.heap.size, .u8, 32, f)] [] w' ∧ ∀ j, j < m → f j = GG j) (fun i _ => 32 - (intOf i).toNat)
  case atStart => exact ⟨0, _, by omega, rfl, K1, fun j hj => absurd hj (Nat.not_lt_zero j)⟩
  case round =>
    clear K1
    obtain ⟨m, f, hm, rfl, K1, hf⟩ := hrel
    have g1 : (0 : Int) ≤ (m : Int) := by omega
    by_cases hlt : m < 32
    · have g2 : (m : Int) < 32 := by omega
      obtain ⟨ad, rfl, hc⟩ := (hsrc.below K1.below (Nat.le_refl _)) m hlt
      go_upto_region 6 with fail
      refine wp_region_list ?_
      refine pureL (.int .i64 (m : Int)) rfl (fun _ => by kernel_rfl) ?_
      simp only [aP, lI, l0, lS]
      refine pureL (.slice (some ad) 32 tc) rfl (fun _ => by kernel_rfl) ?_
      simp only [aP, lI, l0, lS]
      refine pureL (.int .i64 (m : Int)) rfl (fun _ => by kernel_rfl) ?_
      simp only [aP, lI, l0, lS]
      refine pureL (.pointer (some (ad.add m))) rfl (fun w => idxSl 51 5 32 tc .i64 ad m _ _ Tryd.underlying51 (fun _ => by kernel_rfl) hlt rfl rfl rfl w) ?_
      simp only [aP, lI, l0, lS]
      refine readL (.int .u8 (GG m)) rfl (loadAny 5 .u8 _ (ad.add m) _ rfl rfl Tryd.underlying5 hc) ?_
      simp only [aP, lI, l0, lS]
      refine pureL (.pointer (some ⟨w2.heap.size, m, none⟩)) rfl (fun w' => bidxK w2.heap.size m hlt w' _ _ rfl rfl rfl) ?_
      simp only [aP, lI, l0, lS]
      refine storeL .u8 (GG m) w2.heap.size m 5 _ _ rfl rfl rfl rfl (by rw [(K1.get _ _ _ _ mS).cell m hlt]; rfl) ((K1.get _ _ _ _ mS).free m hlt) (by kernel_rfl) ?_
      simp only [Act.put]
      replace K1 := K1.setCell [] w2.heap.size .u8 32 f m hlt (GG m) mS (fun _ hp => by cases hp) (fun _ hp => by cases hp) (Nat.le_refl _)
      have HS := show Hid _ from (And.intro K1 (show ∀ j, j < m + 1 → upd f m (GG m) j = GG j from fun j hj => by
        by_cases e : j = m
        · subst e; rw [upd_same]
        · rw [upd_other _ _ _ _ e]; exact hf j (by omega)))
      clear K1 hf hc
      generalize wr.setCell ⟨w2.heap.size, m, none⟩ (.int .u8 (GG m)) = w4 at HS ⊢
      show Exit.inBlock _ _ _ _ _
      go_wp2
      go_roundw
      case rel => first | exact ⟨m + 1, _, by omega, by go_num, HS.out⟩ | ((repeat apply Exists.intro); refine ⟨⟨m + 1, _, by omega, by go_num, HS.out⟩, rfl⟩)
      case measure => simp [intOf]; omega
    · obtain rfl : m = 32 := by omega
      replace K := K.call K1.below
      have HR := (K1.get _ _ _ _ mS).congr (g := GG) hf
      have hz' := (K.room _ mS).1
      have hB := (K.fill _ _ mS (row .u8 32 GG)).below
      clear K K1 hf hlt hm g1 hsrc
      go_wp2_with (first | (refine wpList_load_mid rfl 23 _ rfl (w2.heap.size) 0 rfl (row .u8 32 (GG)) _ (Has.range (HR)) Tryd.underlying23 rfl (key_info _) ?_) | (refine wpList_store_mid rfl 23 _ _ rfl (w.heap.size + 1) 0 (row .u8 32 GG).toArray rfl rfl (room_of hz') (key_info' _) (all_oneCell_toArray (row_one _ _ _)) ?_))
      exact bodyPost_ret (v := (.agg (row .u8 32 (GG)).toArray)) (results_row Tryd.results26 rfl (Has.all hz' .u8 GG).range Tryd.underlying23 rfl (key_info GG)) rfl ⟨by first | rfl | rw [hGe] | (rw [← hGe]; done), hB⟩
theorem krefLater_any (k : Nat → Int) (hk : In 256 32 k) (w : World) :
    Calls Tryd.prog 22 #[(.agg (row .u8 32 (k)).toArray)] w fun e w' => e = .returned (.agg (row .u8 32 (kT k 12 (zs sLater) 1)).toArray) ∧ Below w.heap.size w w' := by
  have K := Kr.init w
  replace K := K.box .u8 32 k 23 (w.heap.size) rfl
  replace K := K.make 32 zu8_32 23 (w.heap.size + 1) (by simp) (key_zero _ _ _ (by simp)).there
  go_enter Tryd.func22, Tryd.ntmps22
  go_upto_region 1 with fail
  generalize ((w.alloc (.cells (row .u8 32 k).toArray 23)).alloc (.cells zu8_32 23)) = w0 at K ⊢
  refine wp_region_list ?_
  refine rowKL .u8 32 (k) (w.heap.size) 0 23 _ _ rfl rfl rfl Tryd.underlying23 rfl (key_info _) ((K.get _ _ _ _ mS).range) ?_
  simp only [aP, lI, l0, lS]
  refine callL rfl (fun _ => by kernel_rfl) (knamed_any k hk sLater (by decide) _) ?_
  rintro e w1 ⟨rfl, l⟩
  replace K := K.call l
  clear l
  refine ⟨_, rfl, ?_⟩
  rw [show sLater.size = 12 from rfl]
  simp only [aP, lI, l0, lS]
  have hz' := (K.room _ mS).1
  refine storesL .u8 32 (kT k 12 (zs sLater) 1) (w.heap.size + 1) 23 _ _ rfl rfl rfl rfl (room_of hz') (key_info' _) ?_
  simp only [Act.put]
  have hB := (K.fill _ _ mS (row .u8 32 (kT k 12 (zs sLater) 1))).below
  clear K
  generalize hGe : kT k 12 (zs sLater) 1 = G at *
  show Exit.then _ _ _ _ _
  go_wp2
  exact bodyPost_ret (v := (.agg (row .u8 32 (G)).toArray)) (results_row Tryd.results22 rfl (Has.all hz' .u8 G).range Tryd.underlying23 rfl (key_info G)) rfl ⟨by first | rfl | rw [hGe] | (rw [← hGe]; done), hB⟩
theorem krefOf_any (k : Nat → Int) (hk : In 256 32 k) (w : World) :
    Calls Tryd.prog 23 #[(.agg (row .u8 32 (k)).toArray)] w fun e w' => e = .returned (.agg (row .u8 32 (kT k 10 (zs sKey) 1)).toArray) ∧ Below w.heap.size w w' := by
  have K := Kr.init w
  replace K := K.box .u8 32 k 23 (w.heap.size) rfl
  replace K := K.make 32 zu8_32 23 (w.heap.size + 1) (by simp) (key_zero _ _ _ (by simp)).there
  go_enter Tryd.func23, Tryd.ntmps23
  go_upto_region 1 with fail
  generalize ((w.alloc (.cells (row .u8 32 k).toArray 23)).alloc (.cells zu8_32 23)) = w0 at K ⊢
  refine wp_region_list ?_
  refine rowKL .u8 32 (k) (w.heap.size) 0 23 _ _ rfl rfl rfl Tryd.underlying23 rfl (key_info _) ((K.get _ _ _ _ mS).range) ?_
  simp only [aP, lI, l0, lS]
  refine callL rfl (fun _ => by kernel_rfl) (knamed_any k hk sKey (by decide) _) ?_
  rintro e w1 ⟨rfl, l⟩
  replace K := K.call l
  clear l
  refine ⟨_, rfl, ?_⟩
  rw [show sKey.size = 10 from rfl]
  simp only [aP, lI, l0, lS]
  have hz' := (K.room _ mS).1
  refine storesL .u8 32 (kT k 10 (zs sKey) 1) (w.heap.size + 1) 23 _ _ rfl rfl rfl rfl (room_of hz') (key_info' _) ?_
  simp only [Act.put]
  have hB := (K.fill _ _ mS (row .u8 32 (kT k 10 (zs sKey) 1))).below
  clear K
  generalize hGe : kT k 10 (zs sKey) 1 = G at *
  show Exit.then _ _ _ _ _
  go_wp2
  exact bodyPost_ret (v := (.agg (row .u8 32 (G)).toArray)) (results_row Tryd.results23 rfl (Has.all hz' .u8 G).range Tryd.underlying23 rfl (key_info G)) rfl ⟨by first | rfl | rw [hGe] | (rw [← hGe]; done), hB⟩
def ylt (k : Nat → Int) : Nat → Int := kT k 12 (zs sLater) 1
def yof (k : Nat → Int) : Nat → Int := kT k 10 (zs sKey) 1
structure Kys where
  e : Int
  now : Nat → Int
  last : Nat → Int
  has : Bool
def ynew (r : Nat → Int) : Kys := ⟨0, r, fun _ => 0, false⟩
def yat (r : Nat → Int) (n : Int) : Kys := ⟨max 0 (min n 65535), r, fun _ => 0, false⟩
def ykK (k : Kys) (n : Int) : Nat → Int := if n = k.e then yof k.now else if n = k.e - 1 ∧ k.has = true then yof k.last else fun _ => 0
def ykE (k : Kys) (n : Int) : Int := if n = k.e then 0 else if n = k.e - 1 ∧ k.has = true then 0 else 150
def ynK (k : Kys) : Nat → Int := if 65535 ≤ k.e then fun _ => 0 else yof (ylt k.now)
def ynE (k : Kys) : Int := if 65535 ≤ k.e then 6 else 0
def yad (k : Kys) : Kys := if 65535 ≤ k.e then k else ⟨k.e + 1, ylt k.now, k.now, true⟩
structure KysW (k : Kys) : Prop where
  lo : 0 ≤ k.e
  hi : k.e ≤ 65535
  now : In 256 32 k.now
  last : In 256 32 k.last
theorem in_zero32 : In 256 32 (fun _ => 0) := fun _ _ => ⟨Int.le_refl _, show (0 : Int) < 256 by decide⟩
theorem ynew_w {r : Nat → Int} (h : In 256 32 r) : KysW (ynew r) := ⟨Int.le_refl 0, show (0 : Int) ≤ 65535 by decide, h, in_zero32⟩
theorem ykK_now {k : Kys} {n : Int} (h : n = k.e) : ykK k n = yof k.now := if_pos h
theorem ykE_now {k : Kys} {n : Int} (h : n = k.e) : ykE k n = 0 := if_pos h
theorem ykK_last {k : Kys} {n : Int} (h : n = k.e - 1) (h2 : k.has = true) : ykK k n = yof k.last := by unfold ykK; rw [if_neg (by omega), if_pos ⟨h, h2⟩]
theorem ykE_last {k : Kys} {n : Int} (h : n = k.e - 1) (h2 : k.has = true) : ykE k n = 0 := by unfold ykE; rw [if_neg (by omega), if_pos ⟨h, h2⟩]
theorem ykK_none {k : Kys} {n : Int} (h : ¬ n = k.e) (h2 : ¬ (n = k.e - 1 ∧ k.has = true)) : ykK k n = fun _ => 0 := by unfold ykK; rw [if_neg h, if_neg h2]
theorem ykE_none {k : Kys} {n : Int} (h : ¬ n = k.e) (h2 : ¬ (n = k.e - 1 ∧ k.has = true)) : ykE k n = 150 := by unfold ykE; rw [if_neg h, if_neg h2]
theorem yad_end {k : Kys} (h : 65535 ≤ k.e) : yad k = k := if_pos h
theorem yad_on {k : Kys} (h : ¬ 65535 ≤ k.e) : yad k = ⟨k.e + 1, ylt k.now, k.now, true⟩ := if_neg h
def yon : Nat → Kys → Kys
  | 0, k => k
  | n + 1, k => yad (yon n k)
theorem yon_e {k : Kys} (h0 : k.e = 0) : ∀ n : Nat, n ≤ 65535 → (yon n k).e = n
  | 0, _ => h0
  | n + 1, h => by
    have ih := yon_e h0 n (by omega)
    show (yad (yon n k)).e = _
    rw [yad_on (by omega)]
    show (yon n k).e + 1 = _
    omega
section
section
variable {P : Program} {ops : Array Oper} {Q : Exit → Act → World → Prop} {md : Region.Mode} {S : World → Prop}
theorem mayL {o : Oper} {rest : List Oper} {a : Act} {w : World} (c : Bool) (v x : Value) (hc : Region.wanted o (yielded ops a.tmps) = c) (hx : x = (bif c then v else undef)) (hv : c = true → (execOp a.eval o).run P w = .ok (.value v) w)
    (h : wpList P ops Q rest (a.put o.dst x) w) : wpList P ops Q (o :: rest) a w := by
  subst hx
  unfold wpList
  rw [hc]
  cases c with
  | true =>
    rw [if_pos rfl]
    refine .inl ?_
    unfold Oper.wp
    rw [hv rfl]
    exact h
  | false =>
    rw [if_neg (by decide)]
    exact h
theorem mayH {i : Nat} {oi : Oper} (dst : Option Tmp) (hdst : oi.dst = dst) {fuel : Nat} {listed : Array Bool} {a : Act} {w : World} (c : Bool) (v x : Value) (hi : ops[i]? = some oi) (hc : Region.wanted oi (yielded ops a.tmps) = c) (hx : x = (bif c then v else undef))
    (hv : c = true → ∀ w, S w → (execOp a.eval oi).run P w = .ok (.value v) w)
    (hs : Region.noSelect ops = true) (hf : Region.free md ops listed i = true) (hr : (Region.ready md ops listed).contains i = true)
    (hQ : ∀ c a w, Q (.panic c) (a.put dst x) w → Q (.panic c) a w) (hS : S w)
    (h : wpAnyH P md ops Q S fuel (listed.setIfInBounds i true) (a.put dst x) w) : wpAnyH P md ops Q S (fuel + 1) listed a w := by
  subst hdst
  refine wpAnyH_take hi hs hf hr hQ ?_ hS h
  subst hx
  cases c with
  | true => exact .inl ⟨hc, hv rfl⟩
  | false => exact .inr ⟨hc, rfl⟩
theorem storeAny {o : Oper} {a : Act} {w : World} (v : Value) (b j : Nat) (ty : TypeId) (x y : Operand) (ho : o.op = .store ty x y) (hx : a.eval x = .pointer (some ⟨b, j, none⟩)) (hy : a.eval y = v) (hv : v.cells = #[v]) (h1 : v.oneCell' = true)
    (hc : (w.cell? ⟨b, j, none⟩).isSome = true) (hf : w.frozen? ⟨b, j, none⟩ = false) (hz : (P.info? ty).map (·.size) = some 1) : (execOp a.eval o).run P w = .ok .skip (w.setCell ⟨b, j, none⟩ v) := by
  have h0 : ∀ k : Nat, k < [v].length → k = 0 := fun k hk => by simpa using hk
  have hst := run_storeCells_cells (P := P) b j [v] 0 w (fun k hk => by rw [h0 k hk]; simpa using hc) (fun k hk => by rw [h0 k hk]; simpa using hf) (fun u hu => by simp at hu; subst hu; exact h1)
  cases hq : P.info? ty with
  | none => simp [hq] at hz
  | some i =>
    have hs : i.size = 1 := by simp [hq] at hz; omega
    simp only [Nat.add_zero] at hst
    have e : (storeVar ty ⟨b, j, none⟩ v).run P w = .ok () (w.setCell ⟨b, j, none⟩ v) := by
      simp [storeVar, sizeOf, typeInfo, hq, hv, hs, hst, World.setCells]
    unfold execOp
    simp only [ho, hx, hy, Instr.storeAt, Instr.sureAddr, Sem.run_bind, Sem.run_pure, Result.andThen_ok, e]
theorem skipOpL {o : Oper} {rest : List Oper} {a : Act} {w w' : World} (hw : Region.wanted o (yielded ops a.tmps) = true) (he : (execOp a.eval o).run P w = .ok .skip w') (h : wpList P ops Q rest (a.put o.dst undef) w') : wpList P ops Q (o :: rest) a w := by
  unfold wpList
  rw [if_pos hw]
  refine .inl ?_
  unfold Oper.wp
  rw [he]
  exact h
theorem load1 {o : Oper} {a : Act} {w : World} (ty : TypeId) (x : Operand) (p : Addr) (v : Value) (ho : o.op = .load ty x) (hx : a.eval x = .pointer (some p)) (hagg : ∀ w, (isAgg ty).run P w = .ok false w) (hc : w.cell? p = some v) : (execOp a.eval o).run P w = .ok (.value v) w := by
  have e : (loadVar ty p).run P w = .ok v w := by simp [loadVar, Sem.run_bind, hagg, hc]
  unfold execOp
  simp only [ho, hx, Instr.loadAt, Instr.sureAddr, Sem.run_bind, Sem.run_pure, Result.andThen_ok, e]
theorem loadN {o : Oper} {a : Act} {w : World} (ty : TypeId) (x : Operand) (p : Addr) (cs : List Value) (ho : o.op = .load ty x) (hx : a.eval x = .pointer (some p)) (hagg : ∀ w, (isAgg ty).run P w = .ok true w) (hz : ∀ w, (sizeOf ty).run P w = .ok cs.length w)
    (hc : ∀ j v, cs[j]? = some v → w.cell? (p.add j) = some v) : (execOp a.eval o).run P w = .ok (.value (.agg cs.toArray)) w := by
  have e : (loadVar ty p).run P w = .ok (.agg cs.toArray) w := by simp [loadVar, Sem.run_bind, hagg, hz, run_loadCells_list w p cs hc]
  unfold execOp
  simp only [ho, hx, Instr.loadAt, Instr.sureAddr, Sem.run_bind, Sem.run_pure, Result.andThen_ok, e]
end
structure Mm (w0 : World) (l : List (Nat × List Value)) (w : World) : Prop where
  rows : ∀ p ∈ l, (∀ j, j < p.2.length → w.cell? ⟨p.1, j, none⟩ = p.2[j]? ∧ w.frozen? ⟨p.1, j, none⟩ = false) ∧ w0.heap.size ≤ p.1 ∧ p.1 < w.heap.size
  apart : l.Pairwise fun p q => p.1 ≠ q.1
  below : Below w0.heap.size w0 w
section
variable {w0 w w' : World} {l : List (Nat × List Value)}
theorem Mm.init (w : World) : Mm w [] w := ⟨fun _ h => (by cases h), List.Pairwise.nil, Below.refl _ _⟩
theorem Mm.call (h : Mm w0 l w) (b : Below w.heap.size w w') : Mm w0 l w' :=
  ⟨fun p hp => ⟨fun j hj => by
    have hlt := (h.rows p hp).2.2
    rw [b.cell (p := ⟨p.1, j, none⟩) hlt, b.frozen (p := ⟨p.1, j, none⟩) hlt]
    exact (h.rows p hp).1 j hj, (h.rows p hp).2.1, Nat.lt_of_lt_of_le (h.rows p hp).2.2 b.size⟩, h.apart, h.below.trans (b.mono h.below.size)⟩
theorem Mm.drew (h : Mm w0 l w) : Mm w0 l w.drew := h.call (Below.refl _ _).drew
theorem Mm.sub (h : Mm w0 l w) (l' : List (Nat × List Value)) (hl : l'.Sublist l) : Mm w0 l' w := ⟨fun p hp => h.rows p (hl.subset hp), h.apart.sublist hl, h.below⟩
theorem Mm.box (h : Mm w0 l w) (c : Array Value) (t : TypeId) (b : Nat) (hb : b = w.heap.size) : Mm w0 ((b, c.toList) :: l) (w.alloc (.cells c t)) := by
  subst hb
  have hc := h.call ((Below.refl w.heap.size w).alloc (Nat.le_refl _) (.cells c t))
  refine ⟨fun p hp => ?_, List.pairwise_cons.2 ⟨fun q hq e => ?_, h.apart⟩, hc.below⟩
  · rcases List.mem_cons.1 hp with rfl | hp
    · refine ⟨fun j hj => ⟨?_, World.frozen?_alloc_at _ _ _ _ rfl⟩, h.below.size, by simp⟩
      rw [World.cell?_alloc_at _ _ _ _ rfl]
      simp
    · exact hc.rows p hp
  · have := (h.rows q hq).2.2
    simp only at e
    omega
theorem Mm.get (h : Mm w0 l w) {b : Nat} {cs : List Value} (hp : (b, cs) ∈ l) (j : Nat) (v : Value) (hv : cs[j]? = some v) : w.cell? ⟨b, j, none⟩ = some v := by
  have hj : j < cs.length := by
    rcases Nat.lt_or_ge j cs.length with h' | h'
    · exact h'
    · rw [List.getElem?_eq_none h'] at hv; cases hv
  rw [((h.rows _ hp).1 j hj).1, hv]
theorem Mm.isSome (h : Mm w0 l w) {b : Nat} {cs : List Value} (hp : (b, cs) ∈ l) (j : Nat) (hj : j < cs.length) : (w.cell? ⟨b, j, none⟩).isSome = true := by
  rw [((h.rows _ hp).1 j hj).1, List.getElem?_eq_getElem hj]
  rfl
theorem Mm.free (h : Mm w0 l w) {b : Nat} {cs : List Value} (hp : (b, cs) ∈ l) (j : Nat) (hj : j < cs.length) : w.frozen? ⟨b, j, none⟩ = false := ((h.rows _ hp).1 j hj).2
theorem Mm.rangeAt (h : Mm w0 l w) {b : Nat} {cs : List Value} (hp : (b, cs) ∈ l) : ∀ j v, cs[j]? = some v → w.cell? ((⟨b, 0, none⟩ : Addr).add j) = some v := fun j v hv => by
  rw [Addr.add_mid, Nat.zero_add]
  exact h.get hp j v hv
theorem Mm.part (h : Mm w0 l w) {b : Nat} {cs : List Value} (hp : (b, cs) ∈ l) (o : Nat) (ds : List Value) (hd : (cs.drop o).take ds.length = ds) : ∀ j v, ds[j]? = some v → w.cell? ((⟨b, o, none⟩ : Addr).add j) = some v := fun j v hv => by
  rw [Addr.add_mid]
  refine h.get hp (o + j) v ?_
  have hj : j < ds.length := by
    rcases Nat.lt_or_ge j ds.length with h' | h'
    · exact h'
    · rw [List.getElem?_eq_none h'] at hv; cases hv
  rw [← hd, List.getElem?_take, if_pos hj, List.getElem?_drop] at hv
  exact hv
theorem size_setCell (w : World) (p : Addr) (v : Value) : (w.setCell p v).heap.size = w.heap.size := by simp
theorem Mm.set {b : Nat} {cs : List Value} (h : Mm w0 ((b, cs) :: l) w) (j : Nat) (hj : j < cs.length) (v : Value) : Mm w0 ((b, cs.set j v) :: l) (w.setCell ⟨b, j, none⟩ v) := by
  have hb := h.rows _ mS
  have hne := (List.pairwise_cons.1 h.apart).1
  refine ⟨fun p hp => ?_, List.pairwise_cons.2 ⟨hne, (List.pairwise_cons.1 h.apart).2⟩, below_setAll h.below b hb.2.1 j [v]⟩
  rcases List.mem_cons.1 hp with rfl | hp
  · refine ⟨fun i hi => ⟨?_, by rw [World.frozen?_setCell]; exact (hb.1 i (by simpa using hi)).2⟩, hb.2.1, by rw [size_setCell]; exact hb.2.2⟩
    simp only [List.length_set] at hi
    by_cases e : i = j
    · subst e
      rw [World.cell?_setCell_same' _ _ _ (h.isSome mS i hj), List.getElem?_set_self hj]
    · have e2 := World.cell?_setCell_other (w := w) (v := v) (a := ⟨b, j, none⟩) (b := ⟨b, i, none⟩) (by intro e'; injection e' with _ e'; exact e e'.symm)
      simp only
      rw [e2, List.getElem?_set_ne (Ne.symm e)]
      exact (hb.1 i hi).1
  · have h2 := h.rows p (mT _ hp)
    refine ⟨fun i hi => ⟨?_, by rw [World.frozen?_setCell]; exact (h2.1 i hi).2⟩, h2.2.1, by rw [size_setCell]; exact h2.2.2⟩
    rw [World.cell?_setCell_far _ _ _ _ (hne p hp)]
    exact (h2.1 i hi).1
theorem Mm.swap {p q : Nat × List Value} (h : Mm w0 (p :: q :: l) w) : Mm w0 (q :: p :: l) w := by
  obtain ⟨h1, h2⟩ := List.pairwise_cons.1 h.apart
  obtain ⟨h3, h4⟩ := List.pairwise_cons.1 h2
  refine ⟨fun x hx => h.rows x ?_, List.pairwise_cons.2 ⟨fun x hx => ?_, List.pairwise_cons.2 ⟨fun x hx => h1 x (mT _ hx), h4⟩⟩, h.below⟩
  · rcases List.mem_cons.1 hx with rfl | hx
    · exact mT _ mS
    · rcases List.mem_cons.1 hx with rfl | hx
      · exact mS
      · exact mT _ (mT _ hx)
  · rcases List.mem_cons.1 hx with rfl | hx
    · exact (h1 q mS).symm
    · exact h3 x hx
end
end
section
def i64 (n : Int) : Prop := -9223372036854775808 ≤ n ∧ n < 9223372036854775808
structure Off (X : List Nat) (w w' : World) : Prop where
  size : w.heap.size ≤ w'.heap.size
  blk : ∀ b, b < w.heap.size → b ∉ X → w'.heap[b]? = w.heap[b]?
section
variable {X Y : List Nat} {w w1 w2 : World}
theorem Off.refl (X : List Nat) (w : World) : Off X w w := ⟨Nat.le_refl _, fun _ _ _ => rfl⟩
theorem Off.trans (h : Off X w w1) (g : Off X w1 w2) : Off X w w2 := ⟨Nat.le_trans h.size g.size, fun b hb hX => (g.blk b (Nat.lt_of_lt_of_le hb h.size) hX).trans (h.blk b hb hX)⟩
theorem Off.of_below (l : Below w.heap.size w w1) : Off X w w1 := ⟨l.size, fun b hb _ => l.block b hb⟩
theorem Off.below (h : Off X w w1) (l : Below w1.heap.size w1 w2) : Off X w w2 := h.trans (.of_below l)
theorem Off.set (h : Off X w w1) {b : Nat} (hb : b ∈ X) (j : Nat) (v : Value) : Off X w (w1.setCell ⟨b, j, none⟩ v) :=
  h.trans ⟨by simp, fun c _ hX => by
    have : c ≠ b := fun e => hX (e ▸ hb)
    simp [World.setCell, Array.getElem?_modify, Ne.symm this]⟩
end
section
variable {P : Program}
end
end
theorem Mm.setAll {w0 w : World} {l : List (Nat × List Value)} {b : Nat} {cs : List Value} (h : Mm w0 ((b, cs) :: l) w) (ds : List Value) (hd : ds.length = cs.length) : Mm w0 ((b, ds) :: l) (w.setCells b 0 ds) := by
  have hb := h.rows _ mS
  have hne := (List.pairwise_cons.1 h.apart).1
  have hall : ∀ j, j < ds.length → (w.cell? ⟨b, 0 + j, none⟩).isSome = true := fun j hj => by rw [Nat.zero_add]; exact h.isSome mS j (by omega)
  refine ⟨fun p hp => ?_, List.pairwise_cons.2 ⟨hne, (List.pairwise_cons.1 h.apart).2⟩, below_setAll h.below b hb.2.1 0 ds⟩
  rcases List.mem_cons.1 hp with rfl | hp
  · refine ⟨fun j hj => ⟨?_, by rw [World.frozen?_setCells]; exact (hb.1 j (by have hj' : j < ds.length := hj; show j < cs.length; omega)).2⟩, hb.2.1, by rw [size_setAll]; exact hb.2.2⟩
    simp only at hj ⊢
    have e := World.cell?_setCells_in b ds 0 w hall j hj
    rw [Nat.zero_add] at e
    rw [e, List.getElem?_eq_getElem hj]
  · have h2 := h.rows p (mT _ hp)
    refine ⟨fun j hj => ⟨?_, by rw [World.frozen?_setCells]; exact (h2.1 j hj).2⟩, h2.2.1, by rw [size_setAll]; exact h2.2.2⟩
    rw [World.cell?_setCells_out b ds 0 w ⟨p.1, j, none⟩ (fun e _ => absurd e.symm (hne p hp))]
    exact (h2.1 j hj).1
theorem Off.setAll {X : List Nat} {w w1 : World} (h : Off X w w1) {b : Nat} (hb : b ∈ X) : ∀ (o : Nat) (vs : List Value), Off X w (w1.setCells b o vs)
  | _, [] => h
  | o, v :: vs => (h.set hb o v).setAll hb (o + 1) vs
section
theorem storeP {P : Program} {o : Oper} {a : Act} {w : World} (cs : List Value) (b off : Nat) (ty : TypeId) (x y : Operand) (ho : o.op = .store ty x y) (hx : a.eval x = .pointer (some ⟨b, off, none⟩)) (hy : a.eval y = .agg cs.toArray) (ht : w.there b off cs.toArray.size) (hz : (P.info? ty).map (·.size) = some cs.toArray.size) (h1 : ∀ u ∈ cs, u.oneCell' = true) :
    (execOp a.eval o).run P w = .ok .skip (w.setCells b off cs) := by
  unfold execOp
  simp only [ho, hx, hy]
  have e := run_storeAt_mid (P := P) w b off ty cs.toArray ht hz (all_oneCell_toArray h1)
  simp only [Sem.run_bind, e, Result.andThen_ok, Sem.run_pure]
def setL (cs : List Value) : Nat → List Value → List Value
  | _, [] => cs
  | o, v :: vs => setL (cs.set o v) (o + 1) vs
section
variable {w0 w : World} {l : List (Nat × List Value)} {b : Nat} {cs : List Value}
theorem Mm.thereP (h : Mm w0 l w) (hp : (b, cs) ∈ l) (o n : Nat) (hn : o + n ≤ cs.length) : w.there b o n := fun j hj => ⟨h.isSome hp (o + j) (by omega), h.free hp (o + j) (by omega)⟩
theorem Mm.setPartG : ∀ (ds : List Value) (o : Nat) (cs : List Value) (w : World), o + ds.length ≤ cs.length → Mm w0 ((b, cs) :: l) w → Mm w0 ((b, setL cs o ds) :: l) (w.setCells b o ds)
  | [], _, _, _, _, h => h
  | v :: vs, o, cs, w, hl, h => by
    rw [List.length_cons] at hl
    exact Mm.setPartG vs (o + 1) (cs.set o v) _ (by rw [List.length_set]; omega) (h.set o (by omega) v)
theorem Mm.setPart (h : Mm w0 ((b, cs) :: l) w) (ds : List Value) (o : Nat) (hl : o + ds.length ≤ cs.length) : Mm w0 ((b, setL cs o ds) :: l) (w.setCells b o ds) := Mm.setPartG ds o cs w hl h
theorem Mm.perm {l' : List (Nat × List Value)} (h : Mm w0 l w) (hp : l.Perm l') : Mm w0 l' w :=
  ⟨fun p hq => h.rows p (hp.mem_iff.2 hq), hp.pairwise h.apart (fun e => Ne.symm e), h.below⟩
theorem Mm.rot3 {p q r : Nat × List Value} (h : Mm w0 (p :: q :: r :: l) w) : Mm w0 (r :: p :: q :: l) w :=
  h.perm (((List.Perm.swap r q l).cons p).trans (List.Perm.swap r p (q :: l)))
end
theorem Off.and1 {X : List Nat} {w w1 w2 : World} {b : Nat} (h : Off X w w1) (g : Off [b] w1 w2) (hb : b ∈ X ∨ w.heap.size ≤ b) : Off X w w2 :=
  ⟨Nat.le_trans h.size g.size, fun c hc hX => (g.blk c (Nat.lt_of_lt_of_le hc h.size) (fun e => by
    obtain rfl := List.mem_singleton.1 e
    rcases hb with h' | h'
    · exact hX h'
    · omega)).trans (h.blk c hc hX)⟩
theorem retCellTmp {P : Program} {fn : Func} {tmps : Array Value} {w : World} (t t2 : Tmp) (ty : TypeId) (p : Addr) (cs : List Value) (v : Value) (hr : fn.results = #[.cell t ty, .tmp t2]) (ha : tmps.getD t undef = .pointer (some p)) (hb : tmps.getD t2 undef = v) (hagg : ∀ w, (isAgg ty).run P w = .ok true w) (hz : ∀ w, (sizeOf ty).run P w = .ok cs.length w) (hc : ∀ j v, cs[j]? = some v → w.cell? (p.add j) = some v) :
    (results fn tmps).run P w = .ok (.tuple #[.agg cs.toArray, v]) w := by
  have e : (loadVar ty p).run P w = .ok (.agg cs.toArray) w := by simp [loadVar, Sem.run_bind, hagg, hz, run_loadCells_list w p cs hc]
  rw [Array.getD_eq_getD_getElem?] at ha hb
  simp [results, hr, ha, hb, asAddr, e]
end
def vsz (n : Nat) : Nat := if n < 64 then 1 else if n < 16384 then 2 else if n < 1073741824 then 4 else 8
def tV (z : Nat → Int) : Nat → Int
  | 0 => z 0 % 64
  | i + 1 => tV z i * 256 + z (i + 1)
def tK (b : Int) : Nat := 2 ^ (b / 64).toNat
def tE (len : Nat) (z : Nat → Int) : Int := if len = 0 then 3 else if len < tK (z 0) then 3 else if vsz (tV z (tK (z 0) - 1)).toNat ≠ tK (z 0) then 90 else 0
def tN (len : Nat) (z : Nat → Int) : Int := if tE len z = 0 then tV z (tK (z 0) - 1) else 0
theorem bl_take (b : List Int) (n j : Nat) (h : j < n) : bl (b.take n) j = bl b j := by
  unfold bl
  simp [h]
def nm (b : List Int) : Except Int (Int × List Int) := if tE b.length (bl b) = 0 then .ok (tN b.length (bl b), b.drop (tK (bl b 0))) else .error (tE b.length (bl b))
def MX : Int := 4611686018427387903
def rd : Nat → Int → List Int → Except Int (List (Int × Int) × List Int)
  | 0, _, b => .ok ([], b)
  | n + 1, last, b => match nm b with
    | .error e => .error e
    | .ok (g, b1) => match nm b1 with
      | .error e => .error e
      | .ok (l, b2) => if MX - last < g ∨ MX - last - g < l then .error 100 else match rd n (last + g + l) b2 with
        | .error e => .error e
        | .ok (rs, b3) => .ok ((last + g, last + g + l) :: rs, b3)
def tx (b : List Int) : Except Int (List Int × List Int) := match nm b with
  | .error e => .error e
  | .ok (n, r) => if 128 < n then .error 2 else if (r.length : Int) < n then .error 3 else .ok (r.take n.toNat, r.drop n.toNat)
structure Frm where
  kind : Int
  pos : Int
  lim : Int
  rg : List (Int × Int)
  byt : List Int
  tok : List Int
def z8 : List Int := [0, 0, 0, 0, 0, 0, 0, 0]
def fp (k : Int) (b : List Int) : Except Int (Frm × List Int) :=
  if k = 3 ∨ k = 4 then (if b.length < 8 then .error 3 else .ok (⟨k, 0, 0, [], [], b.take 8⟩, b.drop 8))
  else match nm b with
    | .error e => .error e
    | .ok (a, b1) =>
      if k = 1 then (match tx b1 with
        | .error e => .error e
        | .ok (t, b2) => .ok (⟨k, a, 0, [], t, z8⟩, b2))
      else if k = 2 ∨ k = 7 then (match nm b1 with
        | .error e => .error e
        | .ok (l, b2) => match nm b2 with
          | .error e => .error e
          | .ok (n, b3) => if 8 < n then .error 100 else match rd n.toNat (if k = 2 then a else 0) b3 with
            | .error e => .error e
            | .ok (rs, b4) => .ok (⟨k, a, l, rs, [], z8⟩, b4))
      else .ok (⟨k, a, 0, [], [], z8⟩, b1)
theorem row32 (f : Nat → Int) : (row .u8 32 f).length = 32 := row_length _ _ _
theorem setL_left : ∀ (ds a rest : List Value), ds.length = a.length → setL (a ++ rest) 0 ds = ds ++ rest := by
  have key : ∀ (ds pre a rest : List Value), ds.length = a.length → setL (pre ++ (a ++ rest)) pre.length ds = pre ++ (ds ++ rest) := by
    intro ds
    induction ds with
    | nil =>
      intro pre a rest h
      have : a = [] := List.eq_nil_of_length_eq_zero (by simpa using h.symm)
      subst this
      rfl
    | cons d ds ih =>
      intro pre a rest h
      cases a with
      | nil => cases h
      | cons x a =>
        have h2 : ds.length = a.length := by simpa using h
        have e : (pre ++ (x :: a ++ rest)).set pre.length d = (pre ++ [d]) ++ (a ++ rest) := by simp
        show setL ((pre ++ (x :: a ++ rest)).set pre.length d) (pre.length + 1) ds = _
        rw [e]
        have := ih (pre ++ [d]) a rest h2
        rw [List.length_append] at this
        rw [show pre.length + 1 = pre.length + [d].length from rfl, this]
        simp
  intro ds a rest h
  have := key ds [] a rest h
  simpa using this
theorem setL_pre (pre : List Value) : ∀ (ds l : List Value) (o : Nat), setL (pre ++ l) (pre.length + o) ds = pre ++ setL l o ds
  | [], _, _ => rfl
  | d :: ds, l, o => by
    show setL ((pre ++ l).set (pre.length + o) d) (pre.length + o + 1) ds = pre ++ setL (l.set o d) (o + 1) ds
    rw [List.set_append_right _ _ (by omega), Nat.add_sub_cancel_left, Nat.add_assoc, setL_pre pre ds (l.set o d) (o + 1)]
theorem flat_len (ps : List (List Value)) (ls : List Nat) (h : ps.map List.length = ls) : ps.flatten.length = ls.sum := by subst h; exact List.length_flatten
theorem flat_cut : ∀ (ps : List (List Value)) (i : Nat) (p : List Value), ps[i]? = some p → ∃ pre rest, ps.flatten = pre ++ (p ++ rest) ∧ pre.length = ((ps.map List.length).take i).sum ∧ ∀ ds, (ps.set i ds).flatten = pre ++ (ds ++ rest)
  | [], i, p, h => by cases h
  | q :: ps, 0, p, h => by
    obtain rfl : q = p := by simpa using h
    exact ⟨[], ps.flatten, rfl, rfl, fun _ => rfl⟩
  | q :: ps, i + 1, p, h => by
    obtain ⟨pre, rest, e1, e2, e3⟩ := flat_cut ps i p (by simpa using h)
    refine ⟨q ++ pre, rest, ?_, ?_, fun ds => ?_⟩
    · rw [List.flatten_cons, e1, List.append_assoc]
    · rw [List.length_append, e2]; simp
    · rw [List.set_cons_succ, List.flatten_cons, e3, List.append_assoc]
theorem flat_part (ps : List (List Value)) (ls : List Nat) (h : ps.map List.length = ls) (i o : Nat) (p : List Value) (hp : ps[i]? = some p) (ho : (ls.take i).sum = o) : (ps.flatten.drop o).take p.length = p := by
  subst h ho
  obtain ⟨pre, rest, e1, e2, _⟩ := flat_cut ps i p hp
  rw [e1, List.drop_left' e2, List.take_left]
theorem flat_get (ps : List (List Value)) (ls : List Nat) (h : ps.map List.length = ls) (i o : Nat) (v : Value) (hp : ps[i]? = some [v]) (ho : (ls.take i).sum = o) : ps.flatten[o]? = some v := by
  subst h ho
  obtain ⟨pre, rest, e1, e2, _⟩ := flat_cut ps i [v] hp
  rw [e1, ← e2, List.getElem?_append_right (Nat.le_refl _), Nat.sub_self]
  rfl
theorem flat_set (ps : List (List Value)) (ls : List Nat) (h : ps.map List.length = ls) (i o : Nat) (p ds : List Value) (hp : ps[i]? = some p) (ho : (ls.take i).sum = o) (hd : ds.length = p.length) : setL ps.flatten o ds = (ps.set i ds).flatten := by
  subst h ho
  obtain ⟨pre, rest, e1, e2, e3⟩ := flat_cut ps i p hp
  have := setL_pre pre ds (p ++ rest) 0
  rw [Nat.add_zero, e2, setL_left _ _ _ hd] at this
  rw [e1, this, e3]
theorem flat_set1 (ps : List (List Value)) (ls : List Nat) (h : ps.map List.length = ls) (i o : Nat) (u v : Value) (hp : ps[i]? = some [u]) (ho : (ls.take i).sum = o) : ps.flatten.set o v = (ps.set i [v]).flatten := by
  have := flat_set ps ls h i o [u] [v] hp ho rfl
  exact this
theorem flat_one (ps : List (List Value)) (h : ∀ p ∈ ps, ∀ u ∈ p, u.oneCell' = true) : ∀ u ∈ ps.flatten, u.oneCell' = true := fun u hu => by
  obtain ⟨p, hp, hu⟩ := List.mem_flatten.1 hu
  exact h p hp u hu
section
def SrcI (w : World) (sp : Option Addr) (n : Nat) (f : Nat → Int) : Prop := ∀ j, j < n → ∃ ad, sp = some ad ∧ w.cell? (ad.add j) = some (.int .i64 (f j))
theorem SrcI.below {w w' : World} {sp : Option Addr} {n : Nat} {f : Nat → Int} (h : SrcI w sp n f) {B : Nat} (b : Below B w w') (hB : w.heap.size ≤ B) : SrcI w' sp n f := fun j hj => by
  obtain ⟨ad, e, hc⟩ := h j hj
  exact ⟨ad, e, by rw [b.cell (Nat.lt_of_lt_of_le (World.block_lt_of_cell? w _ hc) hB)]; exact hc⟩
theorem SrcI.at {w : World} {ad : Addr} {n : Nat} {f : Nat → Int} (h : SrcI w (some ad) n f) (j : Nat) (hj : j < n) : w.cell? (ad.add j) = some (.int .i64 (f j)) := by
  obtain ⟨ad', e, hc⟩ := h j hj
  injection e with e
  subst e
  exact hc
section
variable {P : Program} {o : Oper} {a : Act}
theorem maxI (k k' : IntKind) (n n' r : Int) (x y : Operand) (t t' : TypeId) (ho : o.op = .call { callee := .builtin .max, args := #[x, y], argTypes := #[t, t'] }) (hx : a.eval x = .int k n) (hy : a.eval y = .int k' n') (hr : (if n < n' then n' else n) = r) (w : World) : (execOp a.eval o).run P w = .ok (.value (.int k r)) w := by
  simp [execOp, ho, resolve, invoke, builtin, hx, hy, run_max_int2, hr]
end
end
end Go.Proofs.YtckohmdmjhaknaaDoor
