/- Texts of Jo Jl Jb Jc Va Qa Oa Ya Mx, joined. -/
import Derived.Test.YtgfpflcoknpbdaaGreatDoorP4SymmetricPlays
import Derived.Test.YtgfpflcoknpbdaaGreatDoorP3SymmetricPlays
import Derived.Test.YtgfpflcoknpbdaaGreatDoorP11SymmetricPlays
import Derived.Test.YtgfpflcoknpbdaaGreatDoorP6SymmetricPlays
import Derived.Lib.ConvBytes
import Derived.Laws.StructEq
import Derived.Test.YtgfpflcoknpbdaaGreatDoorP1SymmetricPlays
import Derived.Test.YtgfpflcoknpbdaaGreatDoorP10SymmetricPlays
import Derived.Laws.Cells
set_option maxRecDepth 20000
set_option maxHeartbeats 64000000
namespace Go.Proofs.YtgfpflcoknpbdaaGreatDoor
open Go.RowKit
section
def ub (l : Nat → Bool) (i : Nat) : Nat → Bool := fun j => if j = i then true else l j
def uv (v : Nat → Value) (i : Nat) (x : Value) : Nat → Value := fun j => if j = i then x else v j
theorem ub_same (l : Nat → Bool) (i : Nat) : ub l i i = true := if_pos rfl
theorem ub_other (l : Nat → Bool) {i j : Nat} (h : j ≠ i) : ub l i j = l j := if_neg h
theorem uv_same (v : Nat → Value) (i : Nat) (x : Value) : uv v i x i = x := if_pos rfl
theorem uv_other (v : Nat → Value) {i j : Nat} (x : Value) (h : j ≠ i) : uv v i x j = v j := if_neg h
def un : Nat → (Nat → Bool) → Nat
  | 0, _ => 0
  | n + 1, l => un n l + (if l n then 0 else 1)
theorem un_congr {l l' : Nat → Bool} : ∀ n, (∀ j, j < n → l j = l' j) → un n l = un n l'
  | 0, _ => rfl
  | n + 1, h => by
    unfold un
    rw [un_congr n fun j hj => h j (by omega), h n (by omega)]
theorem un_ub (l : Nat → Bool) (i : Nat) (hl : l i = false) : ∀ n, i < n → un n (ub l i) + 1 = un n l
  | 0, h => by omega
  | n + 1, h => by
    unfold un
    by_cases e : n = i
    · subst e
      rw [ub_same, hl, un_congr (l := ub l n) (l' := l) n fun j hj => ub_other l (by omega)]
      rfl
    · rw [ub_other l e, ← un_ub l i hl n (by omega)]
      omega
theorem un_zero (l : Nat → Bool) : ∀ n, un n l = 0 → ∀ i, i < n → l i = true
  | 0, _, i, hi => by omega
  | n + 1, h, i, hi => by
    unfold un at h
    by_cases e : i = n
    · subst e
      cases hli : l i with
      | true => rfl
      | false => rw [hli] at h; simp at h
    · exact un_zero l n (by omega) i (by omega)
section
variable {P : Program} {ops : Array Oper} {Q : Exit → Act → World → Prop} {md : Region.Mode}
def dstOf (ops : Array Oper) (i : Nat) : Option Tmp := (ops[i]?).bind (·.dst)
def puts (ops : Array Oper) (a : Act) (l : Nat → Bool) (v : Nat → Value) : Nat → Act
  | 0 => a
  | n + 1 => if l n = true then (puts ops a l v n).put (dstOf ops n) (v n) else puts ops a l v n
theorem puts_congr (a : Act) {l l' : Nat → Bool} {v v' : Nat → Value} : ∀ n, (∀ j, j < n → l j = l' j ∧ v j = v' j) → puts ops a l v n = puts ops a l' v' n
  | 0, _ => rfl
  | n + 1, h => by
    unfold puts
    rw [puts_congr a n fun j hj => h j (by omega), (h n (by omega)).1, (h n (by omega)).2]
def apartB (ops : Array Oper) : Bool := (List.range ops.size).all fun i => (List.range ops.size).all fun j => i == j || match dstOf ops i with | none => true | some d => !(dstOf ops j == some d)
def withinB (ops : Array Oper) (z : Nat) : Bool := (List.range ops.size).all fun i => match dstOf ops i with | none => true | some d => decide (d < z)
def lowB (md : Region.Mode) (ops : Array Oper) : Bool := (List.range ops.size).all fun i => match ops[i]? with | none => true | some o => o.after.all fun e => !Region.binds md e || decide (e.on < i)
theorem dst_lt {i : Nat} {d : Tmp} (h : dstOf ops i = some d) : i < ops.size := by
  unfold dstOf at h
  rcases Nat.lt_or_ge i ops.size with h' | h'
  · exact h'
  · rw [Array.getElem?_eq_none h'] at h; cases h
theorem dst_apart (hD : apartB ops = true) {i j : Nat} {d : Tmp} (hij : i ≠ j) (hi : dstOf ops i = some d) : dstOf ops j ≠ some d := fun hj => by
  have h := List.all_eq_true.1 (List.all_eq_true.1 hD i (List.mem_range.2 (dst_lt hi))) j (List.mem_range.2 (dst_lt hj))
  rw [hi, hj] at h
  simp [hij] at h
theorem puts_put (hD : apartB ops = true) (a : Act) (l : Nat → Bool) (v : Nat → Value) (i : Nat) (x : Value) (hl : l i = false) : ∀ n, i < n → (puts ops a l v n).put (dstOf ops i) x = puts ops a (ub l i) (uv v i x) n
  | 0, h => by omega
  | n + 1, h => by
    unfold puts
    by_cases e : n = i
    · subst e
      rw [ub_same, hl, uv_same, if_pos rfl, if_neg (by decide), puts_congr (l := ub l n) (l' := l) (v := uv v n x) (v' := v) a n fun j hj => ⟨ub_other l (by omega), uv_other v x (by omega)⟩]
    · rw [ub_other l e, uv_other v x e]
      by_cases hn : l n = true
      · rw [if_pos hn, if_pos hn, ← puts_put hD a l v i x hl n (by omega)]
        exact Act.put_comm _ _ _ fun d hd => dst_apart hD e hd
      · rw [if_neg hn, if_neg hn]
        exact puts_put hD a l v i x hl n (by omega)
theorem put_size (a : Act) (d : Option Tmp) (x : Value) : (a.put d x).tmps.size = a.tmps.size := by
  cases d <;> simp [Act.put]
theorem puts_size (a : Act) (l : Nat → Bool) (v : Nat → Value) : ∀ n, (puts ops a l v n).tmps.size = a.tmps.size
  | 0 => rfl
  | n + 1 => by
    unfold puts
    split
    · rw [put_size, puts_size a l v n]
    · exact puts_size a l v n
theorem put_at (a : Act) (d : Tmp) (x : Value) (h : d < a.tmps.size) : (a.put (some d) x).tmps.getD d undef = x := by
  rw [Array.getD_eq_getD_getElem?]
  simp [Act.put, h]
theorem put_off (a : Act) (e : Option Tmp) (d : Tmp) (x : Value) (h : e ≠ some d) : (a.put e x).tmps.getD d undef = a.tmps.getD d undef := by
  cases e with
  | none => rfl
  | some e =>
    have h' : e ≠ d := fun he => h (by rw [he])
    rw [Array.getD_eq_getD_getElem?, Array.getD_eq_getD_getElem?]
    simp [Act.put, h']
theorem puts_at (hD : apartB ops = true) (a : Act) (l : Nat → Bool) (v : Nat → Value) (j : Nat) (d : Tmp) (hd : dstOf ops j = some d) (hz : d < a.tmps.size) (hl : l j = true) : ∀ n, j < n → (puts ops a l v n).tmps.getD d undef = v j
  | 0, h => by omega
  | n + 1, h => by
    unfold puts
    by_cases e : n = j
    · subst e
      rw [if_pos hl, hd, put_at _ _ _ (by rw [puts_size]; exact hz)]
    · have h1 := puts_at hD a l v j d hd hz hl n (by omega)
      by_cases hn : l n = true
      · rw [if_pos hn, put_off _ _ _ _ (dst_apart hD (Ne.symm e) hd)]
        exact h1
      · rw [if_neg hn]
        exact h1
theorem puts_old (a : Act) (l : Nat → Bool) (v : Nat → Value) (d : Tmp) (hd : ∀ j, dstOf ops j ≠ some d) : ∀ n, (puts ops a l v n).tmps.getD d undef = a.tmps.getD d undef
  | 0 => rfl
  | n + 1 => by
    unfold puts
    by_cases hn : l n = true
    · rw [if_pos hn, put_off _ _ _ _ (hd n)]
      exact puts_old a l v d hd n
    · rw [if_neg hn]
      exact puts_old a l v d hd n
def Does (P : Program) (md : Region.Mode) (ops : Array Oper) (Q : Exit → Act → World → Prop) (a0 : Act) (J : (Nat → Bool) → (Nat → Value) → World → Prop) (i : Nat) : Prop :=
  ∀ o, ops[i]? = some o → ∀ l v w, J l v w → l i = false → (∀ e ∈ o.after, Region.binds md e = true → l e.on = true) →
    wpOp P ops Q i (fun a' w' => ∃ x, a' = (puts ops a0 l v ops.size).put o.dst x ∧ J (ub l i) (uv v i x) w') (puts ops a0 l v ops.size) w
theorem set_ub (L : Array Bool) (i : Nat) (hi : i < L.size) : (fun j => (L.setIfInBounds i true).getD j false) = ub (fun j => L.getD j false) i := by
  funext j
  by_cases e : j = i
  · subst e
    rw [ub_same, Array.getD_eq_getD_getElem?, Array.getElem?_setIfInBounds_self_of_lt hi]
    rfl
  · rw [ub_other _ e, getD_set_ne false (Ne.symm e)]
theorem getD_both {L : Array Bool} {i : Nat} (hi : i < L.size) : L.getD i true = L.getD i false := by
  rw [Array.getD_eq_getD_getElem?, Array.getD_eq_getD_getElem?, Array.getElem?_eq_getElem hi]
  rfl
theorem all_listed {L : Array Bool} (hs : L.size = ops.size) (hlow : lowB md ops = true) (hr : Region.ready md ops L = []) : ∀ i, i < ops.size → L.getD i false = true := by
  intro i
  induction i using Nat.strongRecOn with
  | _ i ih =>
    intro hi
    cases e : L.getD i false with
    | true => rfl
    | false =>
      have hmem : i ∈ Region.ready md ops L := mem_ready.2 ⟨by rw [getD_both (by omega), e], ops[i], Array.getElem?_eq_getElem hi, fun x hx hb => by
        have h := List.all_eq_true.1 hlow i (List.mem_range.2 hi)
        rw [Array.getElem?_eq_getElem hi] at h
        have h2 := Array.all_eq_true_iff_forall_mem.1 h x hx
        rw [hb] at h2
        have h3 : x.on < i := by simpa using h2
        exact ih x.on h3 (by omega)⟩
      rw [hr] at hmem
      cases hmem
theorem wpAny_each (a0 : Act) (J : (Nat → Bool) → (Nat → Value) → World → Prop) (hD : apartB ops = true) (hlow : lowB md ops = true) (hdoes : ∀ i, i < ops.size → Does P md ops Q a0 J i)
    (fin : ∀ l v w, J l v w → (∀ i, i < ops.size → l i = true) → Q .normal (puts ops a0 l v ops.size) w) : ∀ n L v w, L.size = ops.size → un ops.size (fun j => L.getD j false) = n → J (fun j => L.getD j false) v w →
    wpAny P md ops Q n L (puts ops a0 (fun j => L.getD j false) v ops.size) w
  | 0, L, v, w, hs, hn, hJ => by
    have hall := un_zero _ _ hn
    refine ⟨?_, fin _ v w hJ hall⟩
    cases hr : Region.ready md ops L with
    | nil => rfl
    | cons i r =>
      have hm : i ∈ Region.ready md ops L := by rw [hr]; exact mS
      obtain ⟨h0, o, ho, _⟩ := mem_ready.1 hm
      have hi : i < ops.size := (Array.getElem?_eq_some_iff.1 ho).1
      rw [getD_both (by omega)] at h0
      have := hall i hi
      rw [h0] at this
      cases this
  | n + 1, L, v, w, hs, hn, hJ => by
    refine ⟨fun hr => fin _ v w hJ (all_listed hs hlow hr), fun i hi => ?_⟩
    obtain ⟨h0, o, ho, hp⟩ := mem_ready.1 hi
    have hlt : i < ops.size := (Array.getElem?_eq_some_iff.1 ho).1
    rw [getD_both (by omega)] at h0
    refine wpOp_mono (fun a' w' h => ?_) (hdoes i hlt o ho (fun j => L.getD j false) v w hJ h0 hp)
    obtain ⟨x, rfl, hJ'⟩ := h
    have hd : o.dst = dstOf ops i := by unfold dstOf; rw [ho]; rfl
    rw [hd, puts_put hD a0 _ v i x h0 ops.size hlt, ← set_ub L i (by omega)]
    refine wpAny_each a0 J hD hlow hdoes fin n _ _ w' (by simp [hs]) ?_ ?_
    · rw [set_ub L i (by omega)]
      have := un_ub (fun j => L.getD j false) i h0 ops.size hlt
      omega
    · rw [set_ub L i (by omega)]
      exact hJ'
def putL (a : Act) (v : Nat → Value) : Nat → List (Option Tmp) → Act
  | _, [] => a
  | i, d :: ds => putL (a.put d (v i)) v (i + 1) ds
theorem putL_snoc (v : Nat → Value) (d : Option Tmp) : ∀ (ds : List (Option Tmp)) (a : Act) (i : Nat), putL a v i (ds ++ [d]) = (putL a v i ds).put d (v (i + ds.length))
  | [], _, _ => rfl
  | e :: ds, a, i => by
    show putL (a.put e (v i)) v (i + 1) (ds ++ [d]) = (putL (a.put e (v i)) v (i + 1) ds).put d (v (i + (ds.length + 1)))
    rw [putL_snoc v d ds, show i + 1 + ds.length = i + (ds.length + 1) by omega]
theorem puts_all (a : Act) (l : Nat → Bool) (v : Nat → Value) : ∀ n, (∀ i, i < n → l i = true) → puts ops a l v n = putL a v 0 ((List.range n).map (dstOf ops))
  | 0, _ => rfl
  | n + 1, h => by
    unfold puts
    rw [if_pos (h n (by omega)), puts_all a l v n fun i hi => h i (by omega), List.range_succ, List.map_append]
    show _ = putL a v 0 ((List.range n).map (dstOf ops) ++ [dstOf ops n])
    rw [putL_snoc]
    simp
theorem wp_region_each (J : (Nat → Bool) → (Nat → Value) → World → Prop) (n : Nat) (ds : List (Option Tmp)) {id : Nat} {a : Act} {w : World} (hm : P.follows .mixedOrders = true) (hn : ops.size = n) (hds : (List.range n).map (dstOf ops) = ds) (hD : apartB ops = true) (hlow : lowB .any ops = true)
    (h0 : J (fun _ => false) (fun _ => undef) w.drew) (hdoes : ∀ i, i < n → Does P .any ops Q a J i)
    (fin : ∀ l v w, J l v w → (∀ i, i < n → l i = true) → Q .normal (putL a v 0 ds) w) : (Code.region id ops true).wp P Q a w := by
  subst hn
  refine wp_region_any hm ?_
  have hf : (fun j => (Array.replicate ops.size false).getD j false) = fun _ => false := by
    funext j
    rw [Array.getD_eq_getD_getElem?]
    by_cases e : j < ops.size
    · rw [Array.getElem?_replicate, if_pos e]; rfl
    · rw [Array.getElem?_replicate, if_neg e]; rfl
  have hp : puts ops a (fun _ => false) (fun _ => undef) ops.size = a := by
    have : ∀ n, puts ops a (fun _ => false) (fun _ => undef) n = a := fun n => by
      induction n with
      | zero => rfl
      | succ n ih => unfold puts; rw [if_neg (by decide)]; exact ih
    exact this _
  have hu : un ops.size (fun _ => false) = ops.size := by
    have : ∀ n, un n (fun _ => false) = n := fun n => by
      induction n with
      | zero => rfl
      | succ n ih => unfold un; rw [ih]; rfl
    exact this _
  have h := wpAny_each (Q := Q) a J hD hlow hdoes (fun l v w hJl hl => by
    rw [puts_all a l v ops.size hl, hds]
    exact fin l v w hJl hl) ops.size (Array.replicate ops.size false) (fun _ => undef) w.drew (by simp) (by rw [hf]; exact hu) (by rw [hf]; exact h0)
  rw [hf, hp] at h
  exact h
def waitsB (o : Oper) (j : Nat) : Bool := o.after.any fun e => Region.binds .any e && e.on == j
section
variable {a0 : Act} {J : (Nat → Bool) → (Nat → Value) → World → Prop} {i : Nat} {o : Oper}
theorem does_of (hD : apartB ops = true) (hW : withinB ops a0.tmps.size = true) (hi : ops[i]? = some o)
    (h : ∀ l v w (a : Act), J l v w → l i = false → (∀ j, waitsB o j = true → l j = true) → (∀ j d, dstOf ops j = some d → l j = true → a.eval (.tmp d) = v j) → (∀ d, ((List.range ops.size).all fun j => !(dstOf ops j == some d)) = true → a.eval (.tmp d) = a0.eval (.tmp d)) →
      wpOp P ops Q i (fun a' w' => ∃ x, a' = a.put o.dst x ∧ J (ub l i) (uv v i x) w') a w) : Does P .any ops Q a0 J i := by
  intro o' ho' l v w hJ hl hp
  obtain rfl : o = o' := Option.some.inj (hi.symm.trans ho')
  refine h l v w _ hJ hl (fun j hj => ?_) (fun j d hd hlj => ?_) (fun d hd => ?_)
  · unfold waitsB at hj
    obtain ⟨e, he, hb⟩ := Array.any_eq_true'.1 hj
    rw [Bool.and_eq_true] at hb
    have h1 := hp e he hb.1
    have h2 : e.on = j := by simpa using hb.2
    rw [← h2]
    exact h1
  · have hlt := dst_lt hd
    have hz : d < a0.tmps.size := by
      have h := List.all_eq_true.1 hW j (List.mem_range.2 hlt)
      rw [hd] at h
      simpa using h
    exact puts_at hD a0 l v j d hd hz hlj _ hlt
  · exact puts_old a0 l v d (fun j hj => by
      have h := List.all_eq_true.1 hd j (List.mem_range.2 (dst_lt hj))
      rw [hj] at h
      simp at h) _
theorem skipOp {K : Act → World → Prop} {a : Act} {w w' : World} (hi : ops[i]? = some o) (hg : o.guard = none) (he : (execOp a.eval o).run P w = .ok .skip w') (h : K (a.put o.dst undef) w') : wpOp P ops Q i K a w := by
  have hw : Region.wanted o (yielded ops a.tmps) = true := by unfold Region.wanted; rw [hg]
  unfold wpOp
  simp only [hi, hw, if_true]
  refine .inl ?_
  unfold Oper.wp
  rw [he]
  exact h
theorem does_value (hD : apartB ops = true) (hW : withinB ops a0.tmps.size = true) (hi : ops[i]? = some o) (hg : o.guard = none)
    (h : ∀ l v w (a : Act), J l v w → l i = false → (∀ j, waitsB o j = true → l j = true) → (∀ j d, dstOf ops j = some d → l j = true → a.eval (.tmp d) = v j) → (∀ d, ((List.range ops.size).all fun j => !(dstOf ops j == some d)) = true → a.eval (.tmp d) = a0.eval (.tmp d)) →
      ∃ x w', (execOp a.eval o).run P w = .ok (.value x) w' ∧ J (ub l i) (uv v i x) w') : Does P .any ops Q a0 J i :=
  does_of hD hW hi fun l v w a hJ hl hp hat hold => by
    obtain ⟨x, w', he, hJ'⟩ := h l v w a hJ hl hp hat hold
    exact allocOp hi hg he ⟨x, rfl, hJ'⟩
theorem does_call (hD : apartB ops = true) (hW : withinB ops a0.tmps.size = true) (hi : ops[i]? = some o) (hg : o.guard = none)
    (h : ∀ l v w (a : Act), J l v w → l i = false → (∀ j, waitsB o j = true → l j = true) → (∀ j d, dstOf ops j = some d → l j = true → a.eval (.tmp d) = v j) → (∀ d, ((List.range ops.size).all fun j => !(dstOf ops j == some d)) = true → a.eval (.tmp d) = a0.eval (.tmp d)) →
      ∃ f args R, (execOp a.eval o).run P w = .ok (.enter f args) w ∧ Calls P f args w R ∧ ∀ e w', R e w' → ∃ x, e = .returned x ∧ J (ub l i) (uv v i x) w') : Does P .any ops Q a0 J i :=
  does_of hD hW hi fun l v w a hJ hl hp hat hold => by
    obtain ⟨f, args, R, he, hc, hK⟩ := h l v w a hJ hl hp hat hold
    exact callOp hi hg he hc fun e w' hR => by
      obtain ⟨x, hx, hJ'⟩ := hK e w' hR
      exact ⟨x, hx, x, rfl, hJ'⟩
theorem does_skip (hD : apartB ops = true) (hW : withinB ops a0.tmps.size = true) (hi : ops[i]? = some o) (hg : o.guard = none)
    (h : ∀ l v w (a : Act), J l v w → l i = false → (∀ j, waitsB o j = true → l j = true) → (∀ j d, dstOf ops j = some d → l j = true → a.eval (.tmp d) = v j) → (∀ d, ((List.range ops.size).all fun j => !(dstOf ops j == some d)) = true → a.eval (.tmp d) = a0.eval (.tmp d)) →
      ∃ w', (execOp a.eval o).run P w = .ok .skip w' ∧ J (ub l i) (uv v i undef) w') : Does P .any ops Q a0 J i :=
  does_of hD hW hi fun l v w a hJ hl hp hat hold => by
    obtain ⟨w', he, hJ'⟩ := h l v w a hJ hl hp hat hold
    exact skipOp hi hg he ⟨undef, rfl, hJ'⟩
end
end
end
section
theorem results_two {P : Program} {fn : Func} {tmps : Array Value} {w : World} {a b : Tmp} {ty ty' : TypeId} {x y : Nat} {cs cs' : List Value} {d d' : TypeDesc} (hr : fn.results = #[.cell a ty, .cell b ty'])
    (ha : tmps.getD a undef = .pointer (some ⟨x, 0, none⟩)) (hb : tmps.getD b undef = .pointer (some ⟨y, 0, none⟩)) (hc : w.rangeAt x 0 cs) (hc' : w.rangeAt y 0 cs') (hu : P.underlying ty = some d) (hu' : P.underlying ty' = some d') (hd : d.isRow = true) (hd' : d'.isRow = true)
    (hi : (P.info? ty).map (·.size) = some cs.length) (hi' : (P.info? ty').map (·.size) = some cs'.length) :
    (results fn tmps).run P w = .ok (.tuple #[.agg cs.toArray, .agg cs'.toArray]) w := by
  have h1 := run_loadVar_mid (P := P) w x 0 ty cs d hc hu hd hi
  have h2 := run_loadVar_mid (P := P) w y 0 ty' cs' d' hc' hu' hd' hi'
  rw [Array.getD_eq_getD_getElem?] at ha hb
  simp [results, hr, ha, hb, asAddr, h1, h2]
theorem there_grown {w w' : World} {B n : Nat} {r : Option Nat} (h : w.there B 0 n) (g : w.grownBy w' r) (hb : B < w.heap.size) (hne : r ≠ some B) : w'.there B 0 n := fun j hj => by
  have e := g.block B hb (fun e => hne e.symm)
  have := h j hj
  rw [World.cell?_of_block (a := ⟨B, 0 + j, none⟩) e, World.frozen?_of_block (a := ⟨B, 0 + j, none⟩) e]
  exact this
theorem Fb.grown {n w0 B : Nat} {w w' : World} {r : Option Nat} (h : Fb n w0 B w) (g : w.grownBy w' r) (hne : r ≠ some B) : Fb n w0 B w' := ⟨h.lo, Nat.lt_of_lt_of_le h.hi g.size, there_grown h.th g h.hi hne⟩
theorem oneOp {o : Oper} {a : Act} {w : World} (x : Operand) (c : Int) (ho : o.op = .buildSlice 28 1 #[(0, x)]) (hx : a.eval x = .int .u8 c) : (execOp a.eval o).run Tryz.prog w = .ok (.value (.slice (some ⟨w.heap.size, 0, none⟩) 1 1)) (w.alloc (.cells #[.int .u8 c] 5)) := by
  have e : (Instr.buildSlice 28 1 #[(0, .int .u8 c)]).run Tryz.prog w = .ok (.slice (some ⟨w.heap.size, 0, none⟩) 1 1) (w.alloc (.cells #[.int .u8 c] 5)) := by kernel_rfl
  unfold execOp
  simp only [ho, List.map_toArray, List.map_cons, List.map_nil, hx, Sem.run_bind, e, Result.andThen_ok, Sem.run_pure]
theorem enter2 {P : Program} {o : Oper} {a : Act} {w : World} (f : FuncId) (ts : Array TypeId) (x y : Operand) (p q : Value) (ho : o.op = .call { callee := .value (.func f), args := #[x, y], argTypes := ts }) (hx : a.eval x = p) (hy : a.eval y = q) (hc : (callFunc f #[p, q]).run P w = .ok (.enter f #[p, q]) w) : (execOp a.eval o).run P w = .ok (.enter f #[p, q]) w := by
  have hf : a.eval (.func f) = .func (.func f) #[] #[] := rfl
  simp [execOp, ho, resolve, invoke, hx, hy, hf, Deferred.ofValue, hc]
theorem storeRow {P : Program} {o : Oper} {a : Act} {w : World} (k : IntKind) (n : Nat) (f : Nat → Int) (b : Nat) (ty : TypeId) (x y : Operand) (ho : o.op = .store ty x y) (hx : a.eval x = .pointer (some ⟨b, 0, none⟩)) (hy : a.eval y = .agg (row k n f).toArray)
    (ht : w.there b 0 (row k n f).toArray.size) (hz : (P.info? ty).map (·.size) = some (row k n f).toArray.size) : (execOp a.eval o).run P w = .ok .skip (w.setCells b 0 (row k n f)) := by
  unfold execOp
  simp only [ho, hx, hy]
  have e := run_storeAt_mid (P := P) w b 0 ty (row k n f).toArray ht hz (all_oneCell_toArray (row_one k n f))
  simp only [Sem.run_bind, e, Result.andThen_ok, Sem.run_pure]
theorem loadRow {P : Program} {o : Oper} {a : Act} {w : World} (k : IntKind) (n : Nat) (f : Nat → Int) (b : Nat) (ty : TypeId) (x : Operand) (d : TypeDesc) (ho : o.op = .load ty x) (hx : a.eval x = .pointer (some ⟨b, 0, none⟩)) (hu : P.underlying ty = some d) (hd : d.isRow = true) (hz : (P.info? ty).map (·.size) = some (row k n f).length) (hh : w.rangeAt b 0 (row k n f)) :
    (execOp a.eval o).run P w = .ok (.value (.agg (row k n f).toArray)) w := by
  have e := run_loadVar_mid (P := P) w b 0 ty (row k n f) d hh hu hd hz
  unfold execOp
  simp only [ho, hx, Instr.loadAt, Instr.sureAddr, Sem.run_bind, Sem.run_pure, Result.andThen_ok, e]
theorem Src.grown {w w' : World} {p n : Nat} {f : Nat → Int} {r : Option Nat} (h : Src w (some ⟨p, 0, Option.none⟩) n f) (g : w.grownBy w' r) (hp : p < w.heap.size) (hne : r ≠ some p) : Src w' (some ⟨p, 0, Option.none⟩) n f := fun j hj => by
  obtain ⟨ad, e, hc⟩ := h j hj
  injection e with e
  subst e
  refine ⟨_, rfl, ?_⟩
  rw [Addr.add_mid] at hc ⊢
  rw [World.cell?_of_block (a := ⟨p, 0 + j, Option.none⟩) (g.block p hp (fun e => hne e.symm))]
  exact hc
section
variable {P : Program} {ops : Array Oper} {Q : Exit → Act → World → Prop} {md : Region.Mode} {S : World → Prop}
theorem skipL {o : Oper} {rest : List Oper} {a : Act} {w : World} (hw : Region.wanted o (yielded ops a.tmps) = false) (h : wpList P ops Q rest (a.put o.dst undef) w) : wpList P ops Q (o :: rest) a w := by
  unfold wpList
  rw [if_neg (by rw [hw]; decide)]
  exact h
end
theorem nofalse {C : Prop} (h : true = false) : C := by cases h
end
theorem kcutAll (b : Nat) (w : World) : (Instr.sliceAt 38 (.pointer (some ⟨b, 0, none⟩)) none none none).run Tryz.prog w = .ok (.slice (some ⟨b, 0, none⟩) 32 32) w := by kernel_rfl
def kA (k : Nat → Int) (len : Nat) (z : Nat → Int) : Nat → Int := kT (bmac 32 k len z) 0 z0 1
def kB (k : Nat → Int) (len : Nat) (z : Nat → Int) : Nat → Int := kT (bmac 32 k len z) 0 z0 2
theorem krefChain_any (k : Nat → Int) (hk : In 256 32 k) (sp : Option Addr) (len cap : Nat) (hlen : len ≤ 140737488351232) (hn0 : sp = none → cap = 0) (z : Nat → Int) (hz : In 256 len z) (w : World) (hs : Src w sp len z) :
    Calls Tryz.prog 25 #[(.agg (row .u8 32 (k)).toArray), .slice sp len cap] w fun e w' => e = .returned (.tuple #[(.agg (row .u8 32 (kA k len z)).toArray), (.agg (row .u8 32 (kB k len z)).toArray)]) ∧ Below w.heap.size w w' := by
  have K := Kr.init w
  replace K := K.box .u8 32 k 38 (w.heap.size) rfl
  replace K := K.make 32 zu8_32 38 (w.heap.size + 1) (by simp) (key_zero _ _ _ (by simp)).there
  replace K := K.make 32 zu8_32 38 (w.heap.size + 1 + 1) (by simp) (key_zero _ _ _ (by simp)).there
  go_enter Tryz.func25, Tryz.ntmps25
  go_upto_region 1 with fail
  generalize (((w.alloc (.cells (row .u8 32 k).toArray 38)).alloc (.cells zu8_32 38)).alloc (.cells zu8_32 38)) = w0 at K ⊢
  refine wp_region_list ?_
  refine pureL (.slice (some ⟨w.heap.size, 0, none⟩) 32 32) rfl (fun w' => cutAll _ _ _ _ rfl rfl (kcutAll w.heap.size w')) ?_
  simp only [aP, lI, l0, lS]
  refine pureL (.slice sp len cap) rfl (fun _ => by kernel_rfl) ?_
  simp only [aP, lI, l0, lS]
  refine callL rfl (fun _ => by kernel_rfl) (refMac_any (some ⟨w.heap.size, 0, none⟩) 32 32 (by decide) (fun e => by cases e) k hk sp len cap (by omega) hn0 z hz _ (K.get _ _ _ _ mS).src0 (hs.below K.below (Nat.le_refl _))) ?_
  rintro e w1 ⟨rfl, l⟩
  replace K := K.call l
  clear l
  refine ⟨_, rfl, ?_⟩
  simp only [aP, lI, l0, lS]
  refine allocL zu8_32 38 rfl (fun _ => by kernel_rfl) ?_
  simp only [aP, lI, l0, lS]
  refine storesL .u8 32 ((bmac 32 k len z)) w1.heap.size 38 _ _ rfl rfl rfl rfl (room_of (key_zero _ _ _ rfl).there) (key_info' _) ?_
  simp only [Act.put]
  have zT := K.size
  replace K := K.fresh .u8 32 ((bmac 32 k len z)) zu8_32 38 (key_zero _ _ _ rfl).there
  generalize ((w1.alloc (.cells zu8_32 38)).setCells w1.heap.size 0 (row .u8 32 ((bmac 32 k len z)))) = w2 at K ⊢
  generalize w1.heap.size = T at *
  show Exit.then _ _ _ _ _
  go_upto_region 2 with fail
  refine wp_region_list ?_
  refine pureL (.slice (some ⟨T, 0, none⟩) 32 32) rfl (fun w' => cutAll _ _ _ _ rfl rfl (kcutAll T w')) ?_
  simp only [aP, lI, l0, lS]
  refine actL (w' := w2.alloc (.cells #[.int .u8 1] 5)) (.slice (some ⟨w2.heap.size, 0, none⟩) 1 1) rfl (by kernel_rfl) ?_
  simp only [aP, lI, l0, lS]
  have H1 := (Has.new w2 .u8 1 (fun _ => 1) 5 w2.heap.size rfl).src0
  replace K := K.call ((Below.refl w2.heap.size w2).alloc (Nat.le_refl _) (.cells #[.int .u8 1] 5))
  have e1 : In 256 1 (fun _ => (1 : Int)) := fun _ _ => (by decide : (0 : Int) ≤ 1 ∧ (1 : Int) < 256)
  refine callL rfl (fun _ => by kernel_rfl) (refMac_any (some ⟨T, 0, none⟩) 32 32 (by decide) (fun e => by cases e) (bmac 32 k len z) (bmac_in _ _ _ _ _) (some ⟨w2.heap.size, 0, none⟩) 1 1 (by decide) (fun e => by cases e) (fun _ => 1) e1 _ (K.get _ _ _ _ mS).src0 H1) ?_
  rintro e w3 ⟨rfl, l⟩
  replace K := K.call l
  clear l H1 e1
  rw [kT_one _ z0]
  refine ⟨_, rfl, ?_⟩
  simp only [aP, lI, l0, lS]
  refine allocL zu8_32 38 rfl (fun _ => by kernel_rfl) ?_
  simp only [aP, lI, l0, lS]
  refine storesL .u8 32 (kA k len z) w3.heap.size 38 _ _ rfl rfl rfl rfl (room_of (key_zero _ _ _ rfl).there) (key_info' _) ?_
  simp only [Act.put]
  have zA := K.size
  replace K := K.fresh .u8 32 (kA k len z) zu8_32 38 (key_zero _ _ _ rfl).there
  generalize ((w3.alloc (.cells zu8_32 38)).setCells w3.heap.size 0 (row .u8 32 (kA k len z))) = wq at K ⊢
  generalize w3.heap.size = A at *
  show Exit.then _ _ _ _ _
  go_upto_region 3 with fail
  refine wp_region_each (fun l v W => Below wq.heap.size wq W ∧ (l 0 = true → v 0 = .slice (some ⟨T, 0, none⟩) 32 32) ∧ (l 1 = true → l 3 = false → Own W wq.heap.size 5 .u8 0 z0 (v 1)) ∧ (l 2 = true → v 2 = .slice (some ⟨A, 0, none⟩) 32 32) ∧ (l 3 = true → l 5 = false → Own W wq.heap.size 5 .u8 32 (kA k len z) (v 3)) ∧ (l 4 = true → l 5 = false → ∃ p, v 4 = .slice (some ⟨p, 0, none⟩) 1 1 ∧ Src W (some ⟨p, 0, none⟩) 1 (fun _ => 2) ∧ p < W.heap.size ∧ (l 1 = true → l 3 = false → (v 1).ownBlock ≠ some p)) ∧ (l 5 = true → l 3 = true) ∧ (l 5 = true → l 6 = false → Own W wq.heap.size 5 .u8 33 (app (kA k len z) 32 (fun _ => 2)) (v 5)) ∧ (l 6 = true → v 6 = (.agg (row .u8 32 (kB k len z)).toArray)) ∧ (l 7 = true → l 8 = false → ∃ B, v 7 = .pointer (some ⟨B, 0, none⟩) ∧ Fb 32 wq.heap.size B W ∧ (l 1 = true → l 3 = false → (v 1).ownBlock ≠ some B) ∧ (l 3 = true → l 5 = false → (v 3).ownBlock ≠ some B)) ∧ (l 8 = true → (∀ i, i < 8 → l i = true) ∧ ∃ B, v 7 = .pointer (some ⟨B, 0, none⟩) ∧ Has W B .u8 32 (kB k len z) ∧ wq.heap.size ≤ B ∧ B < W.heap.size)) 9 [some 15, some 16, some 17, some 18, some 19, some 20, some 21, some 8, none] (by kernel_rfl) (by kernel_rfl) (by kernel_rfl) (by kernel_rfl) (by kernel_rfl) ?_ ?_ ?_
  · exact ⟨(Below.refl _ _).drew, fun h => nofalse h.symm, fun h _ => nofalse h.symm, fun h => nofalse h.symm, fun h _ => nofalse h.symm, fun h _ => nofalse h.symm, fun h => nofalse h.symm, fun h _ => nofalse h.symm, fun h => nofalse h.symm, fun h _ => nofalse h.symm, fun h => nofalse h.symm⟩
  · intro i hi
    match i, hi with
    | 0, _ =>
      refine does_value (by kernel_rfl) (by kernel_rfl) rfl rfl ?_
      intro l v W a hJ hl hp hat hold
      obtain ⟨fb, f0, f1, f2, f3, f4, q5, f5, f6, f7, f8⟩ := hJ
      exact ⟨_, W, cutAll _ _ _ _ rfl (hold 6 (by kernel_rfl)) (kcutAll T W), ⟨fb, fun _ => rfl, f1, f2, f3, f4, fun h => q5 h, f5, f6, f7, fun h => nofalse (((f8 h).1 0 (by decide)).symm.trans hl)⟩⟩
    | 1, _ =>
      refine does_value (by kernel_rfl) (by kernel_rfl) rfl rfl ?_
      intro l v W a hJ hl hp hat hold
      obtain ⟨fb, f0, f1, f2, f3, f4, q5, f5, f6, f7, f8⟩ := hJ
      have lb := (Below.refl W.heap.size W).alloc (Nat.le_refl _) (.cells #[] 5)
      exact ⟨.slice (some ⟨W.heap.size, 0, none⟩) 0 0, W.alloc (.cells #[] 5), by kernel_rfl, ⟨fb.trans (lb.mono fb.size), f0, fun _ _ => Own.lit W wq.heap.size 5 .u8 0 z0 fb.size (by unfold maxLen; omega), f2, fun h g => (f3 h g).below lb, fun h g => (by obtain ⟨p, h1, h2, h3, _⟩ := f4 h g; exact ⟨p, h1, h2.below lb (Nat.le_refl _), Nat.lt_of_lt_of_le h3 lb.size, fun _ _ e => by injection e with e; simp only at e; omega⟩), fun h => q5 h, fun h g => (f5 h g).below lb, f6, fun h g => (by obtain ⟨B, h1, h2, _, h4⟩ := f7 h g; have hi := h2.hi; exact ⟨B, h1, h2.call lb, fun _ _ e => by injection e with e; simp only at e; omega, h4⟩), fun h => nofalse (((f8 h).1 1 (by decide)).symm.trans hl)⟩⟩
    | 2, _ =>
      refine does_value (by kernel_rfl) (by kernel_rfl) rfl rfl ?_
      intro l v W a hJ hl hp hat hold
      obtain ⟨fb, f0, f1, f2, f3, f4, q5, f5, f6, f7, f8⟩ := hJ
      exact ⟨_, W, cutAll _ _ _ _ rfl (hold 7 (by kernel_rfl)) (kcutAll A W), ⟨fb, f0, f1, fun _ => rfl, f3, f4, fun h => q5 h, f5, f6, f7, fun h => nofalse (((f8 h).1 2 (by decide)).symm.trans hl)⟩⟩
    | 3, _ =>
      refine does_value (by kernel_rfl) (by kernel_rfl) rfl rfl ?_
      intro l v W a hJ hl hp hat hold
      obtain ⟨fb, f0, f1, f2, f3, f4, q5, f5, f6, f7, f8⟩ := hJ
      have ho1 := f1 (hp 1 (by kernel_rfl)) hl
      obtain ⟨x, w', hr, ho, hgr, hob⟩ := run_append_Own (P := Tryz.prog) (ty := 28) Tryz.underlying28 one8 ho1 (some ⟨A, 0, none⟩) 32 32 (kA k len z) ((K.get _ _ _ _ mS).src0.below fb (Nat.le_refl _)) (fun e => by cases e) (by unfold maxLen; omega) (by omega) fb.size
      have hx : Own w' wq.heap.size 5 .u8 32 (kA k len z) x := by
        rw [Nat.zero_add] at ho
        exact ho.congr fun j _ => by unfold app; rw [if_neg (Nat.not_lt_zero j), Nat.sub_zero]
      exact ⟨x, w', appendOp _ _ 28 _ _ _ rfl (hat 1 16 rfl (hp 1 (by kernel_rfl))) ((hat 2 17 rfl (hp 2 (by kernel_rfl))).trans (f2 (hp 2 (by kernel_rfl)))) hr, ⟨fb.grown hgr fb.size (fun b hb => (World.ownsRow.lt ho1 b hb).1), f0, fun _ g => nofalse g, f2, fun _ _ => hx, fun h g => (by obtain ⟨p, h1, h2, h3, h4⟩ := f4 h g; exact ⟨p, h1, h2.grown hgr h3 (h4 (hp 1 (by kernel_rfl)) hl), Nat.lt_of_lt_of_le h3 hgr.size, fun _ g => nofalse g⟩), fun _ => rfl, fun h g => nofalse ((q5 h).symm.trans hl), f6, fun h g => (by obtain ⟨B, h1, h2, h3, _⟩ := f7 h g; exact ⟨B, h1, h2.grown hgr (h3 (hp 1 (by kernel_rfl)) hl), fun _ g => nofalse g, fun _ _ e => by rcases hob B e with e' | e'; exact h3 (hp 1 (by kernel_rfl)) hl e'; have := h2.hi; omega⟩), fun h => nofalse (((f8 h).1 3 (by decide)).symm.trans hl)⟩⟩
    | 4, _ =>
      refine does_value (by kernel_rfl) (by kernel_rfl) rfl rfl ?_
      intro l v W a hJ hl hp hat hold
      obtain ⟨fb, f0, f1, f2, f3, f4, q5, f5, f6, f7, f8⟩ := hJ
      have lb := (Below.refl W.heap.size W).alloc (Nat.le_refl _) (.cells #[.int .u8 2] 5)
      exact ⟨_, _, oneOp _ _ rfl rfl, ⟨fb.trans (lb.mono fb.size), f0, fun h g => (f1 h g).below lb, f2, fun h g => (f3 h g).below lb, fun _ _ => ⟨W.heap.size, rfl, (Has.new W .u8 1 (fun _ => 2) 5 W.heap.size rfl).src0, by simp, fun h g e => by have := (World.ownsRow.lt (f1 h g) _ e).2; omega⟩, fun h => q5 h, fun h g => (f5 h g).below lb, f6, fun h g => (by obtain ⟨B, h1, h2, h3, h4⟩ := f7 h g; exact ⟨B, h1, h2.call lb, h3, h4⟩), fun h => nofalse (((f8 h).1 4 (by decide)).symm.trans hl)⟩⟩
    | 5, _ =>
      refine does_value (by kernel_rfl) (by kernel_rfl) rfl rfl ?_
      intro l v W a hJ hl hp hat hold
      obtain ⟨fb, f0, f1, f2, f3, f4, q5, f5, f6, f7, f8⟩ := hJ
      have ho3 := f3 (hp 3 (by kernel_rfl)) hl
      obtain ⟨p, hp4, hsp, _⟩ := f4 (hp 4 (by kernel_rfl)) hl
      obtain ⟨x, w', hr, hx, hgr, _⟩ := run_append_Own (P := Tryz.prog) (ty := 28) Tryz.underlying28 one8 ho3 (some ⟨p, 0, none⟩) 1 1 (fun _ => 2) hsp (fun e => by cases e) (by unfold maxLen; omega) (by omega) fb.size
      exact ⟨x, w', appendOp _ _ 28 _ _ _ rfl (hat 3 18 rfl (hp 3 (by kernel_rfl))) ((hat 4 19 rfl (hp 4 (by kernel_rfl))).trans (hp4)) hr, ⟨fb.grown hgr fb.size (fun b hb => (World.ownsRow.lt ho3 b hb).1), f0, fun _ g => nofalse ((hp 3 (by kernel_rfl)).symm.trans g), f2, fun _ g => nofalse g, fun _ g => nofalse g, fun _ => (hp 3 (by kernel_rfl)), fun _ _ => hx, f6, fun h g => (by obtain ⟨B, h1, h2, _, h4⟩ := f7 h g; exact ⟨B, h1, h2.grown hgr (h4 (hp 3 (by kernel_rfl)) hl), fun _ g => nofalse ((hp 3 (by kernel_rfl)).symm.trans g), fun _ g => nofalse g⟩), fun h => nofalse (((f8 h).1 5 (by decide)).symm.trans hl)⟩⟩
    | 6, _ =>
      refine does_call (by kernel_rfl) (by kernel_rfl) rfl rfl ?_
      intro l v W a hJ hl hp hat hold
      obtain ⟨fb, f0, f1, f2, f3, f4, q5, f5, f6, f7, f8⟩ := hJ
      have ho := f5 (hp 5 (by kernel_rfl)) hl
      obtain ⟨xs, xc, hxe, hxc, hxs⟩ := ho.bytes
      rw [hxe] at ho
      refine ⟨38, _, _, enter2 38 _ _ _ _ _ rfl ((hat 0 15 rfl (hp 0 (by kernel_rfl))).trans (f0 (hp 0 (by kernel_rfl)))) ((hat 5 20 rfl (hp 5 (by kernel_rfl))).trans (hxe)) (by kernel_rfl), refMac_any (some ⟨T, 0, none⟩) 32 32 (by decide) (fun e => by cases e) (bmac 32 k len z) (bmac_in _ _ _ _ _) xs 33 xc (by decide) ho.nilCap (app (kA k len z) 32 (fun _ => 2)) (app_in 32 1 _ _ (kT_in _ _ _ _ _) (fun _ _ => (by decide : (0 : Int) ≤ 2 ∧ (2 : Int) < 256))) W ((K.get _ _ _ _ (mT _ mS)).src0.below fb (Nat.le_refl _)) hxs, ?_⟩
      rintro e w' ⟨rfl, lb⟩
      exact ⟨_, rfl, ⟨fb.trans (lb.mono fb.size), f0, fun h g => (f1 h g).below lb, f2, fun h g => (f3 h g).below lb, fun h g => (by obtain ⟨p, h1, h2, h3, h4⟩ := f4 h g; exact ⟨p, h1, h2.below lb (Nat.le_refl _), Nat.lt_of_lt_of_le h3 lb.size, h4⟩), q5, fun _ g => nofalse g, fun _ => by show Value.agg _ = Value.agg _; rw [show bmac 32 (bmac 32 k len z) 33 (app (kA k len z) 32 (fun _ => 2)) = kB k len z from kT_two _ z0], fun h g => (by obtain ⟨B, h1, h2, h3, h4⟩ := f7 h g; exact ⟨B, h1, h2.call lb, h3, h4⟩), fun h => nofalse (((f8 h).1 6 (by decide)).symm.trans hl)⟩⟩
    | 7, _ =>
      refine does_value (by kernel_rfl) (by kernel_rfl) rfl rfl ?_
      intro l v W a hJ hl hp hat hold
      obtain ⟨fb, f0, f1, f2, f3, f4, q5, f5, f6, f7, f8⟩ := hJ
      have lb := (Below.refl W.heap.size W).alloc (Nat.le_refl _) (.cells zu8_32 38)
      exact ⟨_, W.alloc (.cells zu8_32 38), by kernel_rfl, ⟨fb.trans (lb.mono fb.size), f0, fun h g => (f1 h g).below lb, f2, fun h g => (f3 h g).below lb, fun h g => (by obtain ⟨p, h1, h2, h3, h4⟩ := f4 h g; exact ⟨p, h1, h2.below lb (Nat.le_refl _), Nat.lt_of_lt_of_le h3 lb.size, h4⟩), q5, fun h g => (f5 h g).below lb, f6, fun _ _ => ⟨W.heap.size, rfl, ⟨fb.size, by simp, (key_zero W _ _ rfl).there⟩, fun h g e => by have := (World.ownsRow.lt (f1 h g) _ e).2; omega, fun h g e => by have := (World.ownsRow.lt (f3 h g) _ e).2; omega⟩, fun h => nofalse (((f8 h).1 7 (by decide)).symm.trans hl)⟩⟩
    | 8, _ =>
      refine does_skip (by kernel_rfl) (by kernel_rfl) rfl rfl ?_
      intro l v W a hJ hl hp hat hold
      obtain ⟨fb, f0, f1, f2, f3, f4, q5, f5, f6, f7, f8⟩ := hJ
      obtain ⟨B, hB, hF, _⟩ := f7 (hp 7 (by kernel_rfl)) hl
      exact ⟨_, storeRow .u8 32 (kB k len z) B 38 _ _ rfl ((hat 7 8 rfl (hp 7 (by kernel_rfl))).trans (hB)) ((hat 6 21 rfl (hp 6 (by kernel_rfl))).trans (f6 (hp 6 (by kernel_rfl)))) (room_of hF.th) (key_info' _), ⟨below_setAll fb B hF.lo 0 _, f0, fun _ g => nofalse ((hp 3 (by kernel_rfl)).symm.trans g), f2, fun _ g => nofalse ((hp 5 (by kernel_rfl)).symm.trans g), fun _ g => nofalse ((hp 5 (by kernel_rfl)).symm.trans g), q5, fun _ g => nofalse ((hp 6 (by kernel_rfl)).symm.trans g), f6, fun _ g => nofalse g, fun _ => ⟨fun i hi => (match i, hi with | 0, _ => (hp 0 (by kernel_rfl)) | 1, _ => (hp 1 (by kernel_rfl)) | 2, _ => (hp 2 (by kernel_rfl)) | 3, _ => (hp 3 (by kernel_rfl)) | 4, _ => (hp 4 (by kernel_rfl)) | 5, _ => (hp 5 (by kernel_rfl)) | 6, _ => (hp 6 (by kernel_rfl)) | 7, _ => (hp 7 (by kernel_rfl)) | _ + 8, h => by omega), B, hB, Has.all hF.th .u8 _, hF.lo, by rw [size_setAll]; exact hF.hi⟩⟩⟩
    | _ + 9, h => omega
  · intro l v W hJ hl
    obtain ⟨fb, f0, f1, f2, f3, f4, q5, f5, f6, f7, f8⟩ := hJ
    obtain ⟨q8, G, e7, HG, hG1, hG2⟩ := f8 (hl 8 (by decide))
    simp only [putL, Act.put, List.setIfInBounds_toArray, List.set_cons_zero, List.set_cons_succ]
    rw [f0 (hl 0 (by decide)), f2 (hl 2 (by decide)), f6 (hl 6 (by decide)), e7]
    have hzq := K.size
    replace K := K.call fb
    replace K := K.own (Nat.le_trans hzq hG1) hG2 HG
    replace K := K.sub [(G, .u8, 32, kB k len z), (A, .u8, 32, kA k len z)] (fun p hp => by rcases List.mem_cons.1 hp with rfl | hp; exact mS; obtain rfl := List.mem_singleton.1 hp; exact (mT _ mS))
    clear HG hG1 hG2 q8 q5 fb f0 f1 f2 f3 f4 f5 f6 f7 f8 e7
    generalize v 1 = v1
    generalize v 3 = v3
    generalize v 4 = v4
    generalize v 5 = v5
    clear hl v l
    generalize W.heap.size = mm at K
    show Exit.then _ _ _ _ _
    go_upto_region 4 with fail
    refine wp_region_each (fun l v W => Kr w (mm) [(G, .u8, 32, kB k len z), (A, .u8, 32, kA k len z)] [(w.heap.size + 1 + 1, 32), (w.heap.size + 1, 32)] W ∧ (l 0 = true → v 0 = (.agg (row .u8 32 (kA k len z)).toArray)) ∧ (l 1 = true → v 1 = (.agg (row .u8 32 (kB k len z)).toArray)) ∧ (l 2 = true → Has W (w.heap.size + 1) .u8 32 (kA k len z)) ∧ (l 3 = true → Has W (w.heap.size + 1 + 1) .u8 32 (kB k len z))) 4 [some 22, some 23, none, none] (by kernel_rfl) (by kernel_rfl) (by kernel_rfl) (by kernel_rfl) (by kernel_rfl) ?_ ?_ ?_
    · exact ⟨K.drew, fun h => nofalse h.symm, fun h => nofalse h.symm, fun h => nofalse h.symm, fun h => nofalse h.symm⟩
    · intro i hi
      match i, hi with
      | 0, _ =>
        refine does_value (by kernel_rfl) (by kernel_rfl) rfl rfl ?_
        intro l v W a hJ hl hp hat hold
        obtain ⟨fk, f0, f1, f2, f3⟩ := hJ
        exact ⟨_, W, loadRow .u8 32 (kA k len z) A 38 _ _ rfl (hold 7 (by kernel_rfl)) Tryz.underlying38 rfl (key_info _) (fk.get _ _ _ _ (mT _ mS)).range, fk, fun _ => rfl, f1, f2, f3⟩
      | 1, _ =>
        refine does_value (by kernel_rfl) (by kernel_rfl) rfl rfl ?_
        intro l v W a hJ hl hp hat hold
        obtain ⟨fk, f0, f1, f2, f3⟩ := hJ
        exact ⟨_, W, loadRow .u8 32 (kB k len z) G 38 _ _ rfl (hold 8 (by kernel_rfl)) Tryz.underlying38 rfl (key_info _) (fk.get _ _ _ _ mS).range, fk, f0, fun _ => rfl, f2, f3⟩
      | 2, _ =>
        refine does_skip (by kernel_rfl) (by kernel_rfl) rfl rfl ?_
        intro l v W a hJ hl hp hat hold
        obtain ⟨fk, f0, f1, f2, f3⟩ := hJ
        exact ⟨_, storeRow .u8 32 (kA k len z) (w.heap.size + 1) 38 _ _ rfl (hold 4 (by kernel_rfl)) ((hat 0 22 rfl (hp 0 (by kernel_rfl))).trans (f0 (hp 0 (by kernel_rfl)))) (room_of (fk.room _ (mT _ mS)).1) (key_info' _), fk.fill _ _ (mT _ mS) _, f0, f1, fun _ => Has.all (fk.room _ (mT _ mS)).1 .u8 _, fun h => (f3 h).setAll_other _ (by omega) 0 _⟩
      | 3, _ =>
        refine does_skip (by kernel_rfl) (by kernel_rfl) rfl rfl ?_
        intro l v W a hJ hl hp hat hold
        obtain ⟨fk, f0, f1, f2, f3⟩ := hJ
        exact ⟨_, storeRow .u8 32 (kB k len z) (w.heap.size + 1 + 1) 38 _ _ rfl (hold 5 (by kernel_rfl)) ((hat 1 23 rfl (hp 1 (by kernel_rfl))).trans (f1 (hp 1 (by kernel_rfl)))) (room_of (fk.room _ mS).1) (key_info' _), fk.fill _ _ mS _, f0, f1, fun h => (f2 h).setAll_other _ (by omega) 0 _, fun _ => Has.all (fk.room _ mS).1 .u8 _⟩
      | _ + 4, h => omega
    · intro l v W hJ hl
      obtain ⟨fk, f0, f1, f2, f3⟩ := hJ
      simp only [putL, Act.put, List.setIfInBounds_toArray, List.set_cons_zero, List.set_cons_succ]
      rw [f0 (hl 0 (by decide)), f1 (hl 1 (by decide))]
      have hB := fk.below
      have HA := f2 (hl 2 (by decide))
      have HB := f3 (hl 3 (by decide))
      clear fk f0 f1 f2 f3 hl v l
      generalize hAe : kA k len z = fa at *
      generalize hBe : kB k len z = fc at *
      go_wp2
      exact bodyPost_ret (v := .tuple #[(.agg (row .u8 32 (fa)).toArray), (.agg (row .u8 32 (fc)).toArray)]) (results_two Tryz.results25 rfl rfl HA.range HB.range Tryz.underlying38 Tryz.underlying38 rfl rfl (key_info fa) (key_info fc)) rfl ⟨by rw [hAe, hBe], hB⟩
def vsz (n : Nat) : Nat := if n < 64 then 1 else if n < 16384 then 2 else if n < 1073741824 then 4 else 8
def tV (z : Nat → Int) : Nat → Int
  | 0 => z 0 % 64
  | i + 1 => tV z i * 256 + z (i + 1)
def tK (b : Int) : Nat := 2 ^ (b / 64).toNat
def tE (len : Nat) (z : Nat → Int) : Int := if len = 0 then 3 else if len < tK (z 0) then 3 else if vsz (tV z (tK (z 0) - 1)).toNat ≠ tK (z 0) then 90 else 0
def tN (len : Nat) (z : Nat → Int) : Int := if tE len z = 0 then tV z (tK (z 0) - 1) else 0
theorem bl_app (a b : List Int) (j : Nat) : bl (a ++ b) j = if j < a.length then bl a j else bl b (j - a.length) := by
  unfold bl
  simp only [List.getD_eq_getElem?_getD, List.getElem?_append]
  split <;> rfl
def Byts (b : List Int) : Prop := ∀ x ∈ b, 0 ≤ x ∧ x < 256
theorem Byts.bl {b : List Int} (h : Byts b) : In 256 b.length (bl b) := fun j hj => by
  unfold Go.Proofs.YtgfpflcoknpbdaaGreatDoor.bl
  rw [List.getD_eq_getElem?_getD, List.getElem?_eq_getElem hj]
  exact h _ (List.getElem_mem hj)
theorem bl_ext {a b : List Int} (hl : a.length = b.length) (h : ∀ j, j < a.length → bl a j = bl b j) : a = b := by
  apply List.ext_getElem hl
  intro j h1 h2
  have := h j h1
  unfold bl at this
  rw [List.getD_eq_getElem?_getD, List.getD_eq_getElem?_getD, List.getElem?_eq_getElem h1, List.getElem?_eq_getElem h2] at this
  exact this
theorem bl_take (b : List Int) (n j : Nat) (h : j < n) : bl (b.take n) j = bl b j := by
  unfold bl
  simp [h]
def nm (b : List Int) : Except Int (Int × List Int) := if tE b.length (bl b) = 0 then .ok (tN b.length (bl b), b.drop (tK (bl b 0))) else .error (tE b.length (bl b))
def MX : Int := 4611686018427387903
def rd : Nat → Int → List Int → Except Int (List (Int × Int) × List Int)
  | 0, _, b => .ok ([], b)
  | n + 1, last, b => match nm b with
    | .error e => .error e
    | .ok (g, b1) => match nm b1 with
      | .error e => .error e
      | .ok (l, b2) => if MX - last < g ∨ MX - last - g < l then .error 100 else match rd n (last + g + l) b2 with
        | .error e => .error e
        | .ok (rs, b3) => .ok ((last + g, last + g + l) :: rs, b3)
def tx (b : List Int) : Except Int (List Int × List Int) := match nm b with
  | .error e => .error e
  | .ok (n, r) => if 128 < n then .error 2 else if (r.length : Int) < n then .error 3 else .ok (r.take n.toNat, r.drop n.toNat)
structure Frm where
  kind : Int
  pos : Int
  lim : Int
  rg : List (Int × Int)
  byt : List Int
  tok : List Int
def z8 : List Int := [0, 0, 0, 0, 0, 0, 0, 0]
def fp (k : Int) (b : List Int) : Except Int (Frm × List Int) :=
  if k = 3 ∨ k = 4 then (if b.length < 8 then .error 3 else .ok (⟨k, 0, 0, [], [], b.take 8⟩, b.drop 8))
  else match nm b with
    | .error e => .error e
    | .ok (a, b1) =>
      if k = 1 then (match tx b1 with
        | .error e => .error e
        | .ok (t, b2) => .ok (⟨k, a, 0, [], t, z8⟩, b2))
      else if k = 2 ∨ k = 7 then (match nm b1 with
        | .error e => .error e
        | .ok (l, b2) => match nm b2 with
          | .error e => .error e
          | .ok (n, b3) => if 8 < n then .error 100 else match rd n.toNat (if k = 2 then a else 0) b3 with
            | .error e => .error e
            | .ok (rs, b4) => .ok (⟨k, a, l, rs, [], z8⟩, b4))
      else .ok (⟨k, a, 0, [], [], z8⟩, b1)
abbrev OwnL (w : World) (base : Nat) (l : List Int) (v : Value) : Prop := Own w base 5 .u8 l.length (bl l) v
theorem bl_app' (a b : List Int) (j : Nat) : app (bl a) a.length (bl b) j = bl (a ++ b) j := by
  rw [bl_app]
  rfl
theorem OwnL.app {w : World} {base : Nat} {a b : List Int} {v : Value} (h : Own w base 5 .u8 (a.length + b.length) (app (bl a) a.length (bl b)) v) : OwnL w base (a ++ b) v := by
  unfold OwnL
  rw [List.length_append]
  exact h.congr fun j _ => bl_app' a b j
theorem bl_range (n : Nat) (f : Nat → Int) (j : Nat) (h : j < n) : bl ((List.range n).map f) j = f j := by
  unfold bl
  simp [List.getD_eq_getElem?_getD, h]
structure Sym where
  h : Nat → Int
  c : Nat → Int
  k : Nat → Int
  has : Bool
  n : Nat
structure SymW (s : Sym) : Prop where
  h : In 256 32 s.h
  c : In 256 32 s.c
  k : In 256 32 s.k
def smix (s : Sym) (b : List Int) : Sym := { s with h := bhash (32 + b.length) (app s.h 32 (bl b)) }
def skey (s : Sym) (b : List Int) : Sym := { s with c := kA s.c b.length (bl b), k := kB s.c b.length (bl b), has := true, n := 0 }
def snz (n : Nat) : Nat → Int := fun j => if j < 4 then 0 else dig n (j - 4)
theorem snz_in (n : Nat) : In 256 12 (snz n) := fun j _ => by
  unfold snz
  split
  · exact ⟨Int.le_refl _, show (0 : Int) < 256 by decide⟩
  · exact dig_in n (j - 4 + 1) _ (by omega)
def sout (s : Sym) (t : List Int) : List Int := if s.has = true then (List.range (t.length + 16)).map (aout s.k (snz s.n) 32 s.h t.length (bl t)) else t
def snext (s : Sym) : Sym := if s.has = true then { s with n := s.n + 1 } else s
def sseal (s : Sym) (t : List Int) : Sym := smix (snext s) (sout s t)
def soE (s : Sym) (b : List Int) : Int := if s.has = true then aoE s.k (snz s.n) 32 s.h b.length (bl b) else 0
def soT (s : Sym) (b : List Int) : List Int := if s.has = true then (List.range (aoL s.k (snz s.n) 32 s.h b.length (bl b))).map (hxor s.k 1 (snz s.n) (bl b)) else b
def sopen (s : Sym) (b : List Int) : Sym := if soE s b = 0 then smix (snext s) b else s
theorem aok_congr {k n : Nat → Int} {m : Nat} {b : Nat → Int} {len : Nat} {z y : Nat → Int} (h : ∀ j, j < len → z j = y j) : aok k n m b len z ↔ aok k n m b len y := by
  unfold aok
  constructor
  · rintro ⟨h1, h2⟩
    refine ⟨h1, ?_⟩
    rw [atg_congr k n m b b (len - 16) y z (fun _ _ => rfl) (fun j hj => (h j (by omega)).symm), h2]
    exact val_congr 256 16 fun j hj => h _ (by omega)
  · rintro ⟨h1, h2⟩
    refine ⟨h1, ?_⟩
    rw [atg_congr k n m b b (len - 16) z y (fun _ _ => rfl) (fun j hj => h j (by omega)), h2]
    exact val_congr 256 16 fun j hj => (h _ (by omega)).symm
theorem sout_length (s : Sym) (t : List Int) : (sout s t).length = if s.has = true then t.length + 16 else t.length := by
  unfold sout
  split
  · rw [List.length_map, List.length_range]
  · rfl
theorem sout_bl {s : Sym} (hs : s.has = true) (t : List Int) (j : Nat) (hj : j < t.length + 16) : bl (sout s t) j = aout s.k (snz s.n) 32 s.h t.length (bl t) j := by
  unfold sout
  rw [if_pos hs, bl_range _ _ _ hj]
theorem sout_byts {s : Sym} {t : List Int} (ht : Byts t) : Byts (sout s t) := by
  unfold sout
  split
  · intro x hx
    obtain ⟨j, hj, rfl⟩ := List.mem_map.1 hx
    exact aout_in s.k (snz s.n) 32 s.h t.length (bl t) ht.bl j (List.mem_range.1 hj)
  · exact ht
theorem soE_back (s : Sym) (t : List Int) : soE s (sout s t) = 0 := by
  unfold soE
  split
  · rename_i hs
    have hl : (sout s t).length = t.length + 16 := by rw [sout_length, if_pos hs]
    have hc := (aok_congr (k := s.k) (n := snz s.n) (m := 32) (b := s.h) (len := t.length + 16) (fun j hj => sout_bl hs t j hj)).2 (aback_ok s.k (snz s.n) 32 s.h t.length (bl t))
    rw [hl]
    unfold aoE
    rw [if_neg (by omega), if_pos hc]
  · rfl
theorem soT_back (s : Sym) (t : List Int) (ht : Byts t) : soT s (sout s t) = t := by
  unfold soT
  by_cases hs : s.has = true
  · rw [if_pos hs]
    have hl : (sout s t).length = t.length + 16 := by rw [sout_length, if_pos hs]
    have hc := (aok_congr (k := s.k) (n := snz s.n) (m := 32) (b := s.h) (len := t.length + 16) (fun j hj => sout_bl hs t j hj)).2 (aback_ok s.k (snz s.n) 32 s.h t.length (bl t))
    have hL : aoL s.k (snz s.n) 32 s.h (sout s t).length (bl (sout s t)) = t.length := by
      rw [hl]
      unfold aoL
      rw [if_pos hc]
      omega
    rw [hL]
    refine bl_ext (by rw [List.length_map, List.length_range]) fun j hj => ?_
    rw [List.length_map, List.length_range] at hj
    rw [bl_range _ _ _ hj]
    have h1 := aback_text s.k (snz s.n) 32 s.h t.length (bl t) ht.bl j hj
    have h2 : hxor s.k 1 (snz s.n) (bl (sout s t)) j = hxor s.k 1 (snz s.n) (aout s.k (snz s.n) 32 s.h t.length (bl t)) j := by
      unfold hxor
      rw [sout_bl hs t j (by omega)]
    rw [h2, h1]
  · rw [if_neg hs]
    unfold sout
    rw [if_neg hs]
theorem sopen_back (s : Sym) (t : List Int) : sopen s (sout s t) = sseal s t := by
  unfold sopen sseal
  rw [if_pos (soE_back s t)]
theorem smix_w {s : Sym} (h : SymW s) (b : List Int) : SymW (smix s b) := ⟨bhash_in _ _ _, h.c, h.k⟩
theorem snext_w {s : Sym} (h : SymW s) : SymW (snext s) := by
  unfold snext
  split
  · exact ⟨h.h, h.c, h.k⟩
  · exact h
theorem sseal_w {s : Sym} (h : SymW s) (t : List Int) : SymW (sseal s t) := smix_w (snext_w h) _
theorem sopen_w {s : Sym} (h : SymW s) (b : List Int) : SymW (sopen s b) := by
  unfold sopen
  split
  · exact smix_w (snext_w h) _
  · exact h
theorem kA_in (k : Nat → Int) (len : Nat) (z : Nat → Int) : In 256 32 (kA k len z) := kT_in _ _ _ _ _
theorem kB_in (k : Nat → Int) (len : Nat) (z : Nat → Int) : In 256 32 (kB k len z) := kT_in _ _ _ _ _
theorem skey_w {s : Sym} (h : SymW s) (b : List Int) : SymW (skey s b) := ⟨h.h, kA_in _ _ _, kB_in _ _ _⟩
theorem sopen_turned {s : Sym} {f : List Int} (h : soE s f ≠ 0) : sopen s f = s := by unfold sopen; rw [if_neg h]
section
section
variable {P : Program} {ops : Array Oper} {Q : Exit → Act → World → Prop} {md : Region.Mode} {S : World → Prop}
theorem storeAny {o : Oper} {a : Act} {w : World} (v : Value) (b j : Nat) (ty : TypeId) (x y : Operand) (ho : o.op = .store ty x y) (hx : a.eval x = .pointer (some ⟨b, j, none⟩)) (hy : a.eval y = v) (hv : v.cells = #[v]) (h1 : v.oneCell' = true)
    (hc : (w.cell? ⟨b, j, none⟩).isSome = true) (hf : w.frozen? ⟨b, j, none⟩ = false) (hz : (P.info? ty).map (·.size) = some 1) : (execOp a.eval o).run P w = .ok .skip (w.setCell ⟨b, j, none⟩ v) := by
  have h0 : ∀ k : Nat, k < [v].length → k = 0 := fun k hk => by simpa using hk
  have hst := run_storeCells_cells (P := P) b j [v] 0 w (fun k hk => by rw [h0 k hk]; simpa using hc) (fun k hk => by rw [h0 k hk]; simpa using hf) (fun u hu => by simp at hu; subst hu; exact h1)
  cases hq : P.info? ty with
  | none => simp [hq] at hz
  | some i =>
    have hs : i.size = 1 := by simp [hq] at hz; omega
    simp only [Nat.add_zero] at hst
    have e : (storeVar ty ⟨b, j, none⟩ v).run P w = .ok () (w.setCell ⟨b, j, none⟩ v) := by
      simp [storeVar, sizeOf, typeInfo, hq, hv, hs, hst, World.setCells]
    unfold execOp
    simp only [ho, hx, hy, Instr.storeAt, Instr.sureAddr, Sem.run_bind, Sem.run_pure, Result.andThen_ok, e]
theorem skipOpL {o : Oper} {rest : List Oper} {a : Act} {w w' : World} (hw : Region.wanted o (yielded ops a.tmps) = true) (he : (execOp a.eval o).run P w = .ok .skip w') (h : wpList P ops Q rest (a.put o.dst undef) w') : wpList P ops Q (o :: rest) a w := by
  unfold wpList
  rw [if_pos hw]
  refine .inl ?_
  unfold Oper.wp
  rw [he]
  exact h
theorem load1 {o : Oper} {a : Act} {w : World} (ty : TypeId) (x : Operand) (p : Addr) (v : Value) (ho : o.op = .load ty x) (hx : a.eval x = .pointer (some p)) (hagg : ∀ w, (isAgg ty).run P w = .ok false w) (hc : w.cell? p = some v) : (execOp a.eval o).run P w = .ok (.value v) w := by
  have e : (loadVar ty p).run P w = .ok v w := by simp [loadVar, Sem.run_bind, hagg, hc]
  unfold execOp
  simp only [ho, hx, Instr.loadAt, Instr.sureAddr, Sem.run_bind, Sem.run_pure, Result.andThen_ok, e]
theorem loadN {o : Oper} {a : Act} {w : World} (ty : TypeId) (x : Operand) (p : Addr) (cs : List Value) (ho : o.op = .load ty x) (hx : a.eval x = .pointer (some p)) (hagg : ∀ w, (isAgg ty).run P w = .ok true w) (hz : ∀ w, (sizeOf ty).run P w = .ok cs.length w)
    (hc : ∀ j v, cs[j]? = some v → w.cell? (p.add j) = some v) : (execOp a.eval o).run P w = .ok (.value (.agg cs.toArray)) w := by
  have e : (loadVar ty p).run P w = .ok (.agg cs.toArray) w := by simp [loadVar, Sem.run_bind, hagg, hz, run_loadCells_list w p cs hc]
  unfold execOp
  simp only [ho, hx, Instr.loadAt, Instr.sureAddr, Sem.run_bind, Sem.run_pure, Result.andThen_ok, e]
end
theorem Own.src {w : World} {base : Nat} {e : TypeId} {n : Nat} {f : Nat → Int} {sp : Option Addr} {c : Nat} (h : Own w base e .u8 n f (.slice sp n c)) : Src w sp n f := by
  obtain ⟨sp', c', e, _, hs⟩ := h.bytes
  injection e with e1 _ _
  subst e1
  exact hs
structure Mm (w0 : World) (l : List (Nat × List Value)) (w : World) : Prop where
  rows : ∀ p ∈ l, (∀ j, j < p.2.length → w.cell? ⟨p.1, j, none⟩ = p.2[j]? ∧ w.frozen? ⟨p.1, j, none⟩ = false) ∧ w0.heap.size ≤ p.1 ∧ p.1 < w.heap.size
  apart : l.Pairwise fun p q => p.1 ≠ q.1
  below : Below w0.heap.size w0 w
section
variable {w0 w w' : World} {l : List (Nat × List Value)}
theorem Mm.init (w : World) : Mm w [] w := ⟨fun _ h => (by cases h), List.Pairwise.nil, Below.refl _ _⟩
theorem Mm.call (h : Mm w0 l w) (b : Below w.heap.size w w') : Mm w0 l w' :=
  ⟨fun p hp => ⟨fun j hj => by
    have hlt := (h.rows p hp).2.2
    rw [b.cell (p := ⟨p.1, j, none⟩) hlt, b.frozen (p := ⟨p.1, j, none⟩) hlt]
    exact (h.rows p hp).1 j hj, (h.rows p hp).2.1, Nat.lt_of_lt_of_le (h.rows p hp).2.2 b.size⟩, h.apart, h.below.trans (b.mono h.below.size)⟩
theorem Mm.drew (h : Mm w0 l w) : Mm w0 l w.drew := h.call (Below.refl _ _).drew
theorem Mm.sub (h : Mm w0 l w) (l' : List (Nat × List Value)) (hl : l'.Sublist l) : Mm w0 l' w := ⟨fun p hp => h.rows p (hl.subset hp), h.apart.sublist hl, h.below⟩
theorem Mm.box (h : Mm w0 l w) (c : Array Value) (t : TypeId) (b : Nat) (hb : b = w.heap.size) : Mm w0 ((b, c.toList) :: l) (w.alloc (.cells c t)) := by
  subst hb
  have hc := h.call ((Below.refl w.heap.size w).alloc (Nat.le_refl _) (.cells c t))
  refine ⟨fun p hp => ?_, List.pairwise_cons.2 ⟨fun q hq e => ?_, h.apart⟩, hc.below⟩
  · rcases List.mem_cons.1 hp with rfl | hp
    · refine ⟨fun j hj => ⟨?_, World.frozen?_alloc_at _ _ _ _ rfl⟩, h.below.size, by simp⟩
      rw [World.cell?_alloc_at _ _ _ _ rfl]
      simp
    · exact hc.rows p hp
  · have := (h.rows q hq).2.2
    simp only at e
    omega
theorem Mm.get (h : Mm w0 l w) {b : Nat} {cs : List Value} (hp : (b, cs) ∈ l) (j : Nat) (v : Value) (hv : cs[j]? = some v) : w.cell? ⟨b, j, none⟩ = some v := by
  have hj : j < cs.length := by
    rcases Nat.lt_or_ge j cs.length with h' | h'
    · exact h'
    · rw [List.getElem?_eq_none h'] at hv; cases hv
  rw [((h.rows _ hp).1 j hj).1, hv]
theorem Mm.isSome (h : Mm w0 l w) {b : Nat} {cs : List Value} (hp : (b, cs) ∈ l) (j : Nat) (hj : j < cs.length) : (w.cell? ⟨b, j, none⟩).isSome = true := by
  rw [((h.rows _ hp).1 j hj).1, List.getElem?_eq_getElem hj]
  rfl
theorem Mm.free (h : Mm w0 l w) {b : Nat} {cs : List Value} (hp : (b, cs) ∈ l) (j : Nat) (hj : j < cs.length) : w.frozen? ⟨b, j, none⟩ = false := ((h.rows _ hp).1 j hj).2
theorem Mm.rangeAt (h : Mm w0 l w) {b : Nat} {cs : List Value} (hp : (b, cs) ∈ l) : ∀ j v, cs[j]? = some v → w.cell? ((⟨b, 0, none⟩ : Addr).add j) = some v := fun j v hv => by
  rw [Addr.add_mid, Nat.zero_add]
  exact h.get hp j v hv
theorem Mm.part (h : Mm w0 l w) {b : Nat} {cs : List Value} (hp : (b, cs) ∈ l) (o : Nat) (ds : List Value) (hd : (cs.drop o).take ds.length = ds) : ∀ j v, ds[j]? = some v → w.cell? ((⟨b, o, none⟩ : Addr).add j) = some v := fun j v hv => by
  rw [Addr.add_mid]
  refine h.get hp (o + j) v ?_
  have hj : j < ds.length := by
    rcases Nat.lt_or_ge j ds.length with h' | h'
    · exact h'
    · rw [List.getElem?_eq_none h'] at hv; cases hv
  rw [← hd, List.getElem?_take, if_pos hj, List.getElem?_drop] at hv
  exact hv
theorem size_setCell (w : World) (p : Addr) (v : Value) : (w.setCell p v).heap.size = w.heap.size := by simp
theorem Mm.set {b : Nat} {cs : List Value} (h : Mm w0 ((b, cs) :: l) w) (j : Nat) (hj : j < cs.length) (v : Value) : Mm w0 ((b, cs.set j v) :: l) (w.setCell ⟨b, j, none⟩ v) := by
  have hb := h.rows _ mS
  have hne := (List.pairwise_cons.1 h.apart).1
  refine ⟨fun p hp => ?_, List.pairwise_cons.2 ⟨hne, (List.pairwise_cons.1 h.apart).2⟩, below_setAll h.below b hb.2.1 j [v]⟩
  rcases List.mem_cons.1 hp with rfl | hp
  · refine ⟨fun i hi => ⟨?_, by rw [World.frozen?_setCell]; exact (hb.1 i (by simpa using hi)).2⟩, hb.2.1, by rw [size_setCell]; exact hb.2.2⟩
    simp only [List.length_set] at hi
    by_cases e : i = j
    · subst e
      rw [World.cell?_setCell_same' _ _ _ (h.isSome mS i hj), List.getElem?_set_self hj]
    · have e2 := World.cell?_setCell_other (w := w) (v := v) (a := ⟨b, j, none⟩) (b := ⟨b, i, none⟩) (by intro e'; injection e' with _ e'; exact e e'.symm)
      simp only
      rw [e2, List.getElem?_set_ne (Ne.symm e)]
      exact (hb.1 i hi).1
  · have h2 := h.rows p (mT _ hp)
    refine ⟨fun i hi => ⟨?_, by rw [World.frozen?_setCell]; exact (h2.1 i hi).2⟩, h2.2.1, by rw [size_setCell]; exact h2.2.2⟩
    rw [World.cell?_setCell_far _ _ _ _ (hne p hp)]
    exact (h2.1 i hi).1
theorem Mm.swap {p q : Nat × List Value} (h : Mm w0 (p :: q :: l) w) : Mm w0 (q :: p :: l) w := by
  obtain ⟨h1, h2⟩ := List.pairwise_cons.1 h.apart
  obtain ⟨h3, h4⟩ := List.pairwise_cons.1 h2
  refine ⟨fun x hx => h.rows x ?_, List.pairwise_cons.2 ⟨fun x hx => ?_, List.pairwise_cons.2 ⟨fun x hx => h1 x (mT _ hx), h4⟩⟩, h.below⟩
  · rcases List.mem_cons.1 hx with rfl | hx
    · exact mT _ mS
    · rcases List.mem_cons.1 hx with rfl | hx
      · exact mS
      · exact mT _ (mT _ hx)
  · rcases List.mem_cons.1 hx with rfl | hx
    · exact (h1 q mS).symm
    · exact h3 x hx
theorem Mm.grown (h : Mm w0 l w) {r : Option Nat} (g : w.grownBy w' r) (m : Nat) (hm : ∀ p ∈ l, p.1 < m) (h0 : w0.heap.size ≤ m) (hz : m ≤ w.heap.size) (hr : ∀ b, r = some b → m ≤ b) : Mm w0 l w' := by
  have hb : Below m w w' := ⟨g.os, g.tape, g.output, g.size, fun j hj => g.block j (Nat.lt_of_lt_of_le hj hz) (fun e => by have := hr j e.symm; omega)⟩
  exact ⟨fun p hp => ⟨fun j hj => by
    rw [hb.cell (p := ⟨p.1, j, none⟩) (hm p hp), hb.frozen (p := ⟨p.1, j, none⟩) (hm p hp)]
    exact (h.rows p hp).1 j hj, (h.rows p hp).2.1, Nat.lt_of_lt_of_le (h.rows p hp).2.2 g.size⟩, h.apart, h.below.trans (hb.mono h0)⟩
theorem Mm.lt (h : Mm w0 l w) {b : Nat} {cs : List Value} (hp : (b, cs) ∈ l) : b < w.heap.size := (h.rows _ hp).2.2
end
end
end Go.Proofs.YtgfpflcoknpbdaaGreatDoor
