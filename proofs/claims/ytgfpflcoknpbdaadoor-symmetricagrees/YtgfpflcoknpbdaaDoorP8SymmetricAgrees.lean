/- Texts of Nw Iz Bg Ye Yf, joined. -/
import Derived.Test.YtgfpflcoknpbdaaDoorP1SymmetricAgrees
import Derived.Test.YtgfpflcoknpbdaaDoorP6SymmetricAgrees
import Derived.Test.YtgfpflcoknpbdaaDoorP7SymmetricAgrees
import Derived.Test.YtgfpflcoknpbdaaDoorProg
set_option maxRecDepth 20000
set_option maxHeartbeats 64000000
namespace Go.Proofs.YtgfpflcoknpbdaaDoor
open Go.RowKit
def NewF (w : World) (base n : Nat) (f : Nat → Int) (v : Value) : Prop := ∃ sp cap, v = .slice sp n cap ∧ n ≤ cap ∧ (sp = none → cap = 0) ∧ Src w sp n f ∧ ∀ a, sp = some a → base ≤ a.block ∧ a.block < w.heap.size
theorem NewF.nil (w : World) (base : Nat) (f : Nat → Int) : NewF w base 0 f (.slice none 0 0) := ⟨none, 0, rfl, Nat.le_refl _, fun _ => rfl, fun j hj => absurd hj (Nat.not_lt_zero j), fun _ h => by cases h⟩
theorem NewF.src {w : World} {base n : Nat} {f : Nat → Int} {sp : Option Addr} {cap : Nat} (h : NewF w base n f (.slice sp n cap)) : Src w sp n f := by
  obtain ⟨sp', cap', hv, _, _, hs, _⟩ := h
  injection hv with h1 _ _
  subst h1
  exact hs
theorem NewF.of_own {w : World} {base n : Nat} {f : Nat → Int} {v : Value} (h : Own w base 5 .u8 n f v) : NewF w base n f v := by
  obtain ⟨sp, cap, rfl, hc, hs⟩ := h.bytes
  exact ⟨sp, cap, rfl, hc, h.nilCap, hs, fun a e => by subst e; exact World.ownsRow.lt h a.block rfl⟩
theorem NewF.congr {w : World} {base n : Nat} {f g : Nat → Int} {v : Value} (h : NewF w base n f v) (he : ∀ j, j < n → f j = g j) : NewF w base n g v := by
  obtain ⟨sp, cap, hv, hc, hn, hs, ha⟩ := h
  exact ⟨sp, cap, hv, hc, hn, fun j hj => by rw [← he j hj]; exact hs j hj, ha⟩
def NewL (w : World) (base : Nat) (l : List Int) (v : Value) : Prop := NewF w base l.length (bl l) v
theorem NewF.off {w w' : World} {base n : Nat} {f : Nat → Int} {v : Value} {X : List Nat} (h : NewF w base n f v) (o : Off X w w') (hX : ∀ b ∈ X, b < base) : NewF w' base n f v := by
  obtain ⟨sp, cap, hv, hc, hn, hs, ha⟩ := h
  have hsz := o.size
  refine ⟨sp, cap, hv, hc, hn, fun j hj => ?_, fun a e => ⟨(ha a e).1, by have := (ha a e).2; omega⟩⟩
  obtain ⟨p, hp, hcell⟩ := hs j hj
  exact ⟨p, hp, o.cell hcell (by rw [add_block]; exact fun hm => by have := hX _ hm; have := (ha p hp).1; omega)⟩
theorem NewF.below {w w' : World} {base n : Nat} {f : Nat → Int} {v : Value} (h : NewF w base n f v) (l : Below w.heap.size w w') : NewF w' base n f v := h.off (X := []) (Off.of_below l) (fun _ hb => by cases hb)
theorem NewF.lower {w : World} {base base' n : Nat} {f : Nat → Int} {v : Value} (h : NewF w base n f v) (hb : base' ≤ base) : NewF w base' n f v := by
  obtain ⟨sp, cap, hv, hc, hn, hs, ha⟩ := h
  exact ⟨sp, cap, hv, hc, hn, hs, fun a e => ⟨Nat.le_trans hb (ha a e).1, (ha a e).2⟩⟩
theorem NewF.srcA {w : World} {base n : Nat} {f : Nat → Int} {sp : Option Addr} {cap : Nat} {X : List Nat} (h : NewF w base n f (.slice sp n cap)) (hX : ∀ b ∈ X, b < base) : SrcA X w sp n f := by
  obtain ⟨sp', cap', hv, _, _, hs, ha⟩ := h
  injection hv with h1 _ _
  subst h1
  exact ⟨hs, fun a e _ hm => by have := hX _ hm; have := (ha a e).1; omega⟩
theorem loadArr {P : Program} {o : Oper} {a : Act} {w : World} (ty : TypeId) (x : Operand) (ad : Addr) (n : Nat) (f : Nat → Int) (d : TypeDesc) (ho : o.op = .load ty x) (hx : a.eval x = .pointer (some ad)) (hu : P.underlying ty = some d) (hd : d.isRow = true) (hz : (P.info? ty).map (·.size) = some n) (hs : Src w (some ad) n f) :
    (execOp a.eval o).run P w = .ok (.value (.agg (row .u8 n f).toArray)) w := by
  have hl : (loadCells ad n).run P w = .ok (row .u8 n f).toArray w := by
    have := run_loadCells_list (P := P) w ad (row .u8 n f) (fun j v hv => by
      obtain ⟨hj, rfl⟩ := row_get_some hv
      obtain ⟨ad', he, hc⟩ := hs j hj
      injection he with he
      subst he
      exact hc)
    rw [row_length] at this
    exact this
  have e : (loadVar ty ad).run P w = .ok (.agg (row .u8 n f).toArray) w := by
    cases hq : P.info? ty with
    | none => simp [hq] at hz
    | some i =>
      have hs' : i.size = n := by simpa [hq] using hz
      have hagg : (isAgg ty).run P w = .ok true w := by
        unfold isAgg
        rw [Sem.run_bind, run_underlying hu w]
        cases d <;> simp_all
      simp [loadVar, Sem.run_bind, hagg, sizeOf, typeInfo, hq, hs', hl]
  unfold execOp
  simp only [ho, hx, Instr.loadAt, Instr.sureAddr, Sem.run_bind, Sem.run_pure, Result.andThen_ok, e]
theorem run_copy_mid {P : Program} {o : Oper} {a : Act} {w : World} (d s : Operand) (dT sT elem : TypeId) (ho : o.op = .call { callee := .builtin .copy, args := #[d, s], argTypes := #[dT, sT] }) (hu : P.underlying dT = some (.slice elem)) (hsz : (P.info? elem).map (·.size) = some 1)
    (b o' dCap m n sCap : Nat) (f z : Nat → Int) (ad : Addr) (hd : a.eval d = .slice (some ⟨b, o', none⟩) m dCap) (hs : a.eval s = .slice (some ad) m sCap) (hb : Has w b .u8 n f) (hm : o' + m ≤ n) (hc : Src w (some ad) m z) :
    (execOp a.eval o).run P w = .ok (.value (.int .i64 (m : Int))) (w.setCells b o' (row .u8 m z)) := by
  have hrun := run_copy_cells (P := P) w dT sT o.type elem b o' m dCap ad m sCap (row .u8 m z) hu hsz (by rw [row_length]; exact (Nat.min_self m).symm) (fun j v hv => by
    obtain ⟨hj, rfl⟩ := row_get_some hv
    obtain ⟨ad', he, hc'⟩ := hc j hj
    injection he with he
    subst he
    exact hc') (fun j hj => by rw [row_length] at hj; rw [hb.cell (o' + j) (by omega)]; rfl) (fun j hj => by rw [row_length] at hj; exact hb.free (o' + j) (by omega)) (row_one .u8 m z)
  rw [row_length] at hrun
  simp [execOp, ho, resolve, invoke, builtin, hd, hs, hrun, Result.andThen, goInt]
theorem icut (g n c : Nat) (hn : n + 16 ≤ c) (w : World) : (Instr.sliceAt 27 (.slice (some ⟨g, 0, none⟩) (n + 16) c) (some (.int .i64 (n : Int))) none none).run Tryd.prog w = .ok (.slice (some ⟨g, n, none⟩) 16 (c - n)) w := by
  rw [run_sliceAt_slice w 27 _ _ _ _ (by kernel_rfl), run_slice_l w 27 _ (n + 16) c (by kernel_rfl) .i64 (n : Int) (by omega) (by omega), show (sizeOf (Tryd.prog.elem 27)).run Tryd.prog w = .ok 1 w by kernel_rfl]
  have h1 : ¬ c = n := by omega
  simp [Result.andThen, sliced, Addr.add_mid, h1]
theorem aseal_any : ASealOK := by
  intro k n hk hn bp bl bc hbl hbc hbn b hb sp len cap hlen hcap hsn z hz w hg hsb hs
  have K := Kr.init w
  replace K := K.box .u8 32 k 36 (w.heap.size) rfl
  replace K := K.box .u8 12 n 52 (w.heap.size + 1) (by simp)
  go_enter Tryd.func20, Tryd.ntmps20
  go_upto_region 1 with fail
  generalize ((w.alloc (.cells (row .u8 32 k).toArray 36)).alloc (.cells (row .u8 12 n).toArray 52)) = w0 at K ⊢
  refine wp_region_list ?_
  refine rowKL .u8 32 (k) (w.heap.size) 0 36 _ _ rfl rfl rfl Tryd.underlying36 rfl (key_info _) ((K.get _ _ _ _ (mT _ mS)).range) ?_
  simp only [aP, lI, l0, lS]
  refine rowKL .u8 12 (n) (w.heap.size + 1) 0 52 _ _ rfl rfl rfl Tryd.underlying52 rfl (hn_info _) ((K.get _ _ _ _ mS).range) ?_
  simp only [aP, lI, l0, lS]
  refine pureL (.slice sp len cap) rfl (fun _ => by kernel_rfl) ?_
  simp only [aP, lI, l0, lS]
  refine callL rfl (fun _ => by kernel_rfl) (hxor_any k 1 n hk hn (by decide) sp len cap (by omega) z _ (hg.h.below K.below hg.size) (hs.below K.below (Nat.le_refl _))) ?_
  rintro e w1 ⟨X, rfl, ⟨hX1, hX2, HX⟩, l⟩
  have zX := K.size
  replace K := (K.call l).own (by omega) hX2 HX
  clear l HX
  refine ⟨_, rfl, ?_⟩
  simp only [aP, lI, l0, lS]
  refine pureL (.slice (some ⟨X, 0, none⟩) len len) rfl (fun _ => by kernel_rfl) ?_
  simp only [aP, lI, l0, lS]
  generalize w1.heap.size = m1 at K hX2
  show Exit.then _ _ _ _ _
  go_upto_region 2 with fail
  refine wp_region_list ?_
  refine rowKL .u8 32 (k) (w.heap.size) 0 36 _ _ rfl rfl rfl Tryd.underlying36 rfl (key_info _) ((K.get _ _ _ _ (mT _ (mT _ mS))).range) ?_
  simp only [aP, lI, l0, lS]
  refine rowKL .u8 12 (n) (w.heap.size + 1) 0 52 _ _ rfl rfl rfl Tryd.underlying52 rfl (hn_info _) ((K.get _ _ _ _ (mT _ mS)).range) ?_
  simp only [aP, lI, l0, lS]
  refine pureL (.slice bp bl bc) rfl (fun _ => by kernel_rfl) ?_
  simp only [aP, lI, l0, lS]
  refine pureL (.slice (some ⟨X, 0, none⟩) len len) rfl (fun _ => by kernel_rfl) ?_
  simp only [aP, lI, l0, lS]
  refine callL rfl (fun _ => by kernel_rfl) (tagOf_any k n hk hn bp bl bc hbl hbc b hb (some ⟨X, 0, none⟩) len len hlen (Nat.le_refl _) (hxor k 1 n z) (hxor_in k 1 n z len hz) _ (hg.below K.below hg.size) (hsb.below K.below (Nat.le_refl _)) (K.get _ _ _ _ mS).src0) ?_
  rintro e w2 ⟨rfl, l⟩
  replace K := K.call l
  clear l
  refine ⟨_, rfl, ?_⟩
  simp only [aP, lI, l0, lS]
  refine allocL zu8_16 42 rfl (fun _ => by kernel_rfl) ?_
  simp only [aP, lI, l0, lS]
  refine storesL .u8 16 (atag k n bl b len (hxor k 1 n z)) w2.heap.size 42 _ _ rfl rfl rfl rfl (room_of (tag_zero _ _ _ rfl).there) (tag_info' _) ?_
  simp only [Act.put]
  have zT := K.size
  replace K := K.fresh .u8 16 (atag k n bl b len (hxor k 1 n z)) zu8_16 42 (tag_zero _ _ _ rfl).there
  generalize ((w2.alloc (.cells zu8_16 42)).setCells w2.heap.size 0 (row .u8 16 (atag k n bl b len (hxor k 1 n z)))) = w3 at K ⊢
  generalize w2.heap.size = T at *
  show Exit.then _ _ _ _ _
  go_upto_region 3 with fail
  refine wp_region_list ?_
  refine pureL (.slice (some ⟨X, 0, none⟩) len len) rfl (fun _ => by kernel_rfl) ?_
  simp only [aP, lI, l0, lS]
  refine pureL (.int .i64 (len : Int)) rfl (fun w => lenS _ 27 5 (some ⟨X, 0, none⟩) (len) (len) rfl Tryd.underlying27 rfl w) ?_
  simp only [aP, lI, l0, lS]
  refine pureL (.int .i64 ((len + 16 : Nat) : Int)) rfl (fun w => addI .i64 _ _ _ _ _ _ _ rfl rfl rfl (by rw [IntKind.wrap_i64]; omega) w) ?_
  simp only [aP, lI, l0, lS]
  refine actL (w' := w3.alloc (.cells (row .u8 (len + 16) (fun _ => 0)).toArray 5)) (.slice (some ⟨w3.heap.size, 0, none⟩) (len + 16) (len + 16)) rfl (makeOp 27 _ _ _ _ _ rfl rfl rfl (made8 (len + 16) (by omega) w3)) ?_
  simp only [aP, lI, l0, lS]
  have zY := K.size
  replace K := K.box .u8 (len + 16) (fun _ => 0) 5 w3.heap.size rfl
  generalize w3.alloc (.cells (row .u8 (len + 16) (fun _ => 0)).toArray 5) = w4 at K ⊢
  generalize w3.heap.size = Y at *
  refine pureL (.slice (some ⟨Y, 0, none⟩) (len + 16) (len + 16)) rfl (fun _ => by kernel_rfl) ?_
  simp only [aP, lI, l0, lS]
  show Exit.then _ _ _ _ _
  go_upto_region 4 with fail
  refine wp_region_list ?_
  refine pureL (.slice (some ⟨Y, 0, none⟩) (len + 16) (len + 16)) rfl (fun _ => by kernel_rfl) ?_
  simp only [aP, lI, l0, lS]
  refine pureL (.slice (some ⟨X, 0, none⟩) len len) rfl (fun _ => by kernel_rfl) ?_
  simp only [aP, lI, l0, lS]
  refine actL (.int .i64 (len : Int)) rfl (run_copy_src _ _ 27 27 5 rfl Tryd.underlying27 (by kernel_rfl) Y (len + 16) (len + 16) len len (len + 16) (some ⟨X, 0, none⟩) (hxor k 1 n z) rfl rfl (by omega) (by omega) (K.get _ _ _ _ mS).there (K.get _ _ _ _ (mT _ (mT _ mS))).src0) ?_
  simp only [aP, lI, l0, lS]
  replace K := K.part [(T, .u8, 16, atag k n bl b len (hxor k 1 n z)), (X, .u8, len, hxor k 1 n z)] Y .u8 (len + 16) _ 0 len (by omega) (hxor k 1 n z) mS (fun p hp => by rcases List.mem_cons.1 hp with rfl | hp; exact (mT _ mS); obtain rfl := List.mem_singleton.1 hp; exact (mT _ (mT _ mS))) (fun p hp => by rcases List.mem_cons.1 hp with rfl | hp; simp only; omega; obtain rfl := List.mem_singleton.1 hp; simp only; omega) (by omega)
  generalize w4.setCells Y 0 (row .u8 len (hxor k 1 n z)) = w5 at K ⊢
  show Exit.then _ _ _ _ _
  go_upto_region 5 with fail
  have HY := K.get _ _ _ _ mS
  replace K := K.loose [(T, .u8, 16, atag k n bl b len (hxor k 1 n z)), (X, .u8, len, hxor k 1 n z)] Y .u8 (len + 16) _ mS (fun p hp => mT _ hp) (fun p hp => by rcases List.mem_cons.1 hp with rfl | hp; simp only; omega; obtain rfl := List.mem_singleton.1 hp; simp only; omega) (by omega)
  refine wp_region_held_drew (S := fun w' => Kr w (Y + 1) [(T, .u8, 16, atag k n bl b len (hxor k 1 n z)), (X, .u8, len, hxor k 1 n z)] [(Y, len + 16)] w') (by kernel_rfl) K.drew ?_
  clear K
  intro K
  replace HY := HY.drew
  generalize w5.drew = w6 at K HY ⊢
  refine pureHg (i := 0) (some 28) rfl (.slice (some ⟨Y, 0, none⟩) (len + 16) (len + 16)) rfl rfl (fun _ => by kernel_rfl) K ?_
  simp only [aP, lI, l0, lS]
  refine pureHg (i := 1) (some 29) rfl (.slice (some ⟨X, 0, none⟩) len len) rfl rfl (fun _ => by kernel_rfl) K ?_
  simp only [aP, lI, l0, lS]
  refine pureHg (i := 2) (some 30) rfl (.int .i64 (len : Int)) rfl rfl (fun w => lenS _ 27 5 (some ⟨X, 0, none⟩) (len) (len) rfl Tryd.underlying27 rfl w) K ?_
  simp only [aP, lI, l0, lS]
  refine pureHg (i := 3) (some 31) rfl (.slice (some ⟨Y, len, none⟩) 16 (len + 16 - len)) rfl rfl (fun w => cutOp _ _ _ _ _ _ rfl rfl rfl (icut Y len (len + 16) (Nat.le_refl _) w)) K ?_
  simp only [aP, lI, l0, lS]
  refine pureHg (i := 4) (some 32) rfl (.slice (some ⟨T, 0, none⟩) 16 16) rfl rfl (fun _ => by kernel_rfl) K ?_
  simp only [aP, lI, l0, lS]
  refine actH (i := 5) (some 33) rfl (.int .i64 ((16 : Nat) : Int)) (by kernel_rfl) rfl rfl (run_copy_mid _ _ 27 27 5 rfl Tryd.underlying27 (by kernel_rfl) Y len (len + 16 - len) 16 (len + 16) 16 _ (atag k n bl b len (hxor k 1 n z)) ⟨T, 0, none⟩ rfl rfl HY (by omega) (K.get _ _ _ _ mS).src0) (K.poke Y (len + 16) mS len _) ?_
  simp only [aP, lI, l0, lS]
  refine wpAnyH_done (by kernel_rfl) ?_ _
  have hY := (HY.part len 16 (by omega) (atag k n bl b len (hxor k 1 n z))).congr (g := aout k n bl b len z) (fun j hj => by
    unfold aout app over
    by_cases e : j < len
    · rw [if_neg (by omega), if_pos (by omega), if_pos e, Nat.sub_zero]
    · rw [if_pos (by omega), if_neg e])
  have hB := (K.poke Y (len + 16) mS len (row .u8 16 (atag k n bl b len (hxor k 1 n z)))).below
  have hs6 := K.size
  clear K HY
  generalize hw7 : w6.setCells Y len (row .u8 16 (atag k n bl b len (hxor k 1 n z))) = w7 at hY hB ⊢
  have hs7 : Y < w7.heap.size := by rw [← hw7, size_setAll]; omega
  clear hw7 hs6
  have hYl : w.heap.size ≤ Y := by omega
  go_wp2
  go_ret
  exact ⟨Y, len + 16, rfl, ⟨Nat.le_refl _, hYl, hs7, hY⟩, hB⟩
theorem aopen_short (k n : Nat → Int) (bp : Option Addr) (bl bc : Nat) (sp : Option Addr) (len cap : Nat) (hl : len < 16) (w : World) :
    Calls Tryd.prog 18 #[(.agg (row .u8 32 (k)).toArray), (.agg (row .u8 12 (n)).toArray), .slice bp bl bc, .slice sp len cap] w fun e w' => e = .returned (.tuple #[.slice none 0 0, .int .i64 3]) ∧ Below w.heap.size w w' := by
  have g1 : (len : Int) < 16 := by omega
  have K := Kr.init w
  replace K := K.box .u8 32 k 36 (w.heap.size) rfl
  replace K := K.box .u8 12 n 52 (w.heap.size + 1) (by simp)
  go_enter Tryd.func18, Tryd.ntmps18
  go_upto_region 1 with fail
  generalize ((w.alloc (.cells (row .u8 32 k).toArray 36)).alloc (.cells (row .u8 12 n).toArray 52)) = w0 at K ⊢
  have hB := K.below
  clear K
  go_wp2
  go_ret2
  exact ⟨rfl, hB⟩
theorem NewF.of_has {w : World} {base n c B : Nat} {f : Nat → Int} (h : Has w B .u8 n f) (hc : n ≤ c) (h1 : base ≤ B) (h2 : B < w.heap.size) : NewF w base n f (.slice (some ⟨B, 0, none⟩) n c) := ⟨_, c, rfl, hc, fun e => (by cases e), h.src0, fun a e => by cases e; exact ⟨h1, h2⟩⟩
theorem aopen_long (k n : Nat → Int) (hk : In 256 32 k) (hn : In 256 12 n) (bp : Option Addr) (bl bc : Nat) (hbl : bl ≤ 140737488351232) (hbc : bl ≤ bc) (b : Nat → Int) (hb : In 256 bl b) (sp : Option Addr) (len cap : Nat) (hlen : len ≤ 140737488351248) (hcap : len ≤ cap) (hl : 16 ≤ len) (z : Nat → Int) (hz : In 256 len z) (w : World) (hg : AGlob w) (hsb : Src w bp bl b) (hs : Src w sp len z) :
    Calls Tryd.prog 18 #[(.agg (row .u8 32 (k)).toArray), (.agg (row .u8 12 (n)).toArray), .slice bp bl bc, .slice sp len cap] w fun e w' => (∃ v, e = .returned (.tuple #[v, .int .i64 (aoE k n bl b len z)]) ∧ NewF w' w.heap.size (aoL k n bl b len z) (hxor k 1 n z) v) ∧ Below w.heap.size w w' := by
  have g1 : ¬ (len : Int) < 16 := by omega
  have hz1 : In 256 (len - 16) z := fun j hj => hz j (by omega)
  have hz2 : In 256 16 (fun j => z (len - 16 + j)) := fun j hj => hz _ (by omega)
  obtain ⟨q, hq1, hq2⟩ := cut_hi (P := Tryd.prog) (t := 27) (by kernel_rfl) (fun _ => by kernel_rfl) sp len cap (len - 16) (by omega) hcap
  obtain ⟨q', hr1, hr2⟩ := cut_lo (P := Tryd.prog) (t := 27) (by kernel_rfl) (fun _ => by kernel_rfl) sp len cap (len - 16) (by omega) hcap
  rw [show len - (len - 16) = 16 by omega] at hr1 hr2
  obtain ⟨ad, rfl, _⟩ := hr2 w z hs 0 (by decide)
  have hcq : len - 16 ≤ cap := by omega
  have K := Kr.init w
  replace K := K.box .u8 32 k 36 (w.heap.size) rfl
  replace K := K.box .u8 12 n 52 (w.heap.size + 1) (by simp)
  go_enter Tryd.func18, Tryd.ntmps18
  go_upto_region 1 with fail
  generalize ((w.alloc (.cells (row .u8 32 k).toArray 36)).alloc (.cells (row .u8 12 n).toArray 52)) = w0 at K ⊢
  go_upto_region 3 with fail
  clear g1
  refine wp_region_list ?_
  refine pureL (.slice sp len cap) rfl (fun _ => by kernel_rfl) ?_
  simp only [aP, lI, l0, lS]
  refine pureL (.int .i64 (len : Int)) rfl (fun w => lenS _ 27 5 (sp) (len) (cap) rfl Tryd.underlying27 rfl w) ?_
  simp only [aP, lI, l0, lS]
  refine pureL (.int .i64 ((len - 16 : Nat) : Int)) rfl (fun w => subI .i64 _ _ _ _ _ _ _ rfl rfl rfl (by rw [IntKind.wrap_i64]; omega) w) ?_
  simp only [aP, lI, l0, lS]
  refine pureL (.int .i64 ((len - 16 : Nat) : Int)) rfl (fun _ => by kernel_rfl) ?_
  simp only [aP, lI, l0, lS]
  show Exit.then _ _ _ _ _
  go_upto_region 4 with fail
  have zX := K.size
  refine wp_region_held_drew (S := fun w' => Kr w (w.heap.size + 1 + 1) [(w.heap.size + 1, .u8, 12, n), (w.heap.size, .u8, 32, k)] [] w') (by kernel_rfl) K.drew ?_
  clear K
  intro K
  refine pureHg (i := 0) (some 19) rfl (.slice sp len cap) rfl rfl (fun _ => by kernel_rfl) K ?_
  simp only [aP, lI, l0, lS]
  refine pureHg (i := 1) (some 20) rfl (.int .i64 ((len - 16 : Nat) : Int)) rfl rfl (fun _ => by kernel_rfl) K ?_
  simp only [aP, lI, l0, lS]
  refine pureHg (i := 2) (some 21) rfl (.slice q (len - 16) cap) rfl rfl (fun w => cutHi _ _ _ _ _ _ rfl rfl rfl (hq1 w)) K ?_
  simp only [aP, lI, l0, lS]
  refine pureHg (i := 3) (some 22) rfl (.slice sp len cap) rfl rfl (fun _ => by kernel_rfl) K ?_
  simp only [aP, lI, l0, lS]
  refine pureHg (i := 4) (some 23) rfl (.int .i64 ((len - 16 : Nat) : Int)) rfl rfl (fun _ => by kernel_rfl) K ?_
  simp only [aP, lI, l0, lS]
  refine pureHg (i := 5) (some 24) rfl (.slice (some ad) 16 (cap - (len - 16))) rfl rfl (fun w => cutOp _ _ _ _ _ _ rfl rfl rfl (hr1 w)) K ?_
  simp only [aP, lI, l0, lS]
  refine pureHg (i := 6) (some 25) rfl (.pointer (some ad)) rfl rfl (fun _ => by kernel_rfl) K ?_
  simp only [aP, lI, l0, lS]
  refine readHg (i := 7) (some 26) rfl (.agg (row .u8 16 ((fun j => z (len - 16 + j)))).toArray) rfl rfl (fun w' h => loadArr 42 _ ad 16 (fun j => z (len - 16 + j)) _ rfl rfl Tryd.underlying42 rfl (by kernel_rfl) (hr2 w' z (hs.below h.below (Nat.le_refl _)))) K ?_
  simp only [aP, lI, l0, lS]
  generalize w0.drew = w1 at K ⊢
  refine actH (i := 8) (w' := w1.alloc (.cells zu8_16 42)) (some 12) rfl (.pointer (some ⟨w1.heap.size, 0, none⟩)) (by kernel_rfl) rfl rfl (by kernel_rfl) (K.call ((Below.refl w1.heap.size w1).alloc (Nat.le_refl _) _)) ?_
  simp only [aP, lI, l0, lS]
  refine pureHg (i := 9) (some 11) rfl (.slice q (len - 16) cap) rfl rfl (fun _ => by kernel_rfl) (K.call ((Below.refl w1.heap.size w1).alloc (Nat.le_refl _) _)) ?_
  simp only [aP, lI, l0, lS]
  have KF := K.fresh .u8 16 (fun j => z (len - 16 + j)) zu8_16 42 (tag_zero _ _ _ rfl).there
  have zT := K.size
  refine storesH (i := 10) none rfl .u8 16 (fun j => z (len - 16 + j)) w1.heap.size 42 _ _ (by kernel_rfl) rfl rfl rfl rfl rfl (room_of (tag_zero _ _ _ rfl).there) (tag_info' _) (KF.sub _ (fun p hp => mT _ hp) |>.back _ _ (fun _ hp => hp) (fun p hp => by rcases List.mem_cons.1 hp with rfl | hp; simp only; omega; obtain rfl := List.mem_singleton.1 hp; simp only; omega) (fun _ hq => by cases hq) (by omega) (by omega)) ?_
  simp only [Act.put]
  refine wpAnyH_done (by kernel_rfl) ?_ _
  clear K
  generalize ((w1.alloc (.cells zu8_16 42)).setCells w1.heap.size 0 (row .u8 16 (fun j => z (len - 16 + j)))) = w2 at KF ⊢
  generalize w1.heap.size = T at *
  go_upto_region 5 with fail
  refine wp_region_held_drew (S := fun w' => Kr w (T + 1) [(T, .u8, 16, (fun j => z (len - 16 + j))), (w.heap.size + 1, .u8, 12, n), (w.heap.size, .u8, 32, k)] [] w') (by kernel_rfl) KF.drew ?_
  clear KF
  intro K
  refine rowKH (i := 0) (some 27) rfl .u8 16 ((fun j => z (len - 16 + j))) (T) 0 42 _ _ rfl rfl rfl rfl (by kernel_rfl) (by kernel_rfl) (by kernel_rfl) (fun _ _ _ h => h) Tryd.underlying42 rfl (tag_info _) K (fun _ h => (h.get _ _ _ _ mS).range) ?_
  simp only [aP, lI, l0, lS]
  refine rowKH (i := 1) (some 28) rfl .u8 32 (k) (w.heap.size) 0 36 _ _ rfl rfl rfl rfl (by kernel_rfl) (by kernel_rfl) (by kernel_rfl) (fun _ _ _ h => h) Tryd.underlying36 rfl (key_info _) K (fun _ h => (h.get _ _ _ _ (mT _ (mT _ mS))).range) ?_
  simp only [aP, lI, l0, lS]
  refine rowKH (i := 2) (some 29) rfl .u8 12 (n) (w.heap.size + 1) 0 52 _ _ rfl rfl rfl rfl (by kernel_rfl) (by kernel_rfl) (by kernel_rfl) (fun _ _ _ h => h) Tryd.underlying52 rfl (hn_info _) K (fun _ h => (h.get _ _ _ _ (mT _ mS)).range) ?_
  simp only [aP, lI, l0, lS]
  refine pureHg (i := 3) (some 30) rfl (.slice bp bl bc) rfl rfl (fun _ => by kernel_rfl) K ?_
  simp only [aP, lI, l0, lS]
  refine pureHg (i := 4) (some 31) rfl (.slice q (len - 16) cap) rfl rfl (fun _ => by kernel_rfl) K ?_
  simp only [aP, lI, l0, lS]
  refine callH (i := 5) (some 32) rfl (by kernel_rfl) rfl rfl (fun _ => by kernel_rfl) (tagOf_any k n hk hn bp bl bc hbl hbc b hb q (len - 16) cap (by omega) hcq z hz1 _ (hg.below K.below hg.size) (hsb.below K.below (Nat.le_refl _)) (hq2 _ z (hs.below K.below (Nat.le_refl _)))) ?_
  rintro e w4 ⟨rfl, l⟩
  replace K := K.call l
  clear l
  refine ⟨_, rfl, K, ?_⟩
  simp only [aP, lI, l0, lS]
  refine callH (i := 6) (some 33) rfl (by kernel_rfl) rfl rfl (fun _ => by kernel_rfl) (psame_any (fun j => z (len - 16 + j)) (atag k n bl b (len - 16) z) hz2 (atag_in _ _ _ _ _ _ _) _ (hg.c.below K.below hg.size)) ?_
  rintro e w5 ⟨rfl, l⟩
  replace K := K.call l
  clear l
  refine ⟨_, rfl, K, ?_⟩
  simp only [aP, lI, l0, lS]
  by_cases hok : aok k n bl b len z
  · have hd : decide (val 256 (fun j => z (len - 16 + j)) 16 = val 256 (atag k n bl b (len - 16) z) 16) = true := decide_eq_true (by rw [atag_val]; exact hok.2.symm)
    rw [hd]
    have e1 : aoL k n bl b len z = len - 16 := by unfold aoL; rw [if_pos hok]
    have e2 : aoE k n bl b len z = 0 := by unfold aoE; rw [if_neg (by omega), if_pos hok]
    have HE := show Hid _ from And.intro e1 e2
    clear e1 e2
    refine pureHg (i := 7) (some 34) rfl (.bool false) rfl rfl (fun _ => by kernel_rfl) K ?_
    simp only [aP, lI, l0, lS]
    refine wpAnyH_done (by kernel_rfl) ?_ _
    clear hd hok
    go_upto_region 7 with fail
    refine wp_region_list ?_
    refine rowKL .u8 32 (k) (w.heap.size) 0 36 _ _ rfl rfl rfl Tryd.underlying36 rfl (key_info _) ((K.get _ _ _ _ (mT _ (mT _ mS))).range) ?_
    simp only [aP, lI, l0, lS]
    refine rowKL .u8 12 (n) (w.heap.size + 1) 0 52 _ _ rfl rfl rfl Tryd.underlying52 rfl (hn_info _) ((K.get _ _ _ _ (mT _ mS)).range) ?_
    simp only [aP, lI, l0, lS]
    refine pureL (.slice q (len - 16) cap) rfl (fun _ => by kernel_rfl) ?_
    simp only [aP, lI, l0, lS]
    refine callL rfl (fun _ => by kernel_rfl) (hxor_any k 1 n hk hn (by decide) q (len - 16) cap (by omega) z _ (hg.h.below K.below hg.size) (hq2 _ z (hs.below K.below (Nat.le_refl _)))) ?_
    rintro e w6 ⟨X, rfl, ⟨hX1, hX2, HX⟩, l⟩
    replace hX1 := Nat.le_trans K.below.size hX1
    replace K := K.call l
    clear l
    refine ⟨_, rfl, ?_⟩
    simp only [aP, lI, l0, lS]
    refine pureL (.slice (some ⟨X, 0, none⟩) (len - 16) (len - 16)) rfl (fun _ => by kernel_rfl) ?_
    simp only [aP, lI, l0, lS]
    refine pureL (.int .i64 0) rfl (fun _ => by kernel_rfl) ?_
    simp only [aP, lI, l0, lS]
    have hB := K.below
    clear K
    show Exit.then _ _ _ _ _
    go_wp2
    go_ret2
    exact ⟨⟨.slice (some ⟨X, 0, none⟩) (len - 16) (len - 16), by rw [HE.out.2]; rfl, by rw [HE.out.1]; exact NewF.of_has HX (Nat.le_refl _) hX1 hX2⟩, hB⟩
  · have hd : decide (val 256 (fun j => z (len - 16 + j)) 16 = val 256 (atag k n bl b (len - 16) z) 16) = false := decide_eq_false (by rw [atag_val]; exact fun h => hok ⟨hl, h.symm⟩)
    rw [hd]
    have e1 : aoL k n bl b len z = 0 := by unfold aoL; rw [if_neg hok]
    have e2 : aoE k n bl b len z = 70 := by unfold aoE; rw [if_neg (by omega), if_neg hok]
    have HE := show Hid _ from And.intro e1 e2
    clear e1 e2
    refine pureHg (i := 7) (some 34) rfl (.bool true) rfl rfl (fun _ => by kernel_rfl) K ?_
    simp only [aP, lI, l0, lS]
    refine wpAnyH_done (by kernel_rfl) ?_ _
    have hB := K.below
    clear hd hok K
    go_wp2
    go_ret2
    exact ⟨⟨.slice none 0 0, by rw [HE.out.2]; rfl, by rw [HE.out.1]; exact NewF.nil _ _ _⟩, hB⟩
theorem aopen_new (k n : Nat → Int) (hk : In 256 32 k) (hn : In 256 12 n) (bp : Option Addr) (bl bc : Nat) (hbl : bl ≤ 140737488351232) (hbc : bl ≤ bc) (b : Nat → Int) (hb : In 256 bl b) (sp : Option Addr) (len cap : Nat) (hlen : len ≤ 140737488351248) (hcap : len ≤ cap) (z : Nat → Int) (hz : In 256 len z) (w : World) (hg : AGlob w) (hsb : Src w bp bl b) (hs : Src w sp len z) :
    Calls Tryd.prog 18 #[(.agg (row .u8 32 (k)).toArray), (.agg (row .u8 12 (n)).toArray), .slice bp bl bc, .slice sp len cap] w fun e w' => (∃ v, e = .returned (.tuple #[v, .int .i64 (aoE k n bl b len z)]) ∧ NewF w' w.heap.size (aoL k n bl b len z) (hxor k 1 n z) v) ∧ Below w.heap.size w w' := by
  by_cases hl : len < 16
  · have e1 : aoL k n bl b len z = 0 := by unfold aoL; rw [if_neg (fun h => by have := h.1; omega)]
    have e2 : aoE k n bl b len z = 3 := by unfold aoE; rw [if_pos hl]
    rw [e1, e2]
    exact (aopen_short k n bp bl bc sp len cap hl w).mono fun e w' h => ⟨⟨_, h.1, NewF.nil _ _ _⟩, h.2⟩
  · exact aopen_long k n hk hn bp bl bc hbl hbc b hb sp len cap hlen hcap (by omega) z hz w hg hsb hs
def bplc (j : Nat) : Int := if j % 4 = 0 then (pA (j / 4) : Int) else if j % 4 = 1 then (pB (j / 4) : Int) else if j % 4 = 2 then (pC (j / 4) : Int) else (pD (j / 4) : Int)
structure BGlob (w : World) : Prop where
  first : ∀ j, j < 8 → w.cell? ⟨0, j, none⟩ = some (.int .u32 (iv j))
  order : ∀ j, j < 160 → w.cell? ⟨2, j, none⟩ = some (.int .u8 (sgL.getD j 0 : Nat))
  place : ∀ j, j < 32 → w.cell? ⟨1, j, none⟩ = some (.int .u8 (bplc j))
  size : 7 ≤ w.heap.size
theorem BGlob.below {w w' : World} (h : BGlob w) {B : Nat} (l : Below B w w') (hB : 7 ≤ B) : BGlob w' :=
  ⟨fun j hj => by rw [l.cell (p := ⟨0, j, none⟩) (Nat.lt_of_lt_of_le (show 0 < 7 by decide) hB)]; exact h.first j hj, fun j hj => by rw [l.cell (p := ⟨2, j, none⟩) (Nat.lt_of_lt_of_le (show 2 < 7 by decide) hB)]; exact h.order j hj, fun j hj => by rw [l.cell (p := ⟨1, j, none⟩) (Nat.lt_of_lt_of_le (show 1 < 7 by decide) hB)]; exact h.place j hj, Nat.le_trans h.size l.size⟩
theorem BGlob.four {w : World} (h : BGlob w) (k : Nat) (hk : k < 8) : w.cell? ⟨1, k * 4, none⟩ = some (.int .u8 (pA k)) ∧ w.cell? ⟨1, k * 4 + 1, none⟩ = some (.int .u8 (pB k)) ∧ w.cell? ⟨1, k * 4 + 2, none⟩ = some (.int .u8 (pC k)) ∧ w.cell? ⟨1, k * 4 + 3, none⟩ = some (.int .u8 (pD k)) := by
  have e1 : bplc (k * 4) = (pA k : Int) := by unfold bplc; rw [if_pos (by omega), show k * 4 / 4 = k by omega]
  have e2 : bplc (k * 4 + 1) = (pB k : Int) := by unfold bplc; rw [if_neg (by omega), if_pos (by omega), show (k * 4 + 1) / 4 = k by omega]
  have e3 : bplc (k * 4 + 2) = (pC k : Int) := by unfold bplc; rw [if_neg (by omega), if_neg (by omega), if_pos (by omega), show (k * 4 + 2) / 4 = k by omega]
  have e4 : bplc (k * 4 + 3) = (pD k : Int) := by unfold bplc; rw [if_neg (by omega), if_neg (by omega), if_neg (by omega), show (k * 4 + 3) / 4 = k by omega]
  rw [← e1, ← e2, ← e3, ← e4]
  exact ⟨h.place _ (by omega), h.place _ (by omega), h.place _ (by omega), h.place _ (by omega)⟩
theorem BGlob.sg {w : World} (h : BGlob w) (r i : Nat) (hr : r < 10) (hi : i < 16) : w.cell? ⟨2, r * 16 + i, none⟩ = some (.int .u8 (sg r i)) := by
  have e : (sgL.getD (r * 16 + i) 0 : Nat) = Go.Proofs.YtgfpflcoknpbdaaDoor.sg r i := by unfold Go.Proofs.YtgfpflcoknpbdaaDoor.sg; rw [Nat.mul_comm]
  rw [← e]
  exact h.order _ (by omega)
structure SGlob (w : World) : Prop where
  a : AGlob w
  b : BGlob w
theorem SGlob.size {w : World} (g : SGlob w) : 7 ≤ w.heap.size := g.b.size
theorem SGlob.below {w w' : World} (g : SGlob w) (l : Below w.heap.size w w') : SGlob w' := ⟨g.a.below l g.size, g.b.below l g.size⟩
theorem SGlob.mm {w w' : World} (g : SGlob w) {l : List (Nat × List Value)} (h : Mm w l w') : SGlob w' := g.below h.below
structure SymOK (pcs : Sym → List Value) : Prop where
  new : ∀ (w0 w : World) (l : List (Nat × List Value)), SGlob w0 → Mm w0 l w → Calls Tryd.prog 6 #[] w fun e w' => ∃ Q, e = .returned (.pointer (some ⟨Q, 0, none⟩)) ∧ w.heap.size ≤ Q ∧ Mm w0 ((Q, pcs snew) :: l) w' ∧ Below w.heap.size w w'
  hash : ∀ (w0 w : World) (R : Nat) (l : List (Nat × List Value)) (s : Sym), SGlob w0 → Mm w0 ((R, pcs s) :: l) w → Calls Tryd.prog 13 #[.pointer (some ⟨R, 0, none⟩)] w fun e w' => e = .returned (.agg (row .u8 32 (s.h)).toArray) ∧ Below w.heap.size w w'
  mix : ∀ (w0 w : World) (R : Nat) (l : List (Nat × List Value)) (s : Sym), SGlob w0 → SymW s → ∀ (sp : Option Addr) (cap : Nat) (b : List Int), b.length ≤ 140737488351248 → b.length ≤ cap → (sp = none → cap = 0) → Byts b → Mm w0 ((R, pcs s) :: l) w → SrcA [R] w sp b.length (bl b) → Calls Tryd.prog 8 #[.pointer (some ⟨R, 0, none⟩), .slice sp b.length cap] w fun e w' => e = .returned (.tuple #[]) ∧ Mm w0 ((R, pcs (smix s b)) :: l) w' ∧ Off [R] w w'
  key : ∀ (w0 w : World) (R : Nat) (l : List (Nat × List Value)) (s : Sym), SGlob w0 → SymW s → ∀ (sp : Option Addr) (cap : Nat) (b : List Int), b.length ≤ 140737488351232 → b.length ≤ cap → (sp = none → cap = 0) → Byts b → Mm w0 ((R, pcs s) :: l) w → SrcA [R] w sp b.length (bl b) → Calls Tryd.prog 9 #[.pointer (some ⟨R, 0, none⟩), .slice sp b.length cap] w fun e w' => e = .returned (.tuple #[]) ∧ Mm w0 ((R, pcs (skey s b)) :: l) w' ∧ Off [R] w w'
  sel : ∀ (w0 w : World) (R : Nat) (l : List (Nat × List Value)) (s : Sym), SGlob w0 → SymW s → s.n < 4611686018427387904 → ∀ (sp : Option Addr) (cap : Nat) (b : List Int), b.length ≤ 140737488351232 → b.length ≤ cap → (sp = none → cap = 0) → Byts b → Mm w0 ((R, pcs s) :: l) w → SrcA [R] w sp b.length (bl b) → Calls Tryd.prog 11 #[.pointer (some ⟨R, 0, none⟩), .slice sp b.length cap] w fun e w' => (∃ v, e = .returned v ∧ NewL w' w.heap.size (sout s b) v) ∧ Mm w0 ((R, pcs (sseal s b)) :: l) w' ∧ Off [R] w w'
  opn : ∀ (w0 w : World) (R : Nat) (l : List (Nat × List Value)) (s : Sym), SGlob w0 → SymW s → s.n < 4611686018427387904 → ∀ (sp : Option Addr) (cap : Nat) (b : List Int), b.length ≤ 140737488351248 → b.length ≤ cap → (sp = none → cap = 0) → Byts b → Mm w0 ((R, pcs s) :: l) w → SrcA [R] w sp b.length (bl b) → Calls Tryd.prog 10 #[.pointer (some ⟨R, 0, none⟩), .slice sp b.length cap] w fun e w' => (∃ v, e = .returned (.tuple #[v, .int .i64 (soE s b)]) ∧ NewL w' w.heap.size (soT s b) v) ∧ Mm w0 ((R, pcs (sopen s b)) :: l) w' ∧ Off [R] w w'
  split : ∀ (w0 w : World) (R : Nat) (l : List (Nat × List Value)) (s : Sym), SGlob w0 → SymW s → Mm w0 ((R, pcs s) :: l) w → Calls Tryd.prog 12 #[.pointer (some ⟨R, 0, none⟩)] w fun e w' => e = .returned (.tuple #[(.agg (row .u8 32 (kA s.c 0 (bl []))).toArray), (.agg (row .u8 32 (kB s.c 0 (bl []))).toArray)]) ∧ Below w.heap.size w w'
theorem sseal_bare (b : List Int) : sseal snew b = smix snew b := rfl
theorem soE_short {s : Sym} {b : List Int} (h : s.has = true) (hb : b.length < 16) : soE s b = 3 := by unfold soE aoE; rw [if_pos h, if_pos hb]
theorem shown12_any (pcs : Sym → List Value) (hp : SymOK pcs) (w : World) (hg : SGlob w) :
    Calls Tryd.prog 5 #[] w fun e w' => e = .returned (.bool true) ∧ Below w.heap.size w w' := by
  have hw1 : SymW (smix snew [120]) := smix_w snew_w _
  have hw2 : SymW (skey (smix snew [120]) [121]) := skey_w hw1 _
  have M := Mm.init w
  go_enter Tryd.func5, Tryd.ntmps5
  go_upto_region 0 with fail
  refine wp_region_list ?_
  refine readL (.bool false) rfl (by kernel_rfl) ?_
  simp only [aP, lI, l0]
  first | show Exit.then _ _ _ _ _ | show Exit.inBlock _ _ _ _ _
  go_upto_region 1 with fail
  refine wp_region_list ?_
  refine callL rfl (fun _ => by kernel_rfl) (hp.new w _ _ hg M) ?_
  rintro e w1 ⟨B1, rfl, hnew_B1, M', l⟩
  clear M
  have M := M'
  clear M'
  clear l
  refine ⟨_, rfl, ?_⟩
  simp only [aP, lI, l0, lS]
  refine readL (.pointer (some ⟨B1, 0, none⟩)) rfl (by kernel_rfl) ?_
  simp only [aP, lI, l0, lS]
  first | show Exit.then _ _ _ _ _ | show Exit.inBlock _ _ _ _ _
  go_upto_region 2 with fail
  refine wp_region_list ?_
  refine callL rfl (fun _ => by kernel_rfl) (hp.new w _ _ hg M) ?_
  rintro e w2 ⟨B2, rfl, hnew_B2, M', l⟩
  clear M
  have M := M'
  clear M'
  clear l
  refine ⟨_, rfl, ?_⟩
  simp only [aP, lI, l0, lS]
  refine readL (.pointer (some ⟨B2, 0, none⟩)) rfl (by kernel_rfl) ?_
  simp only [aP, lI, l0, lS]
  first | show Exit.then _ _ _ _ _ | show Exit.inBlock _ _ _ _ _
  go_upto_region 3 with fail
  refine wp_region_list ?_
  refine readL (.pointer (some ⟨B1, 0, none⟩)) rfl (by kernel_rfl) ?_
  simp only [aP, lI, l0, lS]
  refine readL (.bool false) rfl (by kernel_rfl) ?_
  simp only [aP, lI, l0, lS]
  refine readL (.bool false) rfl (by kernel_rfl) ?_
  simp only [aP, lI, l0, lS]
  refine readL (.pointer (some ⟨B2, 0, none⟩)) rfl (by kernel_rfl) ?_
  simp only [aP, lI, l0, lS]
  refine readL (.bool false) rfl (by kernel_rfl) ?_
  simp only [aP, lI, l0, lS]
  refine readL (.bool false) rfl (by kernel_rfl) ?_
  simp only [aP, lI, l0, lS]
  first | show Exit.then _ _ _ _ _ | show Exit.inBlock _ _ _ _ _
  go_upto_region 5 with fail
  refine wp_region_list ?_
  refine readL (.pointer (some ⟨B1, 0, none⟩)) rfl (by kernel_rfl) ?_
  simp only [aP, lI, l0, lS]
  refine actL (w' := w2.alloc (.cells (row .u8 1 (bl [120])).toArray 5)) (.slice (some ⟨w2.heap.size, 0, none⟩) 1 1) rfl (by kernel_rfl) ?_
  simp only [aP, lI, l0, lS]
  refine actL (.slice (some ⟨w2.heap.size, 0, none⟩) 1 1) rfl (conv_const 27 5 (row .u8 1 (bl [120])).toArray 1 1 _ rfl rfl Tryd.underlying27 Tryd.underlying5) ?_
  simp only [aP, lI, l0, lS]
  have A_3 : SrcA [B2, B1] (w2.alloc (.cells (row .u8 1 (bl [120])).toArray 5 ((row .u8 1 (bl [120])).toArray.size, (row .u8 1 (bl [120])).toArray.size + 1))) (some ⟨w2.heap.size, 0, none⟩) 1 (bl [120]) := ⟨(has_marked w2 .u8 1 (bl [120]) 5).src0, fun ad e _ hm => by
    injection e with e
    subst e
    simp only [List.mem_cons, List.not_mem_nil, or_false] at hm
    have h0 := M.lt mS
    have h1 := M.lt (mT _ mS)
    omega⟩
  have hlb := (Below.refl w2.heap.size w2).alloc (Nat.le_refl _) (.cells (row .u8 1 (bl [120])).toArray 5 ((row .u8 1 (bl [120])).toArray.size, (row .u8 1 (bl [120])).toArray.size + 1))
  replace M := M.call hlb
  clear hlb
  generalize w2.alloc (.cells (row .u8 1 (bl [120])).toArray 5 ((row .u8 1 (bl [120])).toArray.size, (row .u8 1 (bl [120])).toArray.size + 1)) = w3 at M A_3  ⊢
  generalize (some ⟨w2.heap.size, 0, none⟩ : Option Addr) = p3 at A_3 ⊢
  have hnp_3 : p3 = none → (1 : Nat) = 0 := fun e => by obtain ⟨ad, h1, _⟩ := A_3.1 0 (by decide); rw [e] at h1; cases h1
  replace M := M.swap
  have hlt_O_4_B1 := M.lt mS
  have hlt_O_4_B2 := M.lt (mT _ mS)
  refine callL rfl (fun _ => by kernel_rfl) (hp.sel w _ B1 _ snew hg snew_w (by decide) p3 1 ([120]) (by decide) (by decide) (fun e => hnp_3 e) (by unfold Byts; decide) M (A_3.less (fun b hb => by obtain rfl := List.mem_singleton.1 hb; simp))) ?_
  rintro e w4 ⟨⟨v_4, rfl, O_4⟩, M', o1⟩
  clear M
  have M := M'
  clear M'
  replace A_3 := A_3.off (o1.mono (fun x hx => by obtain rfl := List.mem_singleton.1 hx; simp))
  have hsz_4 := o1.size
  clear o1
  refine ⟨_, rfl, ?_⟩
  obtain ⟨p4, c4, rfl, hcc_4, hnn_4, _, _⟩ := id O_4
  replace O_4 : NewF w4 w3.heap.size (sout snew ([120])).length (bl (sout snew ([120]))) (.slice p4 (sout snew ([120])).length c4) := O_4
  simp only [aP, lI, l0, lS]
  clear A_3 hnp_3
  refine readL (.slice p4 ((sout snew ([120])).length) c4) rfl (by kernel_rfl) ?_
  simp only [aP, lI, l0, lS]
  first | show Exit.then _ _ _ _ _ | show Exit.inBlock _ _ _ _ _
  rw [sseal_bare] at M
  go_upto_region 6 with fail
  refine wp_region_list ?_
  refine readL (.pointer (some ⟨B2, 0, none⟩)) rfl (by kernel_rfl) ?_
  simp only [aP, lI, l0, lS]
  refine actL (w' := w4.alloc (.cells (row .u8 1 (bl [120])).toArray 5)) (.slice (some ⟨w4.heap.size, 0, none⟩) 1 1) rfl (by kernel_rfl) ?_
  simp only [aP, lI, l0, lS]
  refine actL (.slice (some ⟨w4.heap.size, 0, none⟩) 1 1) rfl (conv_const 27 5 (row .u8 1 (bl [120])).toArray 1 1 _ rfl rfl Tryd.underlying27 Tryd.underlying5) ?_
  simp only [aP, lI, l0, lS]
  have A_5 : SrcA [B1, B2] (w4.alloc (.cells (row .u8 1 (bl [120])).toArray 5 ((row .u8 1 (bl [120])).toArray.size, (row .u8 1 (bl [120])).toArray.size + 1))) (some ⟨w4.heap.size, 0, none⟩) 1 (bl [120]) := ⟨(has_marked w4 .u8 1 (bl [120]) 5).src0, fun ad e _ hm => by
    injection e with e
    subst e
    simp only [List.mem_cons, List.not_mem_nil, or_false] at hm
    have h0 := M.lt mS
    have h1 := M.lt (mT _ mS)
    omega⟩
  have hlb := (Below.refl w4.heap.size w4).alloc (Nat.le_refl _) (.cells (row .u8 1 (bl [120])).toArray 5 ((row .u8 1 (bl [120])).toArray.size, (row .u8 1 (bl [120])).toArray.size + 1))
  replace M := M.call hlb
  replace O_4 := NewF.below O_4 hlb
  clear hlb
  generalize w4.alloc (.cells (row .u8 1 (bl [120])).toArray 5 ((row .u8 1 (bl [120])).toArray.size, (row .u8 1 (bl [120])).toArray.size + 1)) = w5 at M A_5 O_4 ⊢
  generalize (some ⟨w4.heap.size, 0, none⟩ : Option Addr) = p5 at A_5 ⊢
  have hnp_5 : p5 = none → (1 : Nat) = 0 := fun e => by obtain ⟨ad, h1, _⟩ := A_5.1 0 (by decide); rw [e] at h1; cases h1
  replace M := M.swap
  refine callL rfl (fun _ => by kernel_rfl) (hp.mix w _ B2 _ snew hg snew_w p5 1 ([120]) (by decide) (by decide) (fun e => hnp_5 e) (by unfold Byts; decide) M (A_5.less (fun b hb => by obtain rfl := List.mem_singleton.1 hb; simp))) ?_
  rintro e w6 ⟨rfl, M', o1⟩
  clear M
  have M := M'
  clear M'
  replace O_4 := NewF.off O_4 o1 (fun b hb => by obtain rfl := List.mem_singleton.1 hb; exact hlt_O_4_B2)
  replace A_5 := A_5.off (o1.mono (fun x hx => by obtain rfl := List.mem_singleton.1 hx; simp))
  clear o1
  refine ⟨_, rfl, ?_⟩
  simp only [aP, lI, l0, lS]
  clear A_5 hnp_5
  first | show Exit.then _ _ _ _ _ | show Exit.inBlock _ _ _ _ _
  go_upto_region 7 with fail
  refine wp_region_list ?_
  refine readL (.pointer (some ⟨B1, 0, none⟩)) rfl (by kernel_rfl) ?_
  simp only [aP, lI, l0, lS]
  replace M := M.swap
  refine callL rfl (fun _ => by kernel_rfl) (hp.hash w _ B1 _ (smix snew [120]) hg M) ?_
  rintro e w7 ⟨rfl, l⟩
  replace M := M.call l
  replace O_4 := NewF.below O_4 l
  clear l
  refine ⟨_, rfl, ?_⟩
  simp only [aP, lI, l0, lS]
  refine readL (.pointer (some ⟨B2, 0, none⟩)) rfl (by kernel_rfl) ?_
  simp only [aP, lI, l0, lS]
  replace M := M.swap
  refine callL rfl (fun _ => by kernel_rfl) (hp.hash w _ B2 _ (smix snew ([120])) hg M) ?_
  rintro e w8 ⟨rfl, l⟩
  replace M := M.call l
  replace O_4 := NewF.below O_4 l
  clear l
  refine ⟨_, rfl, ?_⟩
  simp only [aP, lI, l0, lS]
  refine readL (.bool true) rfl (eqlRow 32 .u8 ((smix snew [120]).h) ((smix snew ([120])).h) 36 5 _ _ _ rfl rfl rfl Tryd.underlying36 Tryd.underlying5 (fun _ => by kernel_rfl) (by kernel_rfl) (fun _ _ => rfl) _) ?_
  simp only [aP, lI, l0, lS]
  refine readL (.bool true) rfl (by kernel_rfl) ?_
  simp only [aP, lI, l0, lS]
  first | show Exit.then _ _ _ _ _ | show Exit.inBlock _ _ _ _ _
  go_upto_region 8 with fail
  refine wp_region_list ?_
  refine readL (.pointer (some ⟨B1, 0, none⟩)) rfl (by kernel_rfl) ?_
  simp only [aP, lI, l0, lS]
  refine actL (w' := w8.alloc (.cells (row .u8 1 (bl [121])).toArray 5)) (.slice (some ⟨w8.heap.size, 0, none⟩) 1 1) rfl (by kernel_rfl) ?_
  simp only [aP, lI, l0, lS]
  refine actL (.slice (some ⟨w8.heap.size, 0, none⟩) 1 1) rfl (conv_const 27 5 (row .u8 1 (bl [121])).toArray 1 1 _ rfl rfl Tryd.underlying27 Tryd.underlying5) ?_
  simp only [aP, lI, l0, lS]
  have A_9 : SrcA [B2, B1] (w8.alloc (.cells (row .u8 1 (bl [121])).toArray 5 ((row .u8 1 (bl [121])).toArray.size, (row .u8 1 (bl [121])).toArray.size + 1))) (some ⟨w8.heap.size, 0, none⟩) 1 (bl [121]) := ⟨(has_marked w8 .u8 1 (bl [121]) 5).src0, fun ad e _ hm => by
    injection e with e
    subst e
    simp only [List.mem_cons, List.not_mem_nil, or_false] at hm
    have h0 := M.lt mS
    have h1 := M.lt (mT _ mS)
    omega⟩
  have hlb := (Below.refl w8.heap.size w8).alloc (Nat.le_refl _) (.cells (row .u8 1 (bl [121])).toArray 5 ((row .u8 1 (bl [121])).toArray.size, (row .u8 1 (bl [121])).toArray.size + 1))
  replace M := M.call hlb
  replace O_4 := NewF.below O_4 hlb
  clear hlb
  generalize w8.alloc (.cells (row .u8 1 (bl [121])).toArray 5 ((row .u8 1 (bl [121])).toArray.size, (row .u8 1 (bl [121])).toArray.size + 1)) = w9 at M A_9 O_4 ⊢
  generalize (some ⟨w8.heap.size, 0, none⟩ : Option Addr) = p9 at A_9 ⊢
  have hnp_9 : p9 = none → (1 : Nat) = 0 := fun e => by obtain ⟨ad, h1, _⟩ := A_9.1 0 (by decide); rw [e] at h1; cases h1
  replace M := M.swap
  refine callL rfl (fun _ => by kernel_rfl) (hp.key w _ B1 _ (smix snew [120]) hg hw1 p9 1 ([121]) (by decide) (by decide) (fun e => hnp_9 e) (by unfold Byts; decide) M (A_9.less (fun b hb => by obtain rfl := List.mem_singleton.1 hb; simp))) ?_
  rintro e w10 ⟨rfl, M', o1⟩
  clear M
  have M := M'
  clear M'
  replace O_4 := NewF.off O_4 o1 (fun b hb => by obtain rfl := List.mem_singleton.1 hb; exact hlt_O_4_B1)
  replace A_9 := A_9.off (o1.mono (fun x hx => by obtain rfl := List.mem_singleton.1 hx; simp))
  clear o1
  refine ⟨_, rfl, ?_⟩
  simp only [aP, lI, l0, lS]
  clear A_9 hnp_9
  first | show Exit.then _ _ _ _ _ | show Exit.inBlock _ _ _ _ _
  go_upto_region 9 with fail
  refine wp_region_list ?_
  refine readL (.pointer (some ⟨B2, 0, none⟩)) rfl (by kernel_rfl) ?_
  simp only [aP, lI, l0, lS]
  refine actL (w' := w10.alloc (.cells (row .u8 1 (bl [121])).toArray 5)) (.slice (some ⟨w10.heap.size, 0, none⟩) 1 1) rfl (by kernel_rfl) ?_
  simp only [aP, lI, l0, lS]
  refine actL (.slice (some ⟨w10.heap.size, 0, none⟩) 1 1) rfl (conv_const 27 5 (row .u8 1 (bl [121])).toArray 1 1 _ rfl rfl Tryd.underlying27 Tryd.underlying5) ?_
  simp only [aP, lI, l0, lS]
  have A_11 : SrcA [B1, B2] (w10.alloc (.cells (row .u8 1 (bl [121])).toArray 5 ((row .u8 1 (bl [121])).toArray.size, (row .u8 1 (bl [121])).toArray.size + 1))) (some ⟨w10.heap.size, 0, none⟩) 1 (bl [121]) := ⟨(has_marked w10 .u8 1 (bl [121]) 5).src0, fun ad e _ hm => by
    injection e with e
    subst e
    simp only [List.mem_cons, List.not_mem_nil, or_false] at hm
    have h0 := M.lt mS
    have h1 := M.lt (mT _ mS)
    omega⟩
  have hlb := (Below.refl w10.heap.size w10).alloc (Nat.le_refl _) (.cells (row .u8 1 (bl [121])).toArray 5 ((row .u8 1 (bl [121])).toArray.size, (row .u8 1 (bl [121])).toArray.size + 1))
  replace M := M.call hlb
  replace O_4 := NewF.below O_4 hlb
  clear hlb
  generalize w10.alloc (.cells (row .u8 1 (bl [121])).toArray 5 ((row .u8 1 (bl [121])).toArray.size, (row .u8 1 (bl [121])).toArray.size + 1)) = w11 at M A_11 O_4 ⊢
  generalize (some ⟨w10.heap.size, 0, none⟩ : Option Addr) = p11 at A_11 ⊢
  have hnp_11 : p11 = none → (1 : Nat) = 0 := fun e => by obtain ⟨ad, h1, _⟩ := A_11.1 0 (by decide); rw [e] at h1; cases h1
  replace M := M.swap
  refine callL rfl (fun _ => by kernel_rfl) (hp.key w _ B2 _ (smix snew ([120])) hg hw1 p11 1 ([121]) (by decide) (by decide) (fun e => hnp_11 e) (by unfold Byts; decide) M (A_11.less (fun b hb => by obtain rfl := List.mem_singleton.1 hb; simp))) ?_
  rintro e w12 ⟨rfl, M', o1⟩
  clear M
  have M := M'
  clear M'
  replace O_4 := NewF.off O_4 o1 (fun b hb => by obtain rfl := List.mem_singleton.1 hb; exact hlt_O_4_B2)
  replace A_11 := A_11.off (o1.mono (fun x hx => by obtain rfl := List.mem_singleton.1 hx; simp))
  clear o1
  refine ⟨_, rfl, ?_⟩
  simp only [aP, lI, l0, lS]
  clear A_11 hnp_11
  first | show Exit.then _ _ _ _ _ | show Exit.inBlock _ _ _ _ _
  go_upto_region 10 with fail
  refine wp_region_list ?_
  refine readL (.pointer (some ⟨B1, 0, none⟩)) rfl (by kernel_rfl) ?_
  simp only [aP, lI, l0, lS]
  refine actL (w' := w12.alloc (.cells (row .u8 1 (bl [120])).toArray 5)) (.slice (some ⟨w12.heap.size, 0, none⟩) 1 1) rfl (by kernel_rfl) ?_
  simp only [aP, lI, l0, lS]
  refine actL (.slice (some ⟨w12.heap.size, 0, none⟩) 1 1) rfl (conv_const 27 5 (row .u8 1 (bl [120])).toArray 1 1 _ rfl rfl Tryd.underlying27 Tryd.underlying5) ?_
  simp only [aP, lI, l0, lS]
  have A_13 : SrcA [B2, B1] (w12.alloc (.cells (row .u8 1 (bl [120])).toArray 5 ((row .u8 1 (bl [120])).toArray.size, (row .u8 1 (bl [120])).toArray.size + 1))) (some ⟨w12.heap.size, 0, none⟩) 1 (bl [120]) := ⟨(has_marked w12 .u8 1 (bl [120]) 5).src0, fun ad e _ hm => by
    injection e with e
    subst e
    simp only [List.mem_cons, List.not_mem_nil, or_false] at hm
    have h0 := M.lt mS
    have h1 := M.lt (mT _ mS)
    omega⟩
  have hlb := (Below.refl w12.heap.size w12).alloc (Nat.le_refl _) (.cells (row .u8 1 (bl [120])).toArray 5 ((row .u8 1 (bl [120])).toArray.size, (row .u8 1 (bl [120])).toArray.size + 1))
  replace M := M.call hlb
  replace O_4 := NewF.below O_4 hlb
  clear hlb
  generalize w12.alloc (.cells (row .u8 1 (bl [120])).toArray 5 ((row .u8 1 (bl [120])).toArray.size, (row .u8 1 (bl [120])).toArray.size + 1)) = w13 at M A_13 O_4 ⊢
  generalize (some ⟨w12.heap.size, 0, none⟩ : Option Addr) = p13 at A_13 ⊢
  have hnp_13 : p13 = none → (1 : Nat) = 0 := fun e => by obtain ⟨ad, h1, _⟩ := A_13.1 0 (by decide); rw [e] at h1; cases h1
  replace M := M.swap
  have hlt_O_14_B1 := M.lt mS
  have hlt_O_14_B2 := M.lt (mT _ mS)
  refine callL rfl (fun _ => by kernel_rfl) (hp.sel w _ B1 _ (skey (smix snew [120]) ([121])) hg hw2 (by decide) p13 1 ([120]) (by decide) (by decide) (fun e => hnp_13 e) (by unfold Byts; decide) M (A_13.less (fun b hb => by obtain rfl := List.mem_singleton.1 hb; simp))) ?_
  rintro e w14 ⟨⟨v_14, rfl, O_14⟩, M', o1⟩
  clear M
  have M := M'
  clear M'
  replace O_4 := NewF.off O_4 o1 (fun b hb => by obtain rfl := List.mem_singleton.1 hb; exact hlt_O_4_B1)
  replace A_13 := A_13.off (o1.mono (fun x hx => by obtain rfl := List.mem_singleton.1 hx; simp))
  have hsz_14 := o1.size
  clear o1
  refine ⟨_, rfl, ?_⟩
  obtain ⟨p14, c14, rfl, hcc_14, hnn_14, _, _⟩ := id O_14
  replace O_14 : NewF w14 w13.heap.size (sout (skey (smix snew [120]) ([121])) ([120])).length (bl (sout (skey (smix snew [120]) ([121])) ([120]))) (.slice p14 (sout (skey (smix snew [120]) ([121])) ([120])).length c14) := O_14
  simp only [aP, lI, l0, lS]
  clear A_13 hnp_13
  refine readL (.slice p14 ((sout (skey (smix snew [120]) ([121])) ([120])).length) c14) rfl (by kernel_rfl) ?_
  simp only [aP, lI, l0, lS]
  first | show Exit.then _ _ _ _ _ | show Exit.inBlock _ _ _ _ _
  go_upto_region 11 with fail
  refine wp_region_list ?_
  refine readL (.pointer (some ⟨B2, 0, none⟩)) rfl (by kernel_rfl) ?_
  simp only [aP, lI, l0, lS]
  refine actL (w' := w14.alloc (.cells (row .u8 1 (bl [120])).toArray 5)) (.slice (some ⟨w14.heap.size, 0, none⟩) 1 1) rfl (by kernel_rfl) ?_
  simp only [aP, lI, l0, lS]
  refine actL (.slice (some ⟨w14.heap.size, 0, none⟩) 1 1) rfl (conv_const 27 5 (row .u8 1 (bl [120])).toArray 1 1 _ rfl rfl Tryd.underlying27 Tryd.underlying5) ?_
  simp only [aP, lI, l0, lS]
  have A_15 : SrcA [B1, B2] (w14.alloc (.cells (row .u8 1 (bl [120])).toArray 5 ((row .u8 1 (bl [120])).toArray.size, (row .u8 1 (bl [120])).toArray.size + 1))) (some ⟨w14.heap.size, 0, none⟩) 1 (bl [120]) := ⟨(has_marked w14 .u8 1 (bl [120]) 5).src0, fun ad e _ hm => by
    injection e with e
    subst e
    simp only [List.mem_cons, List.not_mem_nil, or_false] at hm
    have h0 := M.lt mS
    have h1 := M.lt (mT _ mS)
    omega⟩
  have hlb := (Below.refl w14.heap.size w14).alloc (Nat.le_refl _) (.cells (row .u8 1 (bl [120])).toArray 5 ((row .u8 1 (bl [120])).toArray.size, (row .u8 1 (bl [120])).toArray.size + 1))
  replace M := M.call hlb
  replace O_4 := NewF.below O_4 hlb
  replace O_14 := NewF.below O_14 hlb
  clear hlb
  generalize w14.alloc (.cells (row .u8 1 (bl [120])).toArray 5 ((row .u8 1 (bl [120])).toArray.size, (row .u8 1 (bl [120])).toArray.size + 1)) = w15 at M A_15 O_4 O_14 ⊢
  generalize (some ⟨w14.heap.size, 0, none⟩ : Option Addr) = p15 at A_15 ⊢
  have hnp_15 : p15 = none → (1 : Nat) = 0 := fun e => by obtain ⟨ad, h1, _⟩ := A_15.1 0 (by decide); rw [e] at h1; cases h1
  replace M := M.swap
  have hlt_O_16_B2 := M.lt mS
  have hlt_O_16_B1 := M.lt (mT _ mS)
  refine callL rfl (fun _ => by kernel_rfl) (hp.opn w _ B2 _ (skey (smix snew ([120])) ([121])) hg hw2 (by decide) p15 1 ([120]) (by decide) (by decide) (fun e => hnp_15 e) (by unfold Byts; decide) M (A_15.less (fun b hb => by obtain rfl := List.mem_singleton.1 hb; simp))) ?_
  rintro e w16 ⟨⟨v_16, rfl, O_16⟩, M', o1⟩
  clear M
  have M := M'
  clear M'
  replace O_4 := NewF.off O_4 o1 (fun b hb => by obtain rfl := List.mem_singleton.1 hb; exact hlt_O_4_B2)
  replace O_14 := NewF.off O_14 o1 (fun b hb => by obtain rfl := List.mem_singleton.1 hb; exact hlt_O_14_B2)
  replace A_15 := A_15.off (o1.mono (fun x hx => by obtain rfl := List.mem_singleton.1 hx; simp))
  clear o1
  refine ⟨_, rfl, ?_⟩
  obtain ⟨p16, c16, rfl, hcc_16, hnn_16, _, _⟩ := id O_16
  replace O_16 : NewF w16 w15.heap.size (soT (skey (smix snew ([120])) ([121])) ([120])).length (bl (soT (skey (smix snew ([120])) ([121])) ([120]))) (.slice p16 (soT (skey (smix snew ([120])) ([121])) ([120])).length c16) := O_16
  simp only [aP, lI, l0, lS]
  clear A_15 hnp_15
  refine readL (.tuple #[.slice p16 ((soT (skey (smix snew ([120])) ([121])) ([120])).length) c16, .int .i64 (soE (skey (smix snew ([120])) ([121])) ([120]))]) rfl (by kernel_rfl) ?_
  simp only [aP, lI, l0, lS]
  refine readL (.slice p16 ((soT (skey (smix snew ([120])) ([121])) ([120])).length) c16) rfl (by kernel_rfl) ?_
  simp only [aP, lI, l0, lS]
  refine readL (.int .i64 (soE (skey (smix snew ([120])) ([121])) ([120]))) rfl (by kernel_rfl) ?_
  simp only [aP, lI, l0, lS]
  refine readL (.slice p16 ((soT (skey (smix snew ([120])) ([121])) ([120])).length) c16) rfl (by kernel_rfl) ?_
  simp only [aP, lI, l0, lS]
  refine readL (.int .i64 (soE (skey (smix snew ([120])) ([121])) ([120]))) rfl (by kernel_rfl) ?_
  simp only [aP, lI, l0, lS]
  first | show Exit.then _ _ _ _ _ | show Exit.inBlock _ _ _ _ _
  have hE3 : soE (skey (smix snew [120]) [121]) [120] = 3 := soE_short rfl (by decide)
  rw [sopen_turned (s := (skey (smix snew [120]) [121])) (f := [120]) (by rw [hE3]; decide)] at M
  go_upto_region 12 with fail
  refine wp_region_list ?_
  refine readL (.pointer (some ⟨B2, 0, none⟩)) rfl (by kernel_rfl) ?_
  simp only [aP, lI, l0, lS]
  refine readL (.slice p14 ((sout (skey (smix snew [120]) ([121])) ([120])).length) c14) rfl (by kernel_rfl) ?_
  simp only [aP, lI, l0, lS]
  have hlt_O_17_B2 := M.lt mS
  have hlt_O_17_B1 := M.lt (mT _ mS)
  refine callL rfl (fun _ => by kernel_rfl) (hp.opn w _ B2 _ (skey (smix snew [120]) [121]) hg hw2 (by decide) p14 c14 (sout (skey (smix snew [120]) ([121])) ([120])) (by rw [sout_length]; exact (by decide : 17 ≤ 140737488351248)) hcc_14 hnn_14 (sout_byts (by unfold Byts; decide)) M (NewF.srcA O_14 (fun b hb => by obtain rfl := List.mem_singleton.1 hb; exact hlt_O_14_B2))) ?_
  rintro e w17 ⟨⟨v_17, rfl, O_17⟩, M', o1⟩
  clear M
  have M := M'
  clear M'
  replace O_4 := NewF.off O_4 o1 (fun b hb => by obtain rfl := List.mem_singleton.1 hb; exact hlt_O_4_B2)
  replace O_14 := NewF.off O_14 o1 (fun b hb => by obtain rfl := List.mem_singleton.1 hb; exact hlt_O_14_B2)
  replace O_16 := NewF.off O_16 o1 (fun b hb => by obtain rfl := List.mem_singleton.1 hb; exact hlt_O_16_B2)
  clear o1
  refine ⟨_, rfl, ?_⟩
  obtain ⟨p17, c17, rfl, hcc_17, hnn_17, _, _⟩ := id O_17
  replace O_17 : NewF w17 w16.heap.size (soT (skey (smix snew [120]) [121]) (sout (skey (smix snew [120]) ([121])) ([120]))).length (bl (soT (skey (smix snew [120]) [121]) (sout (skey (smix snew [120]) ([121])) ([120])))) (.slice p17 (soT (skey (smix snew [120]) [121]) (sout (skey (smix snew [120]) ([121])) ([120]))).length c17) := O_17
  simp only [aP, lI, l0, lS]
  refine readL (.tuple #[.slice p17 ((soT (skey (smix snew [120]) [121]) (sout (skey (smix snew [120]) ([121])) ([120]))).length) c17, .int .i64 (soE (skey (smix snew [120]) [121]) (sout (skey (smix snew [120]) ([121])) ([120])))]) rfl (by kernel_rfl) ?_
  simp only [aP, lI, l0, lS]
  refine readL (.slice p17 ((soT (skey (smix snew [120]) [121]) (sout (skey (smix snew [120]) ([121])) ([120]))).length) c17) rfl (by kernel_rfl) ?_
  simp only [aP, lI, l0, lS]
  refine readL (.int .i64 (soE (skey (smix snew [120]) [121]) (sout (skey (smix snew [120]) ([121])) ([120])))) rfl (by kernel_rfl) ?_
  simp only [aP, lI, l0, lS]
  refine readL (.slice p17 ((soT (skey (smix snew [120]) [121]) (sout (skey (smix snew [120]) ([121])) ([120]))).length) c17) rfl (by kernel_rfl) ?_
  simp only [aP, lI, l0, lS]
  refine readL (.int .i64 (soE (skey (smix snew [120]) [121]) (sout (skey (smix snew [120]) ([121])) ([120])))) rfl (by kernel_rfl) ?_
  simp only [aP, lI, l0, lS]
  first | show Exit.then _ _ _ _ _ | show Exit.inBlock _ _ _ _ _
  rw [sopen_back] at M
  go_upto_region 13 with fail
  refine wp_region_list ?_
  refine readL (.slice p4 ((sout snew ([120])).length) c4) rfl (by kernel_rfl) ?_
  simp only [aP, lI, l0, lS]
  refine readL (.string (txt ((sout snew ([120])).length) (bl (sout snew ([120]))))) rfl (conv_txt 27 5 9 _ rfl Tryd.underlying27 Tryd.underlying5 Tryd.underlying9 p4 ((sout snew ([120])).length) c4 (bl (sout snew ([120]))) rfl _ (NewF.src O_4) (fun e => by have h1 := hnn_4 e; have h2 := hcc_4; omega)) ?_
  simp only [aP, lI, l0, lS]
  refine readL (.bool true) rfl (eqlS _ _ _ _ _ _ rfl rfl rfl (by kernel_rfl) _) ?_
  simp only [aP, lI, l0, lS]
  refine readL (.bool true) rfl (by kernel_rfl) ?_
  simp only [aP, lI, l0, lS]
  refine readL (.bool true) rfl (by kernel_rfl) ?_
  simp only [aP, lI, l0, lS]
  refine readL (.bool true) rfl (by kernel_rfl) ?_
  simp only [aP, lI, l0, lS]
  refine readL (.bool true) rfl (by kernel_rfl) ?_
  simp only [aP, lI, l0, lS]
  refine readL (.slice p14 ((sout (skey (smix snew [120]) ([121])) ([120])).length) c14) rfl (by kernel_rfl) ?_
  simp only [aP, lI, l0, lS]
  refine readL (.int .i64 (((sout (skey (smix snew [120]) ([121])) ([120])).length : Nat) : Int)) rfl (lenS _ 27 5 p14 ((sout (skey (smix snew [120]) ([121])) ([120])).length) c14 rfl Tryd.underlying27 rfl _) ?_
  simp only [aP, lI, l0, lS]
  refine readL (.bool true) rfl (eqlI .i64 _ _ _ _ _ _ rfl rfl rfl true (by rw [sout_length]; rfl) _) ?_
  simp only [aP, lI, l0, lS]
  refine readL (.bool true) rfl (by kernel_rfl) ?_
  simp only [aP, lI, l0, lS]
  refine readL (.bool true) rfl (by kernel_rfl) ?_
  simp only [aP, lI, l0, lS]
  refine readL (.int .i64 (soE (skey (smix snew ([120])) ([121])) ([120]))) rfl (by kernel_rfl) ?_
  simp only [aP, lI, l0, lS]
  refine readL (.bool true) rfl (eqlI .i64 _ _ _ _ _ _ rfl rfl rfl true (by rw [hE3]; rfl) _) ?_
  simp only [aP, lI, l0, lS]
  refine readL (.bool true) rfl (by kernel_rfl) ?_
  simp only [aP, lI, l0, lS]
  refine readL (.bool true) rfl (by kernel_rfl) ?_
  simp only [aP, lI, l0, lS]
  refine readL (.slice p17 ((soT (skey (smix snew [120]) [121]) (sout (skey (smix snew [120]) ([121])) ([120]))).length) c17) rfl (by kernel_rfl) ?_
  simp only [aP, lI, l0, lS]
  refine readL (.string (txt ((soT (skey (smix snew [120]) [121]) (sout (skey (smix snew [120]) ([121])) ([120]))).length) (bl (soT (skey (smix snew [120]) [121]) (sout (skey (smix snew [120]) ([121])) ([120])))))) rfl (conv_txt 27 5 9 _ rfl Tryd.underlying27 Tryd.underlying5 Tryd.underlying9 p17 ((soT (skey (smix snew [120]) [121]) (sout (skey (smix snew [120]) ([121])) ([120]))).length) c17 (bl (soT (skey (smix snew [120]) [121]) (sout (skey (smix snew [120]) ([121])) ([120])))) rfl _ (NewF.src O_17) (fun e => by have h1 := hnn_17 e; have h2 := hcc_17; omega)) ?_
  simp only [aP, lI, l0, lS]
  refine readL (.bool true) rfl (eqlS _ _ _ _ _ _ rfl rfl rfl (by rw [soT_back _ _ (by unfold Byts; decide)]; rfl) _) ?_
  simp only [aP, lI, l0, lS]
  refine readL (.bool true) rfl (by kernel_rfl) ?_
  simp only [aP, lI, l0, lS]
  refine readL (.bool true) rfl (by kernel_rfl) ?_
  simp only [aP, lI, l0, lS]
  refine readL (.int .i64 (soE (skey (smix snew [120]) [121]) (sout (skey (smix snew [120]) ([121])) ([120])))) rfl (by kernel_rfl) ?_
  simp only [aP, lI, l0, lS]
  refine readL (.bool true) rfl (eqlI .i64 _ _ _ _ _ _ rfl rfl rfl true (by rw [soE_back]; rfl) _) ?_
  simp only [aP, lI, l0, lS]
  refine readL (.bool true) rfl (by kernel_rfl) ?_
  simp only [aP, lI, l0, lS]
  refine readL (.bool true) rfl (by kernel_rfl) ?_
  simp only [aP, lI, l0, lS]
  refine readL (.pointer (some ⟨B1, 0, none⟩)) rfl (by kernel_rfl) ?_
  simp only [aP, lI, l0, lS]
  replace M := M.swap
  refine callL rfl (fun _ => by kernel_rfl) (hp.hash w _ B1 _ (sseal (skey (smix snew [120]) ([121])) ([120])) hg M) ?_
  rintro e w18 ⟨rfl, l⟩
  replace M := M.call l
  replace O_4 := NewF.below O_4 l
  replace O_14 := NewF.below O_14 l
  replace O_16 := NewF.below O_16 l
  replace O_17 := NewF.below O_17 l
  clear l
  refine ⟨_, rfl, ?_⟩
  simp only [aP, lI, l0, lS]
  refine readL (.pointer (some ⟨B2, 0, none⟩)) rfl (by kernel_rfl) ?_
  simp only [aP, lI, l0, lS]
  replace M := M.swap
  refine callL rfl (fun _ => by kernel_rfl) (hp.hash w _ B2 _ (sseal (skey (smix snew [120]) [121]) [120]) hg M) ?_
  rintro e w19 ⟨rfl, l⟩
  replace M := M.call l
  replace O_4 := NewF.below O_4 l
  replace O_14 := NewF.below O_14 l
  replace O_16 := NewF.below O_16 l
  replace O_17 := NewF.below O_17 l
  clear l
  refine ⟨_, rfl, ?_⟩
  simp only [aP, lI, l0, lS]
  refine readL (.bool true) rfl (eqlRow 32 .u8 ((sseal (skey (smix snew [120]) ([121])) ([120])).h) ((sseal (skey (smix snew [120]) [121]) [120]).h) 36 5 _ _ _ rfl rfl rfl Tryd.underlying36 Tryd.underlying5 (fun _ => by kernel_rfl) (by kernel_rfl) (fun _ _ => rfl) _) ?_
  simp only [aP, lI, l0, lS]
  refine readL (.bool true) rfl (by kernel_rfl) ?_
  simp only [aP, lI, l0, lS]
  refine readL (.bool true) rfl (by kernel_rfl) ?_
  simp only [aP, lI, l0]
  first | show Exit.then _ _ _ _ _ | show Exit.inBlock _ _ _ _ _
  have hB := M.below
  clear M O_4 O_14 O_16 O_17
  go_wp2
  go_ret
  exact ⟨rfl, hB⟩
end Go.Proofs.YtgfpflcoknpbdaaDoor
