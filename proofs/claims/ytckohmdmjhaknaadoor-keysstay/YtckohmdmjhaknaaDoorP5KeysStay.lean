/- Texts of Jp Hz El Opn Open15 Tb Door15, joined. -/
import Derived.Test.YtckohmdmjhaknaaDoorP2KeysStay
import Derived.Test.YtckohmdmjhaknaaDoorP4KeysStay
import Derived.Test.YtckohmdmjhaknaaDoorP1KeysStay
import Derived.ProofKit
import Derived.LaidMore
import Derived.OpenShut
import Derived.SizedLaws
import Derived.Deep.Strs
import Derived.Stop.Joined
import Derived.Test.YtckohmdmjhaknaaDoorRows
import Derived.JoinedCond
import Derived.Carry
set_option maxRecDepth 20000
set_option maxHeartbeats 64000000
namespace Go.Proofs.YtckohmdmjhaknaaDoor
open Go.RowKit
def knx (ll : Nat) (last : Nat → Int) (il : Nat) (inf : Nat → Int) (c : Int) : Nat → Int := app (app last ll inf) (ll + il) (fun _ => c)
theorem knx_in (ll : Nat) (last : Nat → Int) (il : Nat) (inf : Nat → Int) (c : Int) (hl : In 256 ll last) (hi : In 256 il inf) (hc : 0 ≤ c ∧ c < 256) : In 256 (ll + il + 1) (knx ll last il inf c) := app_in _ _ _ _ (app_in _ _ _ _ hl hi) (fun _ _ => hc)
theorem cat3k (ll : Nat) (last : Nat → Int) (il : Nat) (inf : Nat → Int) (c : Int) (j : Nat) : catz (pk3 ll il 1) (pk3 last inf (fun _ => c)) 3 j = knx ll last il inf c j := by
  show app (app (app (fun _ => 0) 0 last) (0 + ll) inf) (0 + ll + il) (fun _ => c) j = _
  unfold knx
  rw [Nat.zero_add]
  have e : app (fun _ => (0 : Int)) 0 last = last := by
    funext q
    unfold app
    rw [if_neg (Nat.not_lt_zero q), Nat.sub_zero]
  rw [e]
theorem knext_any (k : Nat → Int) (hk : In 256 32 k) (lp : Option Addr) (ll lc : Nat) (hll : ll ≤ 32) (hln : lp = none → lc = 0) (last : Nat → Int) (hla : In 256 ll last) (ip : Option Addr) (il ic : Nat) (hil : il ≤ 140737488351232) (hin : ip = none → ic = 0) (inf : Nat → Int) (hif : In 256 il inf) (c : Int) (hc : 0 ≤ c ∧ c < 256) (w : World) (hg : BGlob w) (hsl : Src w lp ll last) (hsi : Src w ip il inf) :
    Calls Tryd.prog 27 #[(.agg (row .u8 32 (k)).toArray), .slice lp ll lc, .slice ip il ic, .int .u8 c] w fun e w' => e = .returned (.agg (row .u8 32 (bmac 32 k (ll + il + 1) (knx ll last il inf c))).toArray) ∧ Below w.heap.size w w' := by
  have K := Kr.init w
  replace K := K.box .u8 32 k 23 (w.heap.size) rfl
  replace K := K.make 32 zu8_32 23 (w.heap.size + 1) (by simp) (key_zero _ _ _ (by simp)).there
  go_enter Tryd.func27, Tryd.ntmps27
  go_upto_region 1 with fail
  generalize ((w.alloc (.cells (row .u8 32 k).toArray 23)).alloc (.cells zu8_32 23)) = w0 at K ⊢
  refine wp_region_held_drew (S := fun w' => Kr w (w.heap.size + 1 + 1) [(w.heap.size, .u8, 32, k)] [(w.heap.size + 1, 32)] w') (by kernel_rfl) K.drew ?_
  clear K
  intro K
  generalize w0.drew = w1 at K ⊢
  refine pureHg (i := 0) (some 9) rfl (.slice (some ⟨w.heap.size, 0, none⟩) 32 32) rfl rfl (fun w' => cutAll _ _ _ _ rfl rfl (kcutAll w.heap.size w')) K ?_
  simp only [aP, lI, l0, lS]
  refine pureHg (i := 1) (some 10) rfl (.slice lp ll lc) rfl rfl (fun _ => by kernel_rfl) K ?_
  simp only [aP, lI, l0, lS]
  refine pureHg (i := 2) (some 11) rfl (.slice ip il ic) rfl rfl (fun _ => by kernel_rfl) K ?_
  simp only [aP, lI, l0, lS]
  refine pureHg (i := 3) (some 12) rfl (.int .u8 c) rfl rfl (fun _ => by kernel_rfl) K ?_
  simp only [aP, lI, l0, lS]
  have H1 := (Has.new w1 .u8 1 (fun _ => c) 5 w1.heap.size rfl).src0
  replace K := K.call ((Below.refl w1.heap.size w1).alloc (Nat.le_refl _) (.cells #[.int .u8 c] 5))
  refine actH (i := 4) (w' := w1.alloc (.cells #[.int .u8 c] 5)) (some 13) rfl (.slice (some ⟨w1.heap.size, 0, none⟩) 1 1) (by kernel_rfl) rfl rfl (by kernel_rfl) K ?_
  simp only [aP, lI, l0, lS]
  have HC := catIn3 (w1.alloc (.cells #[.int .u8 c] 5)).heap.size lp ip (some ⟨w1.heap.size, 0, none⟩) ll il 1 lc ic 1 last inf (fun _ => c) 51 rfl (hsl.below K.below (Nat.le_refl _)) (hsi.below K.below (Nat.le_refl _)) H1 hln hin (fun e => by cases e)
  generalize w1.alloc (.cells #[.int .u8 c] 5) = w2 at K HC ⊢
  clear H1
  replace K := K.call ((Below.refl w2.heap.size w2).alloc (Nat.le_refl _) (.cells #[.slice lp ll lc, .slice ip il ic, .slice (some ⟨w1.heap.size, 0, none⟩) 1 1] 51))
  refine actH (i := 5) (w' := w2.alloc (.cells #[.slice lp ll lc, .slice ip il ic, .slice (some ⟨w1.heap.size, 0, none⟩) 1 1] 51)) (some 14) rfl (.slice (some ⟨w2.heap.size, 0, none⟩) 3 3) (by kernel_rfl) rfl rfl (by kernel_rfl) K ?_
  simp only [aP, lI, l0, lS]
  generalize (w2.alloc (.cells #[.slice lp ll lc, .slice ip il ic, .slice (some ⟨w1.heap.size, 0, none⟩) 1 1] 51)) = w3 at K HC ⊢
  refine callH (i := 6) (some 15) rfl (by kernel_rfl) rfl rfl (fun _ => by kernel_rfl) (concat_any ⟨w2.heap.size, 0, none⟩ 3 3 _ _ _ _ (by decide) (by rw [tot3]; omega) _ HC) ?_
  rintro e w4 ⟨v, rfl, O, l⟩
  replace K := K.call l
  clear l HC
  rw [tot3] at O
  replace O := O.congr (fun j _ => cat3k ll last il inf c j)
  obtain ⟨p3, c3, rfl, hc3, S3⟩ := O.bytes
  have hn3 := O.nilCap
  clear O
  refine ⟨_, rfl, K, ?_⟩
  simp only [aP, lI, l0, lS]
  refine callH (i := 7) (some 16) rfl (by kernel_rfl) rfl rfl (fun _ => by kernel_rfl) (bmac_any (some ⟨w.heap.size, 0, none⟩) 32 32 (by decide) (by decide) (fun e => by cases e) k hk p3 (ll + il + 1) c3 (by omega) hc3 hn3 _ (knx_in ll last il inf c hla hif hc) _ (hg.below K.below hg.size) (K.get _ _ _ _ mS).src0 S3) ?_
  rintro e w5 ⟨rfl, l⟩
  replace K := K.call l
  clear l S3
  refine ⟨_, rfl, K, ?_⟩
  simp only [aP, lI, l0, lS]
  have hz' := (K.room _ mS).1
  refine storesH (i := 8) none rfl .u8 32 (bmac 32 k (ll + il + 1) (knx ll last il inf c)) (w.heap.size + 1) 23 _ _ (by kernel_rfl) rfl rfl rfl rfl rfl (room_of hz') (key_info' _) (K.fill _ _ mS _) ?_
  simp only [Act.put]
  refine wpAnyH_done (by kernel_rfl) ?_ _
  have hB := (K.fill _ _ mS (row .u8 32 (bmac 32 k (ll + il + 1) (knx ll last il inf c)))).below
  clear K
  generalize hGe : bmac 32 k (ll + il + 1) (knx ll last il inf c) = G at *
  go_wp2
  exact bodyPost_ret (v := (.agg (row .u8 32 (G)).toArray)) (results_row Tryd.results27 rfl (Has.all hz' .u8 G).range Tryd.underlying23 rfl (key_info G)) rfl ⟨by first | rfl | rw [hGe] | (rw [← hGe]; done), hB⟩
theorem kfirst_any (k : Nat → Int) (hk : In 256 32 k) (s : ByteArray) (hsz : s.size ≤ 1000) (w : World) (hg : BGlob w) :
    Calls Tryd.prog 25 #[(.agg (row .u8 32 (k)).toArray), .string s] w fun e w' => e = .returned (.agg (row .u8 32 (kT k s.size (zs s) 1)).toArray) ∧ Below w.heap.size w w' := by
  have K := Kr.init w
  replace K := K.box .u8 32 k 23 (w.heap.size) rfl
  replace K := K.make 32 zu8_32 23 (w.heap.size + 1) (by simp) (key_zero _ _ _ (by simp)).there
  go_enter Tryd.func25, Tryd.ntmps25
  go_upto_region 1 with fail
  generalize ((w.alloc (.cells (row .u8 32 k).toArray 23)).alloc (.cells zu8_32 23)) = w0 at K ⊢
  refine wp_region_list ?_
  refine rowKL .u8 32 (k) (w.heap.size) 0 23 _ _ rfl rfl rfl Tryd.underlying23 rfl (key_info _) ((K.get _ _ _ _ mS).range) ?_
  simp only [aP, lI, l0, lS]
  refine pureL (.string s) rfl (fun _ => by kernel_rfl) ?_
  simp only [aP, lI, l0, lS]
  refine actL (w' := Lib.bytesWorld w0 5 s) (.slice (some ⟨w0.heap.size, 0, none⟩) s.size (grownCap w0 s.size 0 5)) rfl (convStr 9 51 5 _ s rfl rfl Tryd.underlying9 Tryd.underlying51 Tryd.underlying5) ?_
  simp only [aP, lI, l0, lS]
  have hs := bytes_src w0 5 s
  replace K := K.call (bytes_below w0 5 s)
  generalize Lib.bytesWorld w0 5 s = w1 at K hs ⊢
  generalize grownCap w0 s.size 0 5 = sc
  refine callL rfl (fun _ => by kernel_rfl) (knext_any k hk none 0 0 (by decide) (fun _ => rfl) (fun _ => 0) (fun _ hj => absurd hj (Nat.not_lt_zero _)) (some ⟨w0.heap.size, 0, none⟩) s.size sc (by omega) (fun e => by cases e) (zs s) (zs_in s _) 1 (by decide) _ (hg.below K.below hg.size) (fun j hj => absurd hj (Nat.not_lt_zero j)) hs) ?_
  rintro e w2 ⟨rfl, l⟩
  replace K := K.call l
  clear l hs
  rw [show bmac 32 k (0 + s.size + 1) (knx 0 (fun _ => 0) s.size (zs s) 1) = kT k s.size (zs s) 1 from rfl]
  refine ⟨_, rfl, ?_⟩
  simp only [aP, lI, l0, lS]
  have hz' := (K.room _ mS).1
  refine storesL .u8 32 (kT k s.size (zs s) 1) (w.heap.size + 1) 23 _ _ rfl rfl rfl rfl (room_of hz') (key_info' _) ?_
  simp only [Act.put]
  have hB := (K.fill _ _ mS (row .u8 32 (kT k s.size (zs s) 1))).below
  clear K
  generalize hGe : kT k s.size (zs s) 1 = G at *
  show Exit.then _ _ _ _ _
  go_wp2
  exact bodyPost_ret (v := (.agg (row .u8 32 (G)).toArray)) (results_row Tryd.results25 rfl (Has.all hz' .u8 G).range Tryd.underlying23 rfl (key_info G)) rfl ⟨by first | rfl | rw [hGe] | (rw [← hGe]; done), hB⟩
theorem klater_any (k : Nat → Int) (hk : In 256 32 k) (w : World) (hg : BGlob w) :
    Calls Tryd.prog 21 #[(.agg (row .u8 32 (k)).toArray)] w fun e w' => e = .returned (.agg (row .u8 32 (kT k 12 (zs sLater) 1)).toArray) ∧ Below w.heap.size w w' := by
  have K := Kr.init w
  replace K := K.box .u8 32 k 23 (w.heap.size) rfl
  replace K := K.make 32 zu8_32 23 (w.heap.size + 1) (by simp) (key_zero _ _ _ (by simp)).there
  go_enter Tryd.func21, Tryd.ntmps21
  go_upto_region 1 with fail
  generalize ((w.alloc (.cells (row .u8 32 k).toArray 23)).alloc (.cells zu8_32 23)) = w0 at K ⊢
  refine wp_region_list ?_
  refine rowKL .u8 32 (k) (w.heap.size) 0 23 _ _ rfl rfl rfl Tryd.underlying23 rfl (key_info _) ((K.get _ _ _ _ mS).range) ?_
  simp only [aP, lI, l0, lS]
  refine callL rfl (fun _ => by kernel_rfl) (kfirst_any k hk sLater (by decide) _ (hg.below K.below hg.size)) ?_
  rintro e w1 ⟨rfl, l⟩
  replace K := K.call l
  clear l
  refine ⟨_, rfl, ?_⟩
  rw [show sLater.size = 12 from rfl]
  simp only [aP, lI, l0, lS]
  have hz' := (K.room _ mS).1
  refine storesL .u8 32 (kT k 12 (zs sLater) 1) (w.heap.size + 1) 23 _ _ rfl rfl rfl rfl (room_of hz') (key_info' _) ?_
  simp only [Act.put]
  have hB := (K.fill _ _ mS (row .u8 32 (kT k 12 (zs sLater) 1))).below
  clear K
  generalize hGe : kT k 12 (zs sLater) 1 = G at *
  show Exit.then _ _ _ _ _
  go_wp2
  exact bodyPost_ret (v := (.agg (row .u8 32 (G)).toArray)) (results_row Tryd.results21 rfl (Has.all hz' .u8 G).range Tryd.underlying23 rfl (key_info G)) rfl ⟨by first | rfl | rw [hGe] | (rw [← hGe]; done), hB⟩
theorem kof_any (k : Nat → Int) (hk : In 256 32 k) (w : World) (hg : BGlob w) :
    Calls Tryd.prog 24 #[(.agg (row .u8 32 (k)).toArray)] w fun e w' => e = .returned (.agg (row .u8 32 (kT k 10 (zs sKey) 1)).toArray) ∧ Below w.heap.size w w' := by
  have K := Kr.init w
  replace K := K.box .u8 32 k 23 (w.heap.size) rfl
  replace K := K.make 32 zu8_32 23 (w.heap.size + 1) (by simp) (key_zero _ _ _ (by simp)).there
  go_enter Tryd.func24, Tryd.ntmps24
  go_upto_region 1 with fail
  generalize ((w.alloc (.cells (row .u8 32 k).toArray 23)).alloc (.cells zu8_32 23)) = w0 at K ⊢
  refine wp_region_list ?_
  refine rowKL .u8 32 (k) (w.heap.size) 0 23 _ _ rfl rfl rfl Tryd.underlying23 rfl (key_info _) ((K.get _ _ _ _ mS).range) ?_
  simp only [aP, lI, l0, lS]
  refine callL rfl (fun _ => by kernel_rfl) (kfirst_any k hk sKey (by decide) _ (hg.below K.below hg.size)) ?_
  rintro e w1 ⟨rfl, l⟩
  replace K := K.call l
  clear l
  refine ⟨_, rfl, ?_⟩
  rw [show sKey.size = 10 from rfl]
  simp only [aP, lI, l0, lS]
  have hz' := (K.room _ mS).1
  refine storesL .u8 32 (kT k 10 (zs sKey) 1) (w.heap.size + 1) 23 _ _ rfl rfl rfl rfl (room_of hz') (key_info' _) ?_
  simp only [Act.put]
  have hB := (K.fill _ _ mS (row .u8 32 (kT k 10 (zs sKey) 1))).below
  clear K
  generalize hGe : kT k 10 (zs sKey) 1 = G at *
  show Exit.then _ _ _ _ _
  go_wp2
  exact bodyPost_ret (v := (.agg (row .u8 32 (G)).toArray)) (results_row Tryd.results24 rfl (Has.all hz' .u8 G).range Tryd.underlying23 rfl (key_info G)) rfl ⟨by first | rfl | rw [hGe] | (rw [← hGe]; done), hB⟩
section
section
variable {P : Program} {ops : Array Oper} {Q : Exit → Act → World → Prop} {md : Region.Mode} {S S2 : World → Prop} {c : Nat}
theorem readC {i : Nat} {oi oc : Oper} (dst : Option Tmp) (hdst : oi.dst = dst) {n : Nat} {l : Array Bool} {a : Act} {w : World} (v : Value) (hi : ops[i]? = some oi) (hc : ops[c]? = some oc) (hwait : (oc.after.any fun e => Region.binds md e && e.on == i) = true)
    (hw : Region.wanted oi (yielded ops a.tmps) = true) (hv : ∀ w, S w → (execOp a.eval oi).run P w = .ok (.value v) w)
    (hs : Region.noSelect ops = true) (hf : Region.free md ops l i = true) (hl : l.getD c true = false) (hr : (Region.ready md ops l).contains i = true)
    (hQ : ∀ p a w, Q (.panic p) (a.put dst v) w → Q (.panic p) a w) (hS : S w)
    (h : wpAnyC P md ops Q S c n (l.setIfInBounds i true) (a.put dst v) w) : wpAnyC P md ops Q S c (n + 1) l a w := by
  subst hdst
  exact wpAnyC_take hi hc hwait hs hf hl hr hQ (.inl ⟨hw, hv⟩) hS h
theorem skipC (dst : Option Tmp) {oc : Oper} (hdst : oc.dst = dst) {n : Nat} {l : Array Bool} {a : Act} {w w' : World} (hr : Region.ready md ops l = [c]) (hi : ops[c]? = some oc)
    (hw : Region.wanted oc (yielded ops a.tmps) = true) (he : (execOp a.eval oc).run P w = .ok .skip w') (hl : (l.setIfInBounds c true).getD c true = true)
    (h : wpAnyH P md ops Q S2 n (l.setIfInBounds c true) (a.put dst undef) w') : wpAnyC P md ops Q S c (n + 1) l a w :=
  ⟨fun h0 => (by rw [h0] at hr; cases hr), fun j hj => by
    rw [hr] at hj
    obtain rfl := List.mem_singleton.1 hj
    unfold wpOp
    simp only [hi, hw, if_true]
    refine .inl ?_
    unfold Oper.wp
    rw [he]
    subst hdst
    exact ⟨fun hf => (by rw [hl] at hf; cases hf), wpAnyC_rest n _ _ _ hl (wpAny_of_held n _ _ _ h)⟩⟩
end
end
def pkf (e : Int) (s a b : Nat → Int) (m : Int) : List Value := [[Value.int .i64 e], row .u8 32 s, row .u8 32 a, row .u8 32 b, [Value.int .i64 m]].flatten
theorem two_one (a b : Nat → Int) : ∀ u ∈ row .u8 32 a ++ row .u8 32 b, u.oneCell' = true := fun u hu => (List.mem_append.1 hu).elim (row_one .u8 32 a u) (row_one .u8 32 b u)
theorem two_len (a b : Nat → Int) : (row .u8 32 a ++ row .u8 32 b).length = 64 := by rw [List.length_append, row32, row32]
theorem pk_two (x y : Value) (s a b c d : List Value) (hs : s.length = 32) (ha : a.length = 32) (hb : b.length = 32) (hc : c.length = 32) (hd : d.length = 32) : setL [[x], s, a, b, [y]].flatten 33 (c ++ d) = [[x], s, c, d, [y]].flatten := by
  have h5 : ∀ a b : List Value, [[x], s, a, b, [y]].flatten = [[x], s, a ++ b, [y]].flatten := fun a b => by simp
  rw [h5, h5, flat_set [[x], s, a ++ b, [y]] [1, 32, 64, 1] (by simp [hs, ha, hb]) 2 33 (a ++ b) (c ++ d) rfl rfl (by simp [ha, hb, hc, hd])]
  rfl
theorem pk_twoR (e m : Int) (s a b c d : Nat → Int) : setL [[Value.int .i64 e], row .u8 32 s, row .u8 32 a, row .u8 32 b, [Value.int .i64 m]].flatten 33 (row .u8 32 c ++ row .u8 32 d) = [[Value.int .i64 e], row .u8 32 s, row .u8 32 c, row .u8 32 d, [Value.int .i64 m]].flatten := pk_two _ _ _ _ _ _ _ (row32 _) (row32 _) (row32 _) (row32 _) (row32 _)
def kyK (e m : Int) (a b : Nat → Int) (n : Int) : Nat → Int := if n = e then a else if n = e - 1 ∧ m = 2 then b else fun _ => 0
def kyE (e m n : Int) : Int := if n = e then 0 else if n = e - 1 ∧ m = 2 then 0 else 150
theorem kyK_now {e m n : Int} {a b : Nat → Int} (h : n = e) : kyK e m a b n = a := if_pos h
theorem kyE_now {e m n : Int} (h : n = e) : kyE e m n = 0 := if_pos h
theorem kyK_last {e m n : Int} {a b : Nat → Int} (h : n = e - 1) (h2 : m = 2) : kyK e m a b n = b := by unfold kyK; rw [if_neg (by omega), if_pos ⟨h, h2⟩]
theorem kyE_last {e m n : Int} (h : n = e - 1) (h2 : m = 2) : kyE e m n = 0 := by unfold kyE; rw [if_neg (by omega), if_pos ⟨h, h2⟩]
theorem kyK_none {e m n : Int} {a b : Nat → Int} (h : ¬ n = e) (h2 : ¬ (n = e - 1 ∧ m = 2)) : kyK e m a b n = fun _ => 0 := by unfold kyK; rw [if_neg h, if_neg h2]
theorem kyE_none {e m n : Int} (h : ¬ n = e) (h2 : ¬ (n = e - 1 ∧ m = 2)) : kyE e m n = 150 := by unfold kyE; rw [if_neg h, if_neg h2]
theorem kepoch_any (w0 w : World) (R : Nat) (l : List (Nat × List Value)) (e : Int) (s a b : Nat → Int) (m : Int) (M : Mm w0 ((R, pkf e s a b m) :: l) w) :
    Calls Tryd.prog 12 #[.pointer (some ⟨R, 0, none⟩)] w fun e' w' => e' = .returned (.int .i64 e) ∧ Below w.heap.size w w' := by
  replace M : Mm w0 ((R, [[Value.int .i64 e], row .u8 32 s, row .u8 32 a, row .u8 32 b, [Value.int .i64 m]].flatten) :: l) w := M
  have hb0 := M.below
  have hwz := Nat.le_refl w.heap.size
  have OF := Off.refl [] w
  go_enter Tryd.func12, Tryd.ntmps12
  go_upto_region 0 with fail
  refine wp_region_list ?_
  refine readL (.int .i64 0) rfl (by kernel_rfl) ?_
  simp only [aP, lI, l0, lS]
  first | show Exit.then _ _ _ _ _ | show Exit.inBlock _ _ _ _ _
  go_upto_region 1 with fail
  refine wp_region_list ?_
  refine readL (.pointer (some ⟨R, 0, none⟩)) rfl (by kernel_rfl) ?_
  simp only [aP, lI, l0, lS]
  refine readL (.pointer (some ⟨R, 0, none⟩)) rfl (by kernel_rfl) ?_
  simp only [aP, lI, l0, lS]
  refine readL (.pointer (some ⟨R, 0, none⟩)) rfl (by kernel_rfl) ?_
  simp only [aP, lI, l0, lS]
  refine readL (.int .i64 e) rfl (load1 3 _ ⟨R, 0, none⟩ _ rfl rfl (fun _ => by kernel_rfl) (M.get mS 0 _ (flat_get _ [1, 32, 32, 32, 1] (by simp [row_length]) 0 0 _ rfl rfl))) ?_
  simp only [aP, lI, l0, lS]
  refine readL (.int .i64 e) rfl (by kernel_rfl) ?_
  simp only [aP, lI, l0, lS]
  first | show Exit.then _ _ _ _ _ | show Exit.inBlock _ _ _ _ _
  have hbel : Below w.heap.size w w := ⟨M.below.os.trans hb0.os.symm, M.below.tape.trans hb0.tape.symm, M.below.output.trans hb0.output.symm, OF.size, fun b hb => OF.blk b hb (fun h => by cases h)⟩
  have HS := show Hid _ from hbel
  clear M OF hbel
  go_wp2
  go_ret
  exact ⟨rfl, HS.out⟩
theorem kended_any (w0 w : World) (R : Nat) (l : List (Nat × List Value)) (e : Int) (s a b : Nat → Int) (m : Int) (q : Bool) (hq : decide (e ≥ 65535) = q) (M : Mm w0 ((R, pkf e s a b m) :: l) w) :
    Calls Tryd.prog 19 #[.pointer (some ⟨R, 0, none⟩)] w fun e' w' => e' = .returned (.bool q) ∧ Below w.heap.size w w' := by
  replace M : Mm w0 ((R, [[Value.int .i64 e], row .u8 32 s, row .u8 32 a, row .u8 32 b, [Value.int .i64 m]].flatten) :: l) w := M
  have hb0 := M.below
  have hwz := Nat.le_refl w.heap.size
  have OF := Off.refl [] w
  go_enter Tryd.func19, Tryd.ntmps19
  go_upto_region 0 with fail
  refine wp_region_list ?_
  refine readL (.bool false) rfl (by kernel_rfl) ?_
  simp only [aP, lI, l0, lS]
  first | show Exit.then _ _ _ _ _ | show Exit.inBlock _ _ _ _ _
  go_upto_region 1 with fail
  refine wp_region_list ?_
  refine readL (.pointer (some ⟨R, 0, none⟩)) rfl (by kernel_rfl) ?_
  simp only [aP, lI, l0, lS]
  refine readL (.pointer (some ⟨R, 0, none⟩)) rfl (by kernel_rfl) ?_
  simp only [aP, lI, l0, lS]
  refine readL (.pointer (some ⟨R, 0, none⟩)) rfl (by kernel_rfl) ?_
  simp only [aP, lI, l0, lS]
  refine readL (.int .i64 e) rfl (load1 3 _ ⟨R, 0, none⟩ _ rfl rfl (fun _ => by kernel_rfl) (M.get mS 0 _ (flat_get _ [1, 32, 32, 32, 1] (by simp [row_length]) 0 0 _ rfl rfl))) ?_
  simp only [aP, lI, l0, lS]
  refine readL (.bool q) rfl (geqI .i64 _ _ _ _ _ _ rfl rfl rfl q hq _) ?_
  simp only [aP, lI, l0, lS]
  refine readL (.bool q) rfl (by kernel_rfl) ?_
  simp only [aP, lI, l0, lS]
  first | show Exit.then _ _ _ _ _ | show Exit.inBlock _ _ _ _ _
  have hbel : Below w.heap.size w w := ⟨M.below.os.trans hb0.os.symm, M.below.tape.trans hb0.tape.symm, M.below.output.trans hb0.output.symm, OF.size, fun b hb => OF.blk b hb (fun h => by cases h)⟩
  have HS := show Hid _ from hbel
  clear M OF hbel
  go_wp2
  go_ret
  exact ⟨rfl, HS.out⟩
theorem ktake_any (w0 w : World) (R : Nat) (l : List (Nat × List Value)) (e m m2 : Int) (s a b : Nat → Int) (r : Nat → Int) (hr : In 256 32 r) (hm : 0 ≤ m ∧ m ≤ 2 ∧ m2 = min (m + 1) 2) (hg : BGlob w0) (M : Mm w0 ((R, pkf e s a b m) :: l) w) :
    Calls Tryd.prog 20 #[.pointer (some ⟨R, 0, none⟩), .agg (row .u8 32 r).toArray] w fun e' w' => e' = .returned (.tuple #[]) ∧ Mm w0 ((R, pkf e r (yof r) a m2) :: l) w' ∧ Off [R] w w' := by
  replace M : Mm w0 ((R, [[Value.int .i64 e], row .u8 32 s, row .u8 32 a, row .u8 32 b, [Value.int .i64 m]].flatten) :: l) w := M
  have hb0 := M.below
  have hwz := Nat.le_refl w.heap.size
  have OF := Off.refl [R] w
  go_enter Tryd.func20, Tryd.ntmps20
  obtain ⟨hm0, hm1, hm2⟩ := hm
  go_upto_region 0 with fail
  refine wp_region_list ?_
  have hlb := (Below.refl w.heap.size w).alloc (Nat.le_refl _) (.cells (row .u8 32 r).toArray 23)
  refine actL (w' := w.alloc (.cells (row .u8 32 r).toArray 23)) (.pointer (some ⟨w.heap.size, 0, none⟩)) rfl (by kernel_rfl) ?_
  simp only [aP, lI, l0, lS]
  have hB_ := hwz
  replace hwz := Nat.le_trans hwz hlb.size
  replace OF := OF.below hlb
  replace M := M.box (row .u8 32 r).toArray 23 w.heap.size rfl
  clear hlb
  generalize w.alloc (.cells (row .u8 32 r).toArray 23) = w1 at M hwz OF ⊢
  generalize eB_ : w.heap.size = B1 at M ⊢
  have hB_B1 : w.heap.size ≤ B1 := by rw [← eB_]; exact hB_
  clear hB_ eB_
  replace M : Mm w0 ((B1, row .u8 32 r) :: (R, [[Value.int .i64 e], row .u8 32 s, row .u8 32 a, row .u8 32 b, [Value.int .i64 m]].flatten) :: l) w1 := M
  first | show Exit.then _ _ _ _ _ | show Exit.inBlock _ _ _ _ _
  go_upto_region 1 with fail
  refine wp_region_list ?_
  refine readL (.pointer (some ⟨R, 0, none⟩)) rfl (by kernel_rfl) ?_
  simp only [aP, lI, l0, lS]
  refine readL (.agg (row .u8 32 r).toArray) rfl (loadN 23 _ ⟨B1, 0, none⟩ (row .u8 32 r) rfl rfl (fun _ => by kernel_rfl) (fun _ => by rw [row32]; kernel_rfl) (M.part mS 0 _ (by rw [List.drop_zero, List.take_length]))) ?_
  simp only [aP, lI, l0, lS]
  refine readL (.pointer (some ⟨R, 0, none⟩)) rfl (by kernel_rfl) ?_
  simp only [aP, lI, l0, lS]
  refine readL (.pointer (some ⟨R, 1, none⟩)) rfl (by kernel_rfl) ?_
  simp only [aP, lI, l0, lS]
  replace M := M.swap
  refine skipOpL rfl (storeP (row .u8 32 r) R 1 23 _ _ rfl rfl rfl (M.thereP mS 1 32 (by rw [flat_len _ [1, 32, 32, 32, 1] (by simp [row_length])]; decide)) (by kernel_rfl) (row_one .u8 32 r)) ?_
  simp only [Act.put]
  replace M := M.setPart (row .u8 32 r) 1 (by rw [row32, flat_len _ [1, 32, 32, 32, 1] (by simp [row_length])]; decide)
  rw [flat_set _ [1, 32, 32, 32, 1] (by simp [row_length]) 1 1 _ (row .u8 32 r) rfl rfl (by rw [row32, row32])] at M
  replace hwz := Nat.le_trans hwz (Off.size ((Off.refl [R] _).setAll (b := R) mS 1 (row .u8 32 r)))
  replace OF := OF.and1 ((Off.refl [R] _).setAll (b := R) mS 1 (row .u8 32 r)) (.inl (by simp))
  generalize w1.setCells R 1 (row .u8 32 r) = w2 at M hwz OF ⊢
  replace M : Mm w0 ((R, [[Value.int .i64 e], row .u8 32 r, row .u8 32 a, row .u8 32 b, [Value.int .i64 m]].flatten) :: (B1, row .u8 32 r) :: l) w2 := M
  first | show Exit.then _ _ _ _ _ | show Exit.inBlock _ _ _ _ _
  go_upto_region 2 with fail
  refine wp_region_C (S := fun w' => Mm w0 ((R, [[Value.int .i64 e], row .u8 32 r, row .u8 32 a, row .u8 32 b, [Value.int .i64 m]].flatten) :: (B1, row .u8 32 r) :: l) w') 11 (by kernel_rfl) M.drew ?_
  clear M
  intro M
  have hdr := (Below.refl w2.heap.size w2).drew
  replace hwz := Nat.le_trans hwz hdr.size
  replace OF := OF.below hdr
  clear hdr
  generalize w2.drew = w3 at M hwz OF ⊢
  refine readC (i := 0) (some 8) rfl (.pointer (some ⟨R, 0, none⟩)) rfl rfl (by kernel_rfl) rfl (fun _ M => (by kernel_rfl)) (by kernel_rfl) (by kernel_rfl) (by kernel_rfl) (by kernel_rfl) (fun _ _ _ h => h) M ?_
  simp only [aP, lI, l0, lS]
  refine readC (i := 1) (some 9) rfl (.agg (row .u8 32 r).toArray) rfl rfl (by kernel_rfl) rfl (fun _ M => loadN 23 _ ⟨B1, 0, none⟩ (row .u8 32 r) rfl rfl (fun _ => by kernel_rfl) (fun _ => by rw [row32]; kernel_rfl) (M.part (mT _ mS) 0 _ (by rw [List.drop_zero, List.take_length]))) (by kernel_rfl) (by kernel_rfl) (by kernel_rfl) (by kernel_rfl) (fun _ _ _ h => h) M ?_
  simp only [aP, lI, l0, lS]
  refine readC (i := 3) (some 11) rfl (.pointer (some ⟨R, 0, none⟩)) rfl rfl (by kernel_rfl) rfl (fun _ M => (by kernel_rfl)) (by kernel_rfl) (by kernel_rfl) (by kernel_rfl) (by kernel_rfl) (fun _ _ _ h => h) M ?_
  simp only [aP, lI, l0, lS]
  refine readC (i := 4) (some 12) rfl (.pointer (some ⟨R, 0, none⟩)) rfl rfl (by kernel_rfl) rfl (fun _ M => (by kernel_rfl)) (by kernel_rfl) (by kernel_rfl) (by kernel_rfl) (by kernel_rfl) (fun _ _ _ h => h) M ?_
  simp only [aP, lI, l0, lS]
  refine readC (i := 5) (some 13) rfl (.pointer (some ⟨R, 33, none⟩)) rfl rfl (by kernel_rfl) rfl (fun _ M => (by kernel_rfl)) (by kernel_rfl) (by kernel_rfl) (by kernel_rfl) (by kernel_rfl) (fun _ _ _ h => h) M ?_
  simp only [aP, lI, l0, lS]
  refine readC (i := 6) (some 14) rfl (.pointer (some ⟨R, 33, none⟩)) rfl rfl (by kernel_rfl) rfl (fun _ M => (by kernel_rfl)) (by kernel_rfl) (by kernel_rfl) (by kernel_rfl) (by kernel_rfl) (fun _ _ _ h => h) M ?_
  simp only [aP, lI, l0, lS]
  refine readC (i := 7) (some 15) rfl (.agg (row .u8 32 a).toArray) rfl rfl (by kernel_rfl) rfl (fun _ M => loadN 23 _ ⟨R, 33, none⟩ (row .u8 32 a) rfl rfl (fun _ => by kernel_rfl) (fun _ => by rw [row32]; kernel_rfl) (M.part mS 33 _ (flat_part _ [1, 32, 32, 32, 1] (by simp [row_length]) 2 33 _ rfl rfl))) (by kernel_rfl) (by kernel_rfl) (by kernel_rfl) (by kernel_rfl) (fun _ _ _ h => h) M ?_
  simp only [aP, lI, l0, lS]
  refine callMC (i := 2) (some 10) rfl (by kernel_rfl) rfl rfl (fun _ => by kernel_rfl) (kof_any r hr _ (hg.below M.below hg.size)) ?_
  rintro e w4 ⟨rfl, l⟩
  replace M := M.call l
  replace hwz := Nat.le_trans hwz l.size
  replace OF := OF.below l
  clear l
  refine ⟨_, rfl, M, ?_⟩
  simp only [aP, lI, l0, lS]
  refine readC (i := 8) (some 16) rfl (.agg (row .u8 32 (yof r) ++ row .u8 32 a).toArray) rfl rfl (by kernel_rfl) rfl (fun _ M => (by kernel_rfl)) (by kernel_rfl) (by kernel_rfl) (by kernel_rfl) (by kernel_rfl) (fun _ _ _ h => h) M ?_
  simp only [aP, lI, l0, lS]
  refine pureCg (i := 9) (some 17) rfl (.pointer (some ⟨R, 0, none⟩)) rfl (by decide) rfl (fun _ => (by kernel_rfl)) M ?_
  simp only [aP, lI, l0, lS]
  refine readC (i := 10) (some 18) rfl (.pointer (some ⟨R, 33, none⟩)) rfl rfl (by kernel_rfl) rfl (fun _ M => (by kernel_rfl)) (by kernel_rfl) (by kernel_rfl) (by kernel_rfl) (by kernel_rfl) (fun _ _ _ h => h) M ?_
  simp only [aP, lI, l0, lS]
  refine skipC (S2 := fun _ => True) none rfl (by kernel_rfl) rfl rfl (storeP (row .u8 32 (yof r) ++ row .u8 32 a) R 33 44 _ _ rfl rfl rfl (M.thereP mS 33 64 (by rw [flat_len _ [1, 32, 32, 32, 1] (by simp [row_length])]; decide)) (by kernel_rfl) (two_one _ _)) (by kernel_rfl) ?_
  simp only [Act.put]
  replace M := M.setPart (row .u8 32 (yof r) ++ row .u8 32 a) 33 (by rw [two_len, flat_len _ [1, 32, 32, 32, 1] (by simp [row_length])]; decide)
  rw [pk_twoR] at M
  replace hwz := Nat.le_trans hwz (Off.size ((Off.refl [R] _).setAll (b := R) mS 33 (row .u8 32 (yof r) ++ row .u8 32 a)))
  replace OF := OF.and1 ((Off.refl [R] _).setAll (b := R) mS 33 (row .u8 32 (yof r) ++ row .u8 32 a)) (.inl (by simp))
  generalize w4.setCells R 33 (row .u8 32 (yof r) ++ row .u8 32 a) = w5 at M hwz OF ⊢
  replace M : Mm w0 ((R, [[Value.int .i64 e], row .u8 32 r, row .u8 32 (yof r), row .u8 32 a, [Value.int .i64 m]].flatten) :: (B1, row .u8 32 r) :: l) w5 := M
  refine wpAnyH_done (by kernel_rfl) ?_ _
  first | show Exit.then _ _ _ _ _ | show Exit.inBlock _ _ _ _ _
  go_upto_region 3 with fail
  refine wp_region_list ?_
  refine readL (.pointer (some ⟨R, 0, none⟩)) rfl (by kernel_rfl) ?_
  simp only [aP, lI, l0, lS]
  refine readL (.pointer (some ⟨R, 0, none⟩)) rfl (by kernel_rfl) ?_
  simp only [aP, lI, l0, lS]
  refine readL (.pointer (some ⟨R, 0, none⟩)) rfl (by kernel_rfl) ?_
  simp only [aP, lI, l0, lS]
  refine readL (.pointer (some ⟨R, 97, none⟩)) rfl (by kernel_rfl) ?_
  simp only [aP, lI, l0, lS]
  refine readL (.int .i64 m) rfl (load1 3 _ ⟨R, 97, none⟩ _ rfl rfl (fun _ => by kernel_rfl) (M.get mS 97 _ (flat_get _ [1, 32, 32, 32, 1] (by simp [row_length]) 4 97 _ rfl rfl))) ?_
  simp only [aP, lI, l0, lS]
  refine readL (.int .i64 (m + 1)) rfl (addI .i64 _ _ _ _ _ _ _ rfl rfl rfl (by rw [IntKind.wrap_i64]; omega) _) ?_
  simp only [aP, lI, l0, lS]
  refine readL (.int .i64 m2) rfl (minI .i64 .i64 _ _ _ _ _ _ _ rfl rfl rfl (by split <;> omega) _) ?_
  simp only [aP, lI, l0, lS]
  refine readL (.pointer (some ⟨R, 0, none⟩)) rfl (by kernel_rfl) ?_
  simp only [aP, lI, l0, lS]
  refine readL (.pointer (some ⟨R, 97, none⟩)) rfl (by kernel_rfl) ?_
  simp only [aP, lI, l0, lS]
  refine skipOpL rfl (storeAny (.int .i64 m2) R 97 3 _ _ rfl rfl rfl rfl rfl (M.isSome mS 97 (by rw [flat_len _ [1, 32, 32, 32, 1] (by simp [row_length])]; decide)) (M.free mS 97 (by rw [flat_len _ [1, 32, 32, 32, 1] (by simp [row_length])]; decide)) (by kernel_rfl)) ?_
  simp only [Act.put]
  replace M := M.set 97 (by rw [flat_len _ [1, 32, 32, 32, 1] (by simp [row_length])]; decide) (.int .i64 m2)
  rw [flat_set1 _ [1, 32, 32, 32, 1] (by simp [row_length]) 4 97 _ (.int .i64 m2) rfl rfl] at M
  replace hwz := Nat.le_trans hwz (Off.size ((Off.refl [R] _).set (b := R) mS 97 (.int .i64 m2)))
  replace OF := OF.and1 ((Off.refl [R] _).set (b := R) mS 97 (.int .i64 m2)) (.inl (by simp))
  generalize w5.setCell ⟨R, 97, none⟩ (.int .i64 m2) = w6 at M hwz OF ⊢
  replace M : Mm w0 ((R, [[Value.int .i64 e], row .u8 32 r, row .u8 32 (yof r), row .u8 32 a, [Value.int .i64 m2]].flatten) :: (B1, row .u8 32 r) :: l) w6 := M
  replace M : Mm w0 ((R, [[Value.int .i64 e], row .u8 32 r, row .u8 32 (yof r), row .u8 32 a, [Value.int .i64 m2]].flatten) :: l) w6 := M.sub _ (List.cons_sublist_cons.2 (List.Sublist.cons _ (List.Sublist.refl _)))
  replace M : Mm w0 ((R, pkf e r (yof r) a m2) :: l) w6 := M
  exact ⟨rfl, .tuple #[], by kernel_rfl, rfl, M, OF⟩
theorem kkey_any (w0 w : World) (R : Nat) (l : List (Nat × List Value)) (e : Int) (s a b : Nat → Int) (m : Int) (he : 0 ≤ e ∧ e ≤ 65535) (hm : m = 1 ∨ m = 2) (n : Int) (M : Mm w0 ((R, pkf e s a b m) :: l) w) :
    Calls Tryd.prog 13 #[.pointer (some ⟨R, 0, none⟩), .int .i64 n] w fun e' w' => e' = .returned (.tuple #[.agg (row .u8 32 (kyK e m a b n)).toArray, .int .i64 (kyE e m n)]) ∧ Below w.heap.size w w' := by
  replace M : Mm w0 ((R, [[Value.int .i64 e], row .u8 32 s, row .u8 32 a, row .u8 32 b, [Value.int .i64 m]].flatten) :: l) w := M
  have hb0 := M.below
  have hwz := Nat.le_refl w.heap.size
  have OF := Off.refl [] w
  go_enter Tryd.func13, Tryd.ntmps13
  obtain ⟨he0, he1⟩ := he
  go_upto_region 0 with fail
  refine wp_region_list ?_
  have hlb := (Below.refl w.heap.size w).alloc (Nat.le_refl _) (.cells zu8_32 23)
  refine actL (w' := w.alloc (.cells zu8_32 23)) (.pointer (some ⟨w.heap.size, 0, none⟩)) rfl (by kernel_rfl) ?_
  simp only [aP, lI, l0, lS]
  have hB_ := hwz
  replace hwz := Nat.le_trans hwz hlb.size
  replace OF := OF.below hlb
  replace M := M.box zu8_32 23 w.heap.size rfl
  clear hlb
  generalize w.alloc (.cells zu8_32 23) = w1 at M hwz OF ⊢
  generalize eB_ : w.heap.size = B1 at M ⊢
  have hB_B1 : w.heap.size ≤ B1 := by rw [← eB_]; exact hB_
  clear hB_ eB_
  replace M : Mm w0 ((B1, row .u8 32 (fun _ => 0)) :: (R, [[Value.int .i64 e], row .u8 32 s, row .u8 32 a, row .u8 32 b, [Value.int .i64 m]].flatten) :: l) w1 := M
  refine readL (.int .i64 0) rfl (by kernel_rfl) ?_
  simp only [aP, lI, l0, lS]
  first | show Exit.then _ _ _ _ _ | show Exit.inBlock _ _ _ _ _
  by_cases h1 : n > e
  · go_upto_region 1 with fail
    refine wp_region_held_drew (S := fun w' => Mm w0 ((B1, row .u8 32 (fun _ => 0)) :: (R, [[Value.int .i64 e], row .u8 32 s, row .u8 32 a, row .u8 32 b, [Value.int .i64 m]].flatten) :: l) w') (by kernel_rfl) M.drew ?_
    clear M
    intro M
    have hdr := (Below.refl w1.heap.size w1).drew
    replace hwz := Nat.le_trans hwz hdr.size
    replace OF := OF.below hdr
    clear hdr
    generalize w1.drew = w2 at M hwz OF ⊢
    refine readHg (i := 0) (some 6) rfl (.int .i64 n) rfl rfl (fun _ M => (by kernel_rfl)) M ?_
    simp only [aP, lI, l0, lS]
    refine readHg (i := 1) (some 7) rfl (.pointer (some ⟨R, 0, none⟩)) rfl rfl (fun _ M => (by kernel_rfl)) M ?_
    simp only [aP, lI, l0, lS]
    refine readHg (i := 2) (some 8) rfl (.pointer (some ⟨R, 0, none⟩)) rfl rfl (fun _ M => (by kernel_rfl)) M ?_
    simp only [aP, lI, l0, lS]
    refine readHg (i := 3) (some 9) rfl (.pointer (some ⟨R, 0, none⟩)) rfl rfl (fun _ M => (by kernel_rfl)) M ?_
    simp only [aP, lI, l0, lS]
    refine readHg (i := 4) (some 10) rfl (.int .i64 e) rfl rfl (fun _ M => load1 3 _ ⟨R, 0, none⟩ _ rfl rfl (fun _ => by kernel_rfl) (M.get (mT _ mS) 0 _ (flat_get _ [1, 32, 32, 32, 1] (by simp [row_length]) 0 0 _ rfl rfl))) M ?_
    simp only [aP, lI, l0, lS]
    refine readHg (i := 5) (some 11) rfl (.bool true) rfl rfl (fun _ M => gtrI .i64 _ _ _ _ _ _ rfl rfl rfl true (decide_eq_true (by omega)) _) M ?_
    simp only [aP, lI, l0, lS]
    refine readHg (i := 6) (some 12) rfl (.bool true) rfl rfl (fun _ M => (by kernel_rfl)) M ?_
    simp only [aP, lI, l0, lS]
    refine mayH (i := 7) (some 13) rfl false undef undef rfl rfl rfl (fun hc => by cases hc) (by kernel_rfl) (by kernel_rfl) (by kernel_rfl) (fun _ _ _ h => h) M ?_
    simp only [aP, lI, l0, lS]
    refine mayH (i := 8) (some 14) rfl false undef undef rfl rfl rfl (fun hc => by cases hc) (by kernel_rfl) (by kernel_rfl) (by kernel_rfl) (fun _ _ _ h => h) M ?_
    simp only [aP, lI, l0, lS]
    refine mayH (i := 9) (some 15) rfl false undef undef rfl rfl rfl (fun hc => by cases hc) (by kernel_rfl) (by kernel_rfl) (by kernel_rfl) (fun _ _ _ h => h) M ?_
    simp only [aP, lI, l0, lS]
    refine mayH (i := 10) (some 16) rfl false undef undef rfl rfl rfl (fun hc => by cases hc) (by kernel_rfl) (by kernel_rfl) (by kernel_rfl) (fun _ _ _ h => h) M ?_
    simp only [aP, lI, l0, lS]
    refine mayH (i := 11) (some 17) rfl false undef undef rfl rfl rfl (fun hc => by cases hc) (by kernel_rfl) (by kernel_rfl) (by kernel_rfl) (fun _ _ _ h => h) M ?_
    simp only [aP, lI, l0, lS]
    refine mayH (i := 12) (some 18) rfl false undef undef rfl rfl rfl (fun hc => by cases hc) (by kernel_rfl) (by kernel_rfl) (by kernel_rfl) (fun _ _ _ h => h) M ?_
    simp only [aP, lI, l0, lS]
    refine mayH (i := 13) (some 19) rfl false undef undef rfl rfl rfl (fun hc => by cases hc) (by kernel_rfl) (by kernel_rfl) (by kernel_rfl) (fun _ _ _ h => h) M ?_
    simp only [aP, lI, l0, lS]
    refine mayH (i := 14) (some 20) rfl false undef undef rfl rfl rfl (fun hc => by cases hc) (by kernel_rfl) (by kernel_rfl) (by kernel_rfl) (fun _ _ _ h => h) M ?_
    simp only [aP, lI, l0, lS]
    refine mayH (i := 15) (some 21) rfl false undef undef rfl rfl rfl (fun hc => by cases hc) (by kernel_rfl) (by kernel_rfl) (by kernel_rfl) (fun _ _ _ h => h) M ?_
    simp only [aP, lI, l0, lS]
    refine mayH (i := 16) (some 22) rfl false undef undef rfl rfl rfl (fun hc => by cases hc) (by kernel_rfl) (by kernel_rfl) (by kernel_rfl) (fun _ _ _ h => h) M ?_
    simp only [aP, lI, l0, lS]
    refine mayH (i := 17) (some 23) rfl false undef undef rfl rfl rfl (fun hc => by cases hc) (by kernel_rfl) (by kernel_rfl) (by kernel_rfl) (fun _ _ _ h => h) M ?_
    simp only [aP, lI, l0, lS]
    refine readHg (i := 18) (some 24) rfl (.bool true) rfl rfl (fun _ M => (by kernel_rfl)) M ?_
    simp only [aP, lI, l0, lS]
    refine wpAnyH_done (by kernel_rfl) ?_ _
    first | show Exit.then _ _ _ _ _ | show Exit.inBlock _ _ _ _ _
    go_upto_region 2 with fail
    refine wp_region_list ?_
    refine readL (.agg (row .u8 32 (fun _ => 0)).toArray) rfl (by kernel_rfl) ?_
    simp only [aP, lI, l0, lS]
    refine skipOpL rfl (storeP (row .u8 32 (fun _ => 0)) B1 0 23 _ _ rfl rfl rfl (M.thereP mS 0 32 (Nat.le_of_ble_eq_true rfl)) (by kernel_rfl) (row_one .u8 32 (fun _ => 0))) ?_
    simp only [Act.put]
    replace M := M.setAll (row .u8 32 (fun _ => 0)) (by first | (rw [row32, row32]; done) | (rw [row32]; rfl) | (rw [row32]; done))
    replace hwz := Nat.le_trans hwz (Off.size ((Off.refl [B1] _).setAll (b := B1) mS 0 (row .u8 32 (fun _ => 0))))
    replace OF := OF.and1 ((Off.refl [B1] _).setAll (b := B1) mS 0 (row .u8 32 (fun _ => 0))) (.inr (by omega))
    generalize w2.setCells B1 0 (row .u8 32 (fun _ => 0)) = w3 at M hwz OF ⊢
    refine readL (.int .i64 150) rfl (by kernel_rfl) ?_
    simp only [aP, lI, l0, lS]
    first | show Exit.then _ _ _ _ _ | show Exit.inBlock _ _ _ _ _
    have hK := show Hid _ from kyK_none (a := a) (b := b) (m := m) (show ¬ n = e by omega) (by omega)
    have hE := show Hid _ from kyE_none (m := m) (show ¬ n = e by omega) (by omega)
    have c1_ := M.part mS 0 (row .u8 32 (fun _ => 0)) (by rw [List.drop_zero, List.take_length])
    have hbel : Below w.heap.size w w3 := ⟨M.below.os.trans hb0.os.symm, M.below.tape.trans hb0.tape.symm, M.below.output.trans hb0.output.symm, OF.size, fun b hb => OF.blk b hb (fun h => by cases h)⟩
    clear M OF
    try clear h3
    try clear h31
    try clear h32
    try clear h2
    go_wp2
    refine bodyPost_ret (v := .tuple #[.agg (row .u8 32 (fun _ => 0)).toArray, .int .i64 150]) (retCellTmp 4 5 23 ⟨B1, 0, none⟩ (row .u8 32 (fun _ => 0)) _ rfl rfl rfl (fun _ => by kernel_rfl) (fun _ => by rw [row32]; kernel_rfl) c1_) rfl ?_
    exact ⟨by rw [hK.out, hE.out], hbel⟩
  by_cases h2 : n = e
  · go_upto_region 1 with fail
    refine wp_region_held_drew (S := fun w' => Mm w0 ((B1, row .u8 32 (fun _ => 0)) :: (R, [[Value.int .i64 e], row .u8 32 s, row .u8 32 a, row .u8 32 b, [Value.int .i64 m]].flatten) :: l) w') (by kernel_rfl) M.drew ?_
    clear M
    intro M
    have hdr := (Below.refl w1.heap.size w1).drew
    replace hwz := Nat.le_trans hwz hdr.size
    replace OF := OF.below hdr
    clear hdr
    generalize w1.drew = w4 at M hwz OF ⊢
    refine readHg (i := 0) (some 6) rfl (.int .i64 n) rfl rfl (fun _ M => (by kernel_rfl)) M ?_
    simp only [aP, lI, l0, lS]
    refine readHg (i := 1) (some 7) rfl (.pointer (some ⟨R, 0, none⟩)) rfl rfl (fun _ M => (by kernel_rfl)) M ?_
    simp only [aP, lI, l0, lS]
    refine readHg (i := 2) (some 8) rfl (.pointer (some ⟨R, 0, none⟩)) rfl rfl (fun _ M => (by kernel_rfl)) M ?_
    simp only [aP, lI, l0, lS]
    refine readHg (i := 3) (some 9) rfl (.pointer (some ⟨R, 0, none⟩)) rfl rfl (fun _ M => (by kernel_rfl)) M ?_
    simp only [aP, lI, l0, lS]
    refine readHg (i := 4) (some 10) rfl (.int .i64 e) rfl rfl (fun _ M => load1 3 _ ⟨R, 0, none⟩ _ rfl rfl (fun _ => by kernel_rfl) (M.get (mT _ mS) 0 _ (flat_get _ [1, 32, 32, 32, 1] (by simp [row_length]) 0 0 _ rfl rfl))) M ?_
    simp only [aP, lI, l0, lS]
    refine readHg (i := 5) (some 11) rfl (.bool false) rfl rfl (fun _ M => gtrI .i64 _ _ _ _ _ _ rfl rfl rfl false (decide_eq_false (by omega)) _) M ?_
    simp only [aP, lI, l0, lS]
    refine readHg (i := 6) (some 12) rfl (.bool false) rfl rfl (fun _ M => (by kernel_rfl)) M ?_
    simp only [aP, lI, l0, lS]
    refine readHg (i := 7) (some 13) rfl (.int .i64 n) rfl rfl (fun _ M => (by kernel_rfl)) M ?_
    simp only [aP, lI, l0, lS]
    refine readHg (i := 8) (some 14) rfl (.pointer (some ⟨R, 0, none⟩)) rfl rfl (fun _ M => (by kernel_rfl)) M ?_
    simp only [aP, lI, l0, lS]
    refine readHg (i := 9) (some 15) rfl (.pointer (some ⟨R, 0, none⟩)) rfl rfl (fun _ M => (by kernel_rfl)) M ?_
    simp only [aP, lI, l0, lS]
    refine readHg (i := 10) (some 16) rfl (.pointer (some ⟨R, 0, none⟩)) rfl rfl (fun _ M => (by kernel_rfl)) M ?_
    simp only [aP, lI, l0, lS]
    refine readHg (i := 11) (some 17) rfl (.int .i64 e) rfl rfl (fun _ M => load1 3 _ ⟨R, 0, none⟩ _ rfl rfl (fun _ => by kernel_rfl) (M.get (mT _ mS) 0 _ (flat_get _ [1, 32, 32, 32, 1] (by simp [row_length]) 0 0 _ rfl rfl))) M ?_
    simp only [aP, lI, l0, lS]
    refine readHg (i := 12) (some 18) rfl (.pointer (some ⟨R, 0, none⟩)) rfl rfl (fun _ M => (by kernel_rfl)) M ?_
    simp only [aP, lI, l0, lS]
    refine readHg (i := 13) (some 19) rfl (.pointer (some ⟨R, 0, none⟩)) rfl rfl (fun _ M => (by kernel_rfl)) M ?_
    simp only [aP, lI, l0, lS]
    refine readHg (i := 14) (some 20) rfl (.pointer (some ⟨R, 97, none⟩)) rfl rfl (fun _ M => (by kernel_rfl)) M ?_
    simp only [aP, lI, l0, lS]
    refine readHg (i := 15) (some 21) rfl (.int .i64 m) rfl rfl (fun _ M => load1 3 _ ⟨R, 97, none⟩ _ rfl rfl (fun _ => by kernel_rfl) (M.get (mT _ mS) 97 _ (flat_get _ [1, 32, 32, 32, 1] (by simp [row_length]) 4 97 _ rfl rfl))) M ?_
    simp only [aP, lI, l0, lS]
    refine readHg (i := 16) (some 22) rfl (.int .i64 (e - m)) rfl rfl (fun _ M => subI .i64 _ _ _ _ _ _ _ rfl rfl rfl (by rw [IntKind.wrap_i64]; omega) _) M ?_
    simp only [aP, lI, l0, lS]
    refine readHg (i := 17) (some 23) rfl (.bool false) rfl rfl (fun _ M => leqI .i64 _ _ _ _ _ _ rfl rfl rfl false (decide_eq_false (by omega)) _) M ?_
    simp only [aP, lI, l0, lS]
    refine readHg (i := 18) (some 24) rfl (.bool false) rfl rfl (fun _ M => (by kernel_rfl)) M ?_
    simp only [aP, lI, l0, lS]
    refine wpAnyH_done (by kernel_rfl) ?_ _
    first | show Exit.then _ _ _ _ _ | show Exit.inBlock _ _ _ _ _
    go_upto_region 3 with fail
    refine wp_region_held_drew (S := fun w' => ∃ cs_, Mm w0 ((B1, cs_) :: (R, [[Value.int .i64 e], row .u8 32 s, row .u8 32 a, row .u8 32 b, [Value.int .i64 m]].flatten) :: l) w') (by kernel_rfl) ⟨_, M.drew⟩ ?_
    intro _
    replace M := M.drew
    have hdr := (Below.refl w4.heap.size w4).drew
    replace hwz := Nat.le_trans hwz hdr.size
    replace OF := OF.below hdr
    clear hdr
    generalize w4.drew = w5 at M hwz OF ⊢
    refine readHg (i := 0) (some 26) rfl (.pointer (some ⟨R, 0, none⟩)) rfl rfl (fun _ ⟨_, M⟩ => (by kernel_rfl)) ⟨_, M⟩ ?_
    simp only [aP, lI, l0, lS]
    refine readHg (i := 1) (some 27) rfl (.pointer (some ⟨R, 0, none⟩)) rfl rfl (fun _ ⟨_, M⟩ => (by kernel_rfl)) ⟨_, M⟩ ?_
    simp only [aP, lI, l0, lS]
    refine readHg (i := 2) (some 28) rfl (.pointer (some ⟨R, 0, none⟩)) rfl rfl (fun _ ⟨_, M⟩ => (by kernel_rfl)) ⟨_, M⟩ ?_
    simp only [aP, lI, l0, lS]
    refine readHg (i := 3) (some 29) rfl (.pointer (some ⟨R, 0, none⟩)) rfl rfl (fun _ ⟨_, M⟩ => (by kernel_rfl)) ⟨_, M⟩ ?_
    simp only [aP, lI, l0, lS]
    refine readHg (i := 4) (some 30) rfl (.int .i64 e) rfl rfl (fun _ ⟨_, M⟩ => load1 3 _ ⟨R, 0, none⟩ _ rfl rfl (fun _ => by kernel_rfl) (M.get (mT _ mS) 0 _ (flat_get _ [1, 32, 32, 32, 1] (by simp [row_length]) 0 0 _ rfl rfl))) ⟨_, M⟩ ?_
    simp only [aP, lI, l0, lS]
    refine readHg (i := 5) (some 31) rfl (.int .i64 n) rfl rfl (fun _ ⟨_, M⟩ => (by kernel_rfl)) ⟨_, M⟩ ?_
    simp only [aP, lI, l0, lS]
    refine readHg (i := 6) (some 32) rfl (.int .i64 0) rfl rfl (fun _ ⟨_, M⟩ => subI .i64 _ _ _ _ _ _ _ rfl rfl rfl (by rw [IntKind.wrap_i64]; omega) _) ⟨_, M⟩ ?_
    simp only [aP, lI, l0, lS]
    refine readHg (i := 7) (some 33) rfl (.pointer (some ⟨R, 0, none⟩)) rfl rfl (fun _ ⟨_, M⟩ => (by kernel_rfl)) ⟨_, M⟩ ?_
    simp only [aP, lI, l0, lS]
    refine readHg (i := 8) (some 34) rfl (.pointer (some ⟨R, 33, none⟩)) rfl rfl (fun _ ⟨_, M⟩ => (by kernel_rfl)) ⟨_, M⟩ ?_
    simp only [aP, lI, l0, lS]
    refine readHg (i := 9) (some 35) rfl (.pointer (some ⟨R, 33, none⟩)) rfl rfl (fun _ ⟨_, M⟩ => (by kernel_rfl)) ⟨_, M⟩ ?_
    simp only [aP, lI, l0, lS]
    refine readHg (i := 10) (some 36) rfl (.agg (row .u8 32 a).toArray) rfl rfl (fun _ ⟨_, M⟩ => loadN 23 _ ⟨R, 33, none⟩ (row .u8 32 a) rfl rfl (fun _ => by kernel_rfl) (fun _ => by rw [row32]; kernel_rfl) (M.part (mT _ mS) 33 _ (flat_part _ [1, 32, 32, 32, 1] (by simp [row_length]) 2 33 _ rfl rfl))) ⟨_, M⟩ ?_
    simp only [aP, lI, l0, lS]
    refine doesH (i := 11) none rfl (by kernel_rfl) rfl rfl (storeP (row .u8 32 a) B1 0 23 _ _ rfl rfl rfl (M.thereP mS 0 32 (Nat.le_of_ble_eq_true rfl)) (by kernel_rfl) (row_one .u8 32 a)) ⟨_, M.setAll (row .u8 32 a) (by first | (rw [row32, row32]; done) | (rw [row32]; rfl) | (rw [row32]; done))⟩ ?_
    simp only [Act.put]
    replace M := M.setAll (row .u8 32 a) (by first | (rw [row32, row32]; done) | (rw [row32]; rfl) | (rw [row32]; done))
    replace hwz := Nat.le_trans hwz (Off.size ((Off.refl [B1] _).setAll (b := B1) mS 0 (row .u8 32 a)))
    replace OF := OF.and1 ((Off.refl [B1] _).setAll (b := B1) mS 0 (row .u8 32 a)) (.inr (by omega))
    generalize w5.setCells B1 0 (row .u8 32 a) = w6 at M hwz OF ⊢
    refine readHg (i := 12) (some 5) rfl (.int .i64 0) rfl rfl (fun _ ⟨_, M⟩ => (by kernel_rfl)) ⟨_, M⟩ ?_
    simp only [aP, lI, l0, lS]
    refine wpAnyH_done (by kernel_rfl) ?_ _
    first | show Exit.then _ _ _ _ _ | show Exit.inBlock _ _ _ _ _
    have hK := show Hid _ from kyK_now (a := a) (b := b) (m := m) h2
    have hE := show Hid _ from kyE_now (m := m) h2
    have c1_ := M.part mS 0 (row .u8 32 a) (by rw [List.drop_zero, List.take_length])
    have hbel : Below w.heap.size w w6 := ⟨M.below.os.trans hb0.os.symm, M.below.tape.trans hb0.tape.symm, M.below.output.trans hb0.output.symm, OF.size, fun b hb => OF.blk b hb (fun h => by cases h)⟩
    clear M OF
    try clear h3
    try clear h31
    try clear h32
    try clear h2
    go_wp2
    refine bodyPost_ret (v := .tuple #[.agg (row .u8 32 a).toArray, .int .i64 0]) (retCellTmp 4 5 23 ⟨B1, 0, none⟩ (row .u8 32 a) _ rfl rfl rfl (fun _ => by kernel_rfl) (fun _ => by rw [row32]; kernel_rfl) c1_) rfl ?_
    exact ⟨by rw [hK.out, hE.out], hbel⟩
  by_cases h3 : n = e - 1 ∧ m = 2
  · obtain ⟨h31, h32⟩ := id h3
    go_upto_region 1 with fail
    refine wp_region_held_drew (S := fun w' => Mm w0 ((B1, row .u8 32 (fun _ => 0)) :: (R, [[Value.int .i64 e], row .u8 32 s, row .u8 32 a, row .u8 32 b, [Value.int .i64 m]].flatten) :: l) w') (by kernel_rfl) M.drew ?_
    clear M
    intro M
    have hdr := (Below.refl w1.heap.size w1).drew
    replace hwz := Nat.le_trans hwz hdr.size
    replace OF := OF.below hdr
    clear hdr
    generalize w1.drew = w7 at M hwz OF ⊢
    refine readHg (i := 0) (some 6) rfl (.int .i64 n) rfl rfl (fun _ M => (by kernel_rfl)) M ?_
    simp only [aP, lI, l0, lS]
    refine readHg (i := 1) (some 7) rfl (.pointer (some ⟨R, 0, none⟩)) rfl rfl (fun _ M => (by kernel_rfl)) M ?_
    simp only [aP, lI, l0, lS]
    refine readHg (i := 2) (some 8) rfl (.pointer (some ⟨R, 0, none⟩)) rfl rfl (fun _ M => (by kernel_rfl)) M ?_
    simp only [aP, lI, l0, lS]
    refine readHg (i := 3) (some 9) rfl (.pointer (some ⟨R, 0, none⟩)) rfl rfl (fun _ M => (by kernel_rfl)) M ?_
    simp only [aP, lI, l0, lS]
    refine readHg (i := 4) (some 10) rfl (.int .i64 e) rfl rfl (fun _ M => load1 3 _ ⟨R, 0, none⟩ _ rfl rfl (fun _ => by kernel_rfl) (M.get (mT _ mS) 0 _ (flat_get _ [1, 32, 32, 32, 1] (by simp [row_length]) 0 0 _ rfl rfl))) M ?_
    simp only [aP, lI, l0, lS]
    refine readHg (i := 5) (some 11) rfl (.bool false) rfl rfl (fun _ M => gtrI .i64 _ _ _ _ _ _ rfl rfl rfl false (decide_eq_false (by omega)) _) M ?_
    simp only [aP, lI, l0, lS]
    refine readHg (i := 6) (some 12) rfl (.bool false) rfl rfl (fun _ M => (by kernel_rfl)) M ?_
    simp only [aP, lI, l0, lS]
    refine readHg (i := 7) (some 13) rfl (.int .i64 n) rfl rfl (fun _ M => (by kernel_rfl)) M ?_
    simp only [aP, lI, l0, lS]
    refine readHg (i := 8) (some 14) rfl (.pointer (some ⟨R, 0, none⟩)) rfl rfl (fun _ M => (by kernel_rfl)) M ?_
    simp only [aP, lI, l0, lS]
    refine readHg (i := 9) (some 15) rfl (.pointer (some ⟨R, 0, none⟩)) rfl rfl (fun _ M => (by kernel_rfl)) M ?_
    simp only [aP, lI, l0, lS]
    refine readHg (i := 10) (some 16) rfl (.pointer (some ⟨R, 0, none⟩)) rfl rfl (fun _ M => (by kernel_rfl)) M ?_
    simp only [aP, lI, l0, lS]
    refine readHg (i := 11) (some 17) rfl (.int .i64 e) rfl rfl (fun _ M => load1 3 _ ⟨R, 0, none⟩ _ rfl rfl (fun _ => by kernel_rfl) (M.get (mT _ mS) 0 _ (flat_get _ [1, 32, 32, 32, 1] (by simp [row_length]) 0 0 _ rfl rfl))) M ?_
    simp only [aP, lI, l0, lS]
    refine readHg (i := 12) (some 18) rfl (.pointer (some ⟨R, 0, none⟩)) rfl rfl (fun _ M => (by kernel_rfl)) M ?_
    simp only [aP, lI, l0, lS]
    refine readHg (i := 13) (some 19) rfl (.pointer (some ⟨R, 0, none⟩)) rfl rfl (fun _ M => (by kernel_rfl)) M ?_
    simp only [aP, lI, l0, lS]
    refine readHg (i := 14) (some 20) rfl (.pointer (some ⟨R, 97, none⟩)) rfl rfl (fun _ M => (by kernel_rfl)) M ?_
    simp only [aP, lI, l0, lS]
    refine readHg (i := 15) (some 21) rfl (.int .i64 m) rfl rfl (fun _ M => load1 3 _ ⟨R, 97, none⟩ _ rfl rfl (fun _ => by kernel_rfl) (M.get (mT _ mS) 97 _ (flat_get _ [1, 32, 32, 32, 1] (by simp [row_length]) 4 97 _ rfl rfl))) M ?_
    simp only [aP, lI, l0, lS]
    refine readHg (i := 16) (some 22) rfl (.int .i64 (e - m)) rfl rfl (fun _ M => subI .i64 _ _ _ _ _ _ _ rfl rfl rfl (by rw [IntKind.wrap_i64]; omega) _) M ?_
    simp only [aP, lI, l0, lS]
    refine readHg (i := 17) (some 23) rfl (.bool false) rfl rfl (fun _ M => leqI .i64 _ _ _ _ _ _ rfl rfl rfl false (decide_eq_false (by omega)) _) M ?_
    simp only [aP, lI, l0, lS]
    refine readHg (i := 18) (some 24) rfl (.bool false) rfl rfl (fun _ M => (by kernel_rfl)) M ?_
    simp only [aP, lI, l0, lS]
    refine wpAnyH_done (by kernel_rfl) ?_ _
    first | show Exit.then _ _ _ _ _ | show Exit.inBlock _ _ _ _ _
    go_upto_region 3 with fail
    refine wp_region_held_drew (S := fun w' => ∃ cs_, Mm w0 ((B1, cs_) :: (R, [[Value.int .i64 e], row .u8 32 s, row .u8 32 a, row .u8 32 b, [Value.int .i64 m]].flatten) :: l) w') (by kernel_rfl) ⟨_, M.drew⟩ ?_
    intro _
    replace M := M.drew
    have hdr := (Below.refl w7.heap.size w7).drew
    replace hwz := Nat.le_trans hwz hdr.size
    replace OF := OF.below hdr
    clear hdr
    generalize w7.drew = w8 at M hwz OF ⊢
    refine readHg (i := 0) (some 26) rfl (.pointer (some ⟨R, 0, none⟩)) rfl rfl (fun _ ⟨_, M⟩ => (by kernel_rfl)) ⟨_, M⟩ ?_
    simp only [aP, lI, l0, lS]
    refine readHg (i := 1) (some 27) rfl (.pointer (some ⟨R, 0, none⟩)) rfl rfl (fun _ ⟨_, M⟩ => (by kernel_rfl)) ⟨_, M⟩ ?_
    simp only [aP, lI, l0, lS]
    refine readHg (i := 2) (some 28) rfl (.pointer (some ⟨R, 0, none⟩)) rfl rfl (fun _ ⟨_, M⟩ => (by kernel_rfl)) ⟨_, M⟩ ?_
    simp only [aP, lI, l0, lS]
    refine readHg (i := 3) (some 29) rfl (.pointer (some ⟨R, 0, none⟩)) rfl rfl (fun _ ⟨_, M⟩ => (by kernel_rfl)) ⟨_, M⟩ ?_
    simp only [aP, lI, l0, lS]
    refine readHg (i := 4) (some 30) rfl (.int .i64 e) rfl rfl (fun _ ⟨_, M⟩ => load1 3 _ ⟨R, 0, none⟩ _ rfl rfl (fun _ => by kernel_rfl) (M.get (mT _ mS) 0 _ (flat_get _ [1, 32, 32, 32, 1] (by simp [row_length]) 0 0 _ rfl rfl))) ⟨_, M⟩ ?_
    simp only [aP, lI, l0, lS]
    refine readHg (i := 5) (some 31) rfl (.int .i64 n) rfl rfl (fun _ ⟨_, M⟩ => (by kernel_rfl)) ⟨_, M⟩ ?_
    simp only [aP, lI, l0, lS]
    refine readHg (i := 6) (some 32) rfl (.int .i64 1) rfl rfl (fun _ ⟨_, M⟩ => subI .i64 _ _ _ _ _ _ _ rfl rfl rfl (by rw [IntKind.wrap_i64]; omega) _) ⟨_, M⟩ ?_
    simp only [aP, lI, l0, lS]
    refine readHg (i := 7) (some 33) rfl (.pointer (some ⟨R, 0, none⟩)) rfl rfl (fun _ ⟨_, M⟩ => (by kernel_rfl)) ⟨_, M⟩ ?_
    simp only [aP, lI, l0, lS]
    refine readHg (i := 8) (some 34) rfl (.pointer (some ⟨R, 33, none⟩)) rfl rfl (fun _ ⟨_, M⟩ => (by kernel_rfl)) ⟨_, M⟩ ?_
    simp only [aP, lI, l0, lS]
    refine readHg (i := 9) (some 35) rfl (.pointer (some ⟨R, 65, none⟩)) rfl rfl (fun _ ⟨_, M⟩ => (by kernel_rfl)) ⟨_, M⟩ ?_
    simp only [aP, lI, l0, lS]
    refine readHg (i := 10) (some 36) rfl (.agg (row .u8 32 b).toArray) rfl rfl (fun _ ⟨_, M⟩ => loadN 23 _ ⟨R, 65, none⟩ (row .u8 32 b) rfl rfl (fun _ => by kernel_rfl) (fun _ => by rw [row32]; kernel_rfl) (M.part (mT _ mS) 65 _ (flat_part _ [1, 32, 32, 32, 1] (by simp [row_length]) 3 65 _ rfl rfl))) ⟨_, M⟩ ?_
    simp only [aP, lI, l0, lS]
    refine doesH (i := 11) none rfl (by kernel_rfl) rfl rfl (storeP (row .u8 32 b) B1 0 23 _ _ rfl rfl rfl (M.thereP mS 0 32 (Nat.le_of_ble_eq_true rfl)) (by kernel_rfl) (row_one .u8 32 b)) ⟨_, M.setAll (row .u8 32 b) (by first | (rw [row32, row32]; done) | (rw [row32]; rfl) | (rw [row32]; done))⟩ ?_
    simp only [Act.put]
    replace M := M.setAll (row .u8 32 b) (by first | (rw [row32, row32]; done) | (rw [row32]; rfl) | (rw [row32]; done))
    replace hwz := Nat.le_trans hwz (Off.size ((Off.refl [B1] _).setAll (b := B1) mS 0 (row .u8 32 b)))
    replace OF := OF.and1 ((Off.refl [B1] _).setAll (b := B1) mS 0 (row .u8 32 b)) (.inr (by omega))
    generalize w8.setCells B1 0 (row .u8 32 b) = w9 at M hwz OF ⊢
    refine readHg (i := 12) (some 5) rfl (.int .i64 0) rfl rfl (fun _ ⟨_, M⟩ => (by kernel_rfl)) ⟨_, M⟩ ?_
    simp only [aP, lI, l0, lS]
    refine wpAnyH_done (by kernel_rfl) ?_ _
    first | show Exit.then _ _ _ _ _ | show Exit.inBlock _ _ _ _ _
    have hK := show Hid _ from kyK_last (a := a) (b := b) h3.1 h3.2
    have hE := show Hid _ from kyE_last h3.1 h3.2
    have c1_ := M.part mS 0 (row .u8 32 b) (by rw [List.drop_zero, List.take_length])
    have hbel : Below w.heap.size w w9 := ⟨M.below.os.trans hb0.os.symm, M.below.tape.trans hb0.tape.symm, M.below.output.trans hb0.output.symm, OF.size, fun b hb => OF.blk b hb (fun h => by cases h)⟩
    clear M OF
    try clear h3
    try clear h31
    try clear h32
    try clear h2
    go_wp2
    refine bodyPost_ret (v := .tuple #[.agg (row .u8 32 b).toArray, .int .i64 0]) (retCellTmp 4 5 23 ⟨B1, 0, none⟩ (row .u8 32 b) _ rfl rfl rfl (fun _ => by kernel_rfl) (fun _ => by rw [row32]; kernel_rfl) c1_) rfl ?_
    exact ⟨by rw [hK.out, hE.out], hbel⟩
  go_upto_region 1 with fail
  refine wp_region_held_drew (S := fun w' => Mm w0 ((B1, row .u8 32 (fun _ => 0)) :: (R, [[Value.int .i64 e], row .u8 32 s, row .u8 32 a, row .u8 32 b, [Value.int .i64 m]].flatten) :: l) w') (by kernel_rfl) M.drew ?_
  clear M
  intro M
  have hdr := (Below.refl w1.heap.size w1).drew
  replace hwz := Nat.le_trans hwz hdr.size
  replace OF := OF.below hdr
  clear hdr
  generalize w1.drew = w10 at M hwz OF ⊢
  refine readHg (i := 0) (some 6) rfl (.int .i64 n) rfl rfl (fun _ M => (by kernel_rfl)) M ?_
  simp only [aP, lI, l0, lS]
  refine readHg (i := 1) (some 7) rfl (.pointer (some ⟨R, 0, none⟩)) rfl rfl (fun _ M => (by kernel_rfl)) M ?_
  simp only [aP, lI, l0, lS]
  refine readHg (i := 2) (some 8) rfl (.pointer (some ⟨R, 0, none⟩)) rfl rfl (fun _ M => (by kernel_rfl)) M ?_
  simp only [aP, lI, l0, lS]
  refine readHg (i := 3) (some 9) rfl (.pointer (some ⟨R, 0, none⟩)) rfl rfl (fun _ M => (by kernel_rfl)) M ?_
  simp only [aP, lI, l0, lS]
  refine readHg (i := 4) (some 10) rfl (.int .i64 e) rfl rfl (fun _ M => load1 3 _ ⟨R, 0, none⟩ _ rfl rfl (fun _ => by kernel_rfl) (M.get (mT _ mS) 0 _ (flat_get _ [1, 32, 32, 32, 1] (by simp [row_length]) 0 0 _ rfl rfl))) M ?_
  simp only [aP, lI, l0, lS]
  refine readHg (i := 5) (some 11) rfl (.bool false) rfl rfl (fun _ M => gtrI .i64 _ _ _ _ _ _ rfl rfl rfl false (decide_eq_false (by omega)) _) M ?_
  simp only [aP, lI, l0, lS]
  refine readHg (i := 6) (some 12) rfl (.bool false) rfl rfl (fun _ M => (by kernel_rfl)) M ?_
  simp only [aP, lI, l0, lS]
  refine readHg (i := 7) (some 13) rfl (.int .i64 n) rfl rfl (fun _ M => (by kernel_rfl)) M ?_
  simp only [aP, lI, l0, lS]
  refine readHg (i := 8) (some 14) rfl (.pointer (some ⟨R, 0, none⟩)) rfl rfl (fun _ M => (by kernel_rfl)) M ?_
  simp only [aP, lI, l0, lS]
  refine readHg (i := 9) (some 15) rfl (.pointer (some ⟨R, 0, none⟩)) rfl rfl (fun _ M => (by kernel_rfl)) M ?_
  simp only [aP, lI, l0, lS]
  refine readHg (i := 10) (some 16) rfl (.pointer (some ⟨R, 0, none⟩)) rfl rfl (fun _ M => (by kernel_rfl)) M ?_
  simp only [aP, lI, l0, lS]
  refine readHg (i := 11) (some 17) rfl (.int .i64 e) rfl rfl (fun _ M => load1 3 _ ⟨R, 0, none⟩ _ rfl rfl (fun _ => by kernel_rfl) (M.get (mT _ mS) 0 _ (flat_get _ [1, 32, 32, 32, 1] (by simp [row_length]) 0 0 _ rfl rfl))) M ?_
  simp only [aP, lI, l0, lS]
  refine readHg (i := 12) (some 18) rfl (.pointer (some ⟨R, 0, none⟩)) rfl rfl (fun _ M => (by kernel_rfl)) M ?_
  simp only [aP, lI, l0, lS]
  refine readHg (i := 13) (some 19) rfl (.pointer (some ⟨R, 0, none⟩)) rfl rfl (fun _ M => (by kernel_rfl)) M ?_
  simp only [aP, lI, l0, lS]
  refine readHg (i := 14) (some 20) rfl (.pointer (some ⟨R, 97, none⟩)) rfl rfl (fun _ M => (by kernel_rfl)) M ?_
  simp only [aP, lI, l0, lS]
  refine readHg (i := 15) (some 21) rfl (.int .i64 m) rfl rfl (fun _ M => load1 3 _ ⟨R, 97, none⟩ _ rfl rfl (fun _ => by kernel_rfl) (M.get (mT _ mS) 97 _ (flat_get _ [1, 32, 32, 32, 1] (by simp [row_length]) 4 97 _ rfl rfl))) M ?_
  simp only [aP, lI, l0, lS]
  refine readHg (i := 16) (some 22) rfl (.int .i64 (e - m)) rfl rfl (fun _ M => subI .i64 _ _ _ _ _ _ _ rfl rfl rfl (by rw [IntKind.wrap_i64]; omega) _) M ?_
  simp only [aP, lI, l0, lS]
  refine readHg (i := 17) (some 23) rfl (.bool true) rfl rfl (fun _ M => leqI .i64 _ _ _ _ _ _ rfl rfl rfl true (decide_eq_true (by omega)) _) M ?_
  simp only [aP, lI, l0, lS]
  refine readHg (i := 18) (some 24) rfl (.bool true) rfl rfl (fun _ M => (by kernel_rfl)) M ?_
  simp only [aP, lI, l0, lS]
  refine wpAnyH_done (by kernel_rfl) ?_ _
  first | show Exit.then _ _ _ _ _ | show Exit.inBlock _ _ _ _ _
  go_upto_region 2 with fail
  refine wp_region_list ?_
  refine readL (.agg (row .u8 32 (fun _ => 0)).toArray) rfl (by kernel_rfl) ?_
  simp only [aP, lI, l0, lS]
  refine skipOpL rfl (storeP (row .u8 32 (fun _ => 0)) B1 0 23 _ _ rfl rfl rfl (M.thereP mS 0 32 (Nat.le_of_ble_eq_true rfl)) (by kernel_rfl) (row_one .u8 32 (fun _ => 0))) ?_
  simp only [Act.put]
  replace M := M.setAll (row .u8 32 (fun _ => 0)) (by first | (rw [row32, row32]; done) | (rw [row32]; rfl) | (rw [row32]; done))
  replace hwz := Nat.le_trans hwz (Off.size ((Off.refl [B1] _).setAll (b := B1) mS 0 (row .u8 32 (fun _ => 0))))
  replace OF := OF.and1 ((Off.refl [B1] _).setAll (b := B1) mS 0 (row .u8 32 (fun _ => 0))) (.inr (by omega))
  generalize w10.setCells B1 0 (row .u8 32 (fun _ => 0)) = w11 at M hwz OF ⊢
  refine readL (.int .i64 150) rfl (by kernel_rfl) ?_
  simp only [aP, lI, l0, lS]
  first | show Exit.then _ _ _ _ _ | show Exit.inBlock _ _ _ _ _
  have hK := show Hid _ from kyK_none (a := a) (b := b) (m := m) h2 h3
  have hE := show Hid _ from kyE_none (m := m) h2 h3
  have c1_ := M.part mS 0 (row .u8 32 (fun _ => 0)) (by rw [List.drop_zero, List.take_length])
  have hbel : Below w.heap.size w w11 := ⟨M.below.os.trans hb0.os.symm, M.below.tape.trans hb0.tape.symm, M.below.output.trans hb0.output.symm, OF.size, fun b hb => OF.blk b hb (fun h => by cases h)⟩
  clear M OF
  try clear h3
  try clear h31
  try clear h32
  try clear h2
  go_wp2
  refine bodyPost_ret (v := .tuple #[.agg (row .u8 32 (fun _ => 0)).toArray, .int .i64 150]) (retCellTmp 4 5 23 ⟨B1, 0, none⟩ (row .u8 32 (fun _ => 0)) _ rfl rfl rfl (fun _ => by kernel_rfl) (fun _ => by rw [row32]; kernel_rfl) c1_) rfl ?_
  exact ⟨by rw [hK.out, hE.out], hbel⟩
theorem knextk_any (w0 w : World) (R : Nat) (l : List (Nat × List Value)) (e : Int) (s a b : Nat → Int) (m : Int) (hg : BGlob w0) (hs : In 256 32 s) (k : Kys) (hk1 : k.e = e) (hk2 : k.now = s) (M : Mm w0 ((R, pkf e s a b m) :: l) w) :
    Calls Tryd.prog 15 #[.pointer (some ⟨R, 0, none⟩)] w fun e' w' => e' = .returned (.tuple #[.agg (row .u8 32 (ynK k)).toArray, .int .i64 (ynE k)]) ∧ Below w.heap.size w w' := by
  replace M : Mm w0 ((R, [[Value.int .i64 e], row .u8 32 s, row .u8 32 a, row .u8 32 b, [Value.int .i64 m]].flatten) :: l) w := M
  have hb0 := M.below
  have hwz := Nat.le_refl w.heap.size
  have OF := Off.refl [] w
  go_enter Tryd.func15, Tryd.ntmps15
  go_upto_region 0 with fail
  refine wp_region_list ?_
  have hlb := (Below.refl w.heap.size w).alloc (Nat.le_refl _) (.cells zu8_32 23)
  refine actL (w' := w.alloc (.cells zu8_32 23)) (.pointer (some ⟨w.heap.size, 0, none⟩)) rfl (by kernel_rfl) ?_
  simp only [aP, lI, l0, lS]
  have hB_ := hwz
  replace hwz := Nat.le_trans hwz hlb.size
  replace OF := OF.below hlb
  replace M := M.box zu8_32 23 w.heap.size rfl
  clear hlb
  generalize w.alloc (.cells zu8_32 23) = w1 at M hwz OF ⊢
  generalize eB_ : w.heap.size = B1 at M ⊢
  have hB_B1 : w.heap.size ≤ B1 := by rw [← eB_]; exact hB_
  clear hB_ eB_
  replace M : Mm w0 ((B1, row .u8 32 (fun _ => 0)) :: (R, [[Value.int .i64 e], row .u8 32 s, row .u8 32 a, row .u8 32 b, [Value.int .i64 m]].flatten) :: l) w1 := M
  refine readL (.int .i64 0) rfl (by kernel_rfl) ?_
  simp only [aP, lI, l0, lS]
  first | show Exit.then _ _ _ _ _ | show Exit.inBlock _ _ _ _ _
  by_cases h1 : e ≥ 65535
  · go_upto_region 1 with fail
    refine wp_region_list ?_
    refine readL (.pointer (some ⟨R, 0, none⟩)) rfl (by kernel_rfl) ?_
    simp only [aP, lI, l0, lS]
    replace M := M.swap
    refine callL rfl (fun _ => by kernel_rfl) (kended_any w0 _ R _ e s a b m true (decide_eq_true h1) M) ?_
    rintro e w2 ⟨rfl, l⟩
    replace M := M.call l
    replace hwz := Nat.le_trans hwz l.size
    replace OF := OF.below l
    clear l
    refine ⟨_, rfl, ?_⟩
    simp only [aP, lI, l0, lS]
    first | show Exit.then _ _ _ _ _ | show Exit.inBlock _ _ _ _ _
    go_upto_region 2 with fail
    refine wp_region_list ?_
    refine readL (.agg (row .u8 32 (fun _ => 0)).toArray) rfl (by kernel_rfl) ?_
    simp only [aP, lI, l0, lS]
    replace M := M.swap
    refine skipOpL rfl (storeP (row .u8 32 (fun _ => 0)) B1 0 23 _ _ rfl rfl rfl (M.thereP mS 0 32 (Nat.le_of_ble_eq_true rfl)) (by kernel_rfl) (row_one .u8 32 (fun _ => 0))) ?_
    simp only [Act.put]
    replace M := M.setAll (row .u8 32 (fun _ => 0)) (by first | (rw [row32, row32]; done) | (rw [row32]; rfl) | (rw [row32]; done))
    replace hwz := Nat.le_trans hwz (Off.size ((Off.refl [B1] _).setAll (b := B1) mS 0 (row .u8 32 (fun _ => 0))))
    replace OF := OF.and1 ((Off.refl [B1] _).setAll (b := B1) mS 0 (row .u8 32 (fun _ => 0))) (.inr (by omega))
    generalize w2.setCells B1 0 (row .u8 32 (fun _ => 0)) = w3 at M hwz OF ⊢
    refine readL (.int .i64 6) rfl (by kernel_rfl) ?_
    simp only [aP, lI, l0, lS]
    first | show Exit.then _ _ _ _ _ | show Exit.inBlock _ _ _ _ _
    have hK := show Hid _ from (show ynK k = fun _ => 0 from if_pos (by rw [hk1]; exact h1))
    have hE := show Hid _ from (show ynE k = 6 from if_pos (by rw [hk1]; exact h1))
    have c1_ := M.part mS 0 (row .u8 32 (fun _ => 0)) (by rw [List.drop_zero, List.take_length])
    have hbel : Below w.heap.size w w3 := ⟨M.below.os.trans hb0.os.symm, M.below.tape.trans hb0.tape.symm, M.below.output.trans hb0.output.symm, OF.size, fun b hb => OF.blk b hb (fun h => by cases h)⟩
    clear M OF
    try clear h3
    try clear h31
    try clear h32
    try clear h2
    go_wp2
    refine bodyPost_ret (v := .tuple #[.agg (row .u8 32 (fun _ => 0)).toArray, .int .i64 6]) (retCellTmp 2 3 23 ⟨B1, 0, none⟩ (row .u8 32 (fun _ => 0)) _ rfl rfl rfl (fun _ => by kernel_rfl) (fun _ => by rw [row32]; kernel_rfl) c1_) rfl ?_
    exact ⟨by rw [hK.out, hE.out], hbel⟩
  go_upto_region 1 with fail
  refine wp_region_list ?_
  refine readL (.pointer (some ⟨R, 0, none⟩)) rfl (by kernel_rfl) ?_
  simp only [aP, lI, l0, lS]
  replace M := M.swap
  refine callL rfl (fun _ => by kernel_rfl) (kended_any w0 _ R _ e s a b m false (decide_eq_false h1) M) ?_
  rintro e w4 ⟨rfl, l⟩
  replace M := M.call l
  replace hwz := Nat.le_trans hwz l.size
  replace OF := OF.below l
  clear l
  refine ⟨_, rfl, ?_⟩
  simp only [aP, lI, l0, lS]
  first | show Exit.then _ _ _ _ _ | show Exit.inBlock _ _ _ _ _
  go_upto_region 3 with fail
  refine wp_region_list ?_
  refine readL (.pointer (some ⟨R, 0, none⟩)) rfl (by kernel_rfl) ?_
  simp only [aP, lI, l0, lS]
  refine readL (.pointer (some ⟨R, 0, none⟩)) rfl (by kernel_rfl) ?_
  simp only [aP, lI, l0, lS]
  refine readL (.pointer (some ⟨R, 1, none⟩)) rfl (by kernel_rfl) ?_
  simp only [aP, lI, l0, lS]
  refine readL (.agg (row .u8 32 s).toArray) rfl (loadN 23 _ ⟨R, 1, none⟩ (row .u8 32 s) rfl rfl (fun _ => by kernel_rfl) (fun _ => by rw [row32]; kernel_rfl) (M.part mS 1 _ (flat_part _ [1, 32, 32, 32, 1] (by simp [row_length]) 1 1 _ rfl rfl))) ?_
  simp only [aP, lI, l0, lS]
  refine callL rfl (fun _ => by kernel_rfl) (klater_any s hs _ (hg.below M.below hg.size)) ?_
  rintro e w5 ⟨rfl, l⟩
  replace M := M.call l
  replace hwz := Nat.le_trans hwz l.size
  replace OF := OF.below l
  clear l
  refine ⟨_, rfl, ?_⟩
  simp only [aP, lI, l0, lS]
  refine callL rfl (fun _ => by kernel_rfl) (kof_any (ylt s) (ylt_in _) _ (hg.below M.below hg.size)) ?_
  rintro e w6 ⟨rfl, l⟩
  replace M := M.call l
  replace hwz := Nat.le_trans hwz l.size
  replace OF := OF.below l
  clear l
  refine ⟨_, rfl, ?_⟩
  simp only [aP, lI, l0, lS]
  replace M := M.swap
  refine skipOpL rfl (storeP (row .u8 32 (yof (ylt s))) B1 0 23 _ _ rfl rfl rfl (M.thereP mS 0 32 (Nat.le_of_ble_eq_true rfl)) (by kernel_rfl) (row_one .u8 32 (yof (ylt s)))) ?_
  simp only [Act.put]
  replace M := M.setAll (row .u8 32 (yof (ylt s))) (by first | (rw [row32, row32]; done) | (rw [row32]; rfl) | (rw [row32]; done))
  replace hwz := Nat.le_trans hwz (Off.size ((Off.refl [B1] _).setAll (b := B1) mS 0 (row .u8 32 (yof (ylt s)))))
  replace OF := OF.and1 ((Off.refl [B1] _).setAll (b := B1) mS 0 (row .u8 32 (yof (ylt s)))) (.inr (by omega))
  generalize w6.setCells B1 0 (row .u8 32 (yof (ylt s))) = w7 at M hwz OF ⊢
  refine readL (.int .i64 0) rfl (by kernel_rfl) ?_
  simp only [aP, lI, l0, lS]
  first | show Exit.then _ _ _ _ _ | show Exit.inBlock _ _ _ _ _
  have hK := show Hid _ from (show ynK k = yof (ylt s) from (if_neg (by rw [hk1]; exact h1)).trans (by rw [hk2]))
  have hE := show Hid _ from (show ynE k = 0 from if_neg (by rw [hk1]; exact h1))
  have c1_ := M.part mS 0 (row .u8 32 (yof (ylt s))) (by rw [List.drop_zero, List.take_length])
  have hbel : Below w.heap.size w w7 := ⟨M.below.os.trans hb0.os.symm, M.below.tape.trans hb0.tape.symm, M.below.output.trans hb0.output.symm, OF.size, fun b hb => OF.blk b hb (fun h => by cases h)⟩
  clear M OF
  try clear h3
  try clear h31
  try clear h32
  try clear h2
  go_wp2
  refine bodyPost_ret (v := .tuple #[.agg (row .u8 32 (yof (ylt s))).toArray, .int .i64 0]) (retCellTmp 2 3 23 ⟨B1, 0, none⟩ (row .u8 32 (yof (ylt s))) _ rfl rfl rfl (fun _ => by kernel_rfl) (fun _ => by rw [row32]; kernel_rfl) c1_) rfl ?_
  exact ⟨by rw [hK.out, hE.out], hbel⟩
def ymn (k : Kys) : Int := if k.has = true then 2 else 1
def ylk (k : Kys) : Nat → Int := if k.has = true then yof k.last else fun _ => 0
theorem ymn_or (k : Kys) : ymn k = 1 ∨ ymn k = 2 := by unfold ymn; split <;> omega
def kck (k : Kys) : List Value := pkf k.e k.now (yof k.now) (ylk k) (ymn k)
theorem kck_on {k : Kys} (h : ¬ 65535 ≤ k.e) : kck (yad k) = pkf (k.e + 1) (ylt k.now) (yof (ylt k.now)) (yof k.now) 2 := by rw [yad_on h]; rfl
theorem kyK_is (k : Kys) (n : Int) : kyK k.e (ymn k) (yof k.now) (ylk k) n = ykK k n := by
  unfold kyK ykK ymn ylk
  cases k.has <;> simp
theorem kyE_is (k : Kys) (n : Int) : kyE k.e (ymn k) n = ykE k n := by
  unfold kyE ykE ymn
  cases k.has <;> simp
theorem kadv_any (w0 w : World) (R : Nat) (l : List (Nat × List Value)) (e : Int) (s a b : Nat → Int) (m : Int) (hg : BGlob w0) (hs : In 256 32 s) (he : 0 ≤ e ∧ e ≤ 65535) (hm : m = 1 ∨ m = 2) (k : Kys) (hk1 : k.e = e) (hc : ¬ 65535 ≤ e → kck (yad k) = pkf (e + 1) (ylt s) (yof (ylt s)) a 2) (hc0 : kck k = pkf e s a b m) (M : Mm w0 ((R, pkf e s a b m) :: l) w) :
    Calls Tryd.prog 10 #[.pointer (some ⟨R, 0, none⟩)] w fun e' w' => e' = .returned (.int .i64 (ynE k)) ∧ Mm w0 ((R, kck (yad k)) :: l) w' ∧ Off [R] w w' := by
  replace M : Mm w0 ((R, [[Value.int .i64 e], row .u8 32 s, row .u8 32 a, row .u8 32 b, [Value.int .i64 m]].flatten) :: l) w := M
  have hb0 := M.below
  have hwz := Nat.le_refl w.heap.size
  have OF := Off.refl [R] w
  go_enter Tryd.func10, Tryd.ntmps10
  obtain ⟨he0, he1⟩ := he
  go_upto_region 0 with fail
  refine wp_region_list ?_
  refine readL (.int .i64 0) rfl (by kernel_rfl) ?_
  simp only [aP, lI, l0, lS]
  first | show Exit.then _ _ _ _ _ | show Exit.inBlock _ _ _ _ _
  by_cases h1 : e ≥ 65535
  · go_upto_region 1 with fail
    refine wp_region_list ?_
    refine readL (.pointer (some ⟨R, 0, none⟩)) rfl (by kernel_rfl) ?_
    simp only [aP, lI, l0, lS]
    refine callL rfl (fun _ => by kernel_rfl) (kended_any w0 _ R _ e s a b m true (decide_eq_true h1) M) ?_
    rintro e w1 ⟨rfl, l⟩
    replace M := M.call l
    replace hwz := Nat.le_trans hwz l.size
    replace OF := OF.below l
    clear l
    refine ⟨_, rfl, ?_⟩
    simp only [aP, lI, l0, lS]
    first | show Exit.then _ _ _ _ _ | show Exit.inBlock _ _ _ _ _
    go_upto_region 2 with fail
    refine wp_region_list ?_
    refine readL (.int .i64 6) rfl (by kernel_rfl) ?_
    simp only [aP, lI, l0, lS]
    first | show Exit.then _ _ _ _ _ | show Exit.inBlock _ _ _ _ _
    have hE := show Hid _ from (show ynE k = 6 from if_pos (by rw [hk1]; exact h1))
    replace M : Mm w0 ((R, kck (yad k)) :: l) w1 := by rw [yad_end (by rw [hk1]; exact h1), hc0]; exact M
    have HS := show Hid _ from (And.intro M OF)
    clear M OF hc hc0 hk1
    go_wp2
    go_ret
    exact ⟨by rw [hE.out]; rfl, HS.out.1, HS.out.2⟩
  go_upto_region 1 with fail
  refine wp_region_list ?_
  refine readL (.pointer (some ⟨R, 0, none⟩)) rfl (by kernel_rfl) ?_
  simp only [aP, lI, l0, lS]
  refine callL rfl (fun _ => by kernel_rfl) (kended_any w0 _ R _ e s a b m false (decide_eq_false h1) M) ?_
  rintro e w2 ⟨rfl, l⟩
  replace M := M.call l
  replace hwz := Nat.le_trans hwz l.size
  replace OF := OF.below l
  clear l
  refine ⟨_, rfl, ?_⟩
  simp only [aP, lI, l0, lS]
  first | show Exit.then _ _ _ _ _ | show Exit.inBlock _ _ _ _ _
  go_upto_region 3 with fail
  refine wp_region_list ?_
  refine readL (.pointer (some ⟨R, 0, none⟩)) rfl (by kernel_rfl) ?_
  simp only [aP, lI, l0, lS]
  refine readL (.pointer (some ⟨R, 0, none⟩)) rfl (by kernel_rfl) ?_
  simp only [aP, lI, l0, lS]
  refine readL (.pointer (some ⟨R, 0, none⟩)) rfl (by kernel_rfl) ?_
  simp only [aP, lI, l0, lS]
  refine readL (.int .i64 e) rfl (load1 3 _ ⟨R, 0, none⟩ _ rfl rfl (fun _ => by kernel_rfl) (M.get mS 0 _ (flat_get _ [1, 32, 32, 32, 1] (by simp [row_length]) 0 0 _ rfl rfl))) ?_
  simp only [aP, lI, l0, lS]
  refine readL (.int .i64 (e + 1)) rfl (addI .i64 _ _ _ _ _ _ _ rfl rfl rfl (by rw [IntKind.wrap_i64]; omega) _) ?_
  simp only [aP, lI, l0, lS]
  refine readL (.pointer (some ⟨R, 0, none⟩)) rfl (by kernel_rfl) ?_
  simp only [aP, lI, l0, lS]
  refine readL (.pointer (some ⟨R, 0, none⟩)) rfl (by kernel_rfl) ?_
  simp only [aP, lI, l0, lS]
  refine skipOpL rfl (storeAny (.int .i64 (e + 1)) R 0 3 _ _ rfl rfl rfl rfl rfl (M.isSome mS 0 (by rw [flat_len _ [1, 32, 32, 32, 1] (by simp [row_length])]; decide)) (M.free mS 0 (by rw [flat_len _ [1, 32, 32, 32, 1] (by simp [row_length])]; decide)) (by kernel_rfl)) ?_
  simp only [Act.put]
  replace M := M.set 0 (by rw [flat_len _ [1, 32, 32, 32, 1] (by simp [row_length])]; decide) (.int .i64 (e + 1))
  rw [flat_set1 _ [1, 32, 32, 32, 1] (by simp [row_length]) 0 0 _ (.int .i64 (e + 1)) rfl rfl] at M
  replace hwz := Nat.le_trans hwz (Off.size ((Off.refl [R] _).set (b := R) mS 0 (.int .i64 (e + 1))))
  replace OF := OF.and1 ((Off.refl [R] _).set (b := R) mS 0 (.int .i64 (e + 1))) (.inl (by simp))
  generalize w2.setCell ⟨R, 0, none⟩ (.int .i64 (e + 1)) = w3 at M hwz OF ⊢
  replace M : Mm w0 ((R, [[Value.int .i64 (e + 1)], row .u8 32 s, row .u8 32 a, row .u8 32 b, [Value.int .i64 m]].flatten) :: l) w3 := M
  first | show Exit.then _ _ _ _ _ | show Exit.inBlock _ _ _ _ _
  go_upto_region 4 with fail
  refine wp_region_list ?_
  refine readL (.pointer (some ⟨R, 0, none⟩)) rfl (by kernel_rfl) ?_
  simp only [aP, lI, l0, lS]
  refine readL (.pointer (some ⟨R, 0, none⟩)) rfl (by kernel_rfl) ?_
  simp only [aP, lI, l0, lS]
  refine readL (.pointer (some ⟨R, 0, none⟩)) rfl (by kernel_rfl) ?_
  simp only [aP, lI, l0, lS]
  refine readL (.pointer (some ⟨R, 1, none⟩)) rfl (by kernel_rfl) ?_
  simp only [aP, lI, l0, lS]
  refine readL (.agg (row .u8 32 s).toArray) rfl (loadN 23 _ ⟨R, 1, none⟩ (row .u8 32 s) rfl rfl (fun _ => by kernel_rfl) (fun _ => by rw [row32]; kernel_rfl) (M.part mS 1 _ (flat_part _ [1, 32, 32, 32, 1] (by simp [row_length]) 1 1 _ rfl rfl))) ?_
  simp only [aP, lI, l0, lS]
  refine callL rfl (fun _ => by kernel_rfl) (klater_any s hs _ (hg.below M.below hg.size)) ?_
  rintro e w4 ⟨rfl, l⟩
  replace M := M.call l
  replace hwz := Nat.le_trans hwz l.size
  replace OF := OF.below l
  clear l
  refine ⟨_, rfl, ?_⟩
  simp only [aP, lI, l0, lS]
  replace M : Mm w0 ((R, [[Value.int .i64 (e + 1)], row .u8 32 s, row .u8 32 a, row .u8 32 b, [Value.int .i64 m]].flatten) :: l) w4 := M
  refine callL rfl (fun _ => by kernel_rfl) (ktake_any w0 _ R _ (e + 1) m 2 s a b (ylt s) (ylt_in _) (by omega) hg M) ?_
  rintro e w5 ⟨rfl, M', o1⟩
  clear M
  have M := M'
  clear M'
  replace hwz := Nat.le_trans hwz (Off.size o1)
  replace OF := OF.and1 o1 (.inl (by simp))
  clear o1
  refine ⟨_, rfl, ?_⟩
  simp only [aP, lI, l0, lS]
  first | show Exit.then _ _ _ _ _ | show Exit.inBlock _ _ _ _ _
  go_upto_region 5 with fail
  refine wp_region_list ?_
  refine readL (.int .i64 0) rfl (by kernel_rfl) ?_
  simp only [aP, lI, l0, lS]
  first | show Exit.then _ _ _ _ _ | show Exit.inBlock _ _ _ _ _
  have hE := show Hid _ from (show ynE k = 0 from if_neg (by rw [hk1]; exact h1))
  replace M : Mm w0 ((R, kck (yad k)) :: l) w5 := by rw [hc h1]; exact M
  have HS := show Hid _ from (And.intro M OF)
  clear M OF hc hc0 hk1
  go_wp2
  go_ret
  exact ⟨by rw [hE.out]; rfl, HS.out.1, HS.out.2⟩
theorem kat_any (w0 w : World) (l : List (Nat × List Value)) (r : Nat → Int) (n : Int) (hg : BGlob w0) (hr : In 256 32 r) (M : Mm w0 l w) :
    Calls Tryd.prog 17 #[.agg (row .u8 32 r).toArray, .int .i64 n] w fun e' w' => ∃ R, e' = .returned (.pointer (some ⟨R, 0, none⟩)) ∧ w.heap.size ≤ R ∧ Mm w0 ((R, kck (yat r n)) :: l) w' ∧ Below w.heap.size w w' := by
  have hb0 := M.below
  have hwz := Nat.le_refl w.heap.size
  have OF := Off.refl [] w
  go_enter Tryd.func17, Tryd.ntmps17
  go_upto_region 0 with fail
  refine wp_region_list ?_
  have hlb := (Below.refl w.heap.size w).alloc (Nat.le_refl _) (.cells (row .u8 32 r).toArray 23)
  refine actL (w' := w.alloc (.cells (row .u8 32 r).toArray 23)) (.pointer (some ⟨w.heap.size, 0, none⟩)) rfl (by kernel_rfl) ?_
  simp only [aP, lI, l0, lS]
  have hB_ := hwz
  replace hwz := Nat.le_trans hwz hlb.size
  replace OF := OF.below hlb
  replace M := M.box (row .u8 32 r).toArray 23 w.heap.size rfl
  clear hlb
  generalize w.alloc (.cells (row .u8 32 r).toArray 23) = w1 at M hwz OF ⊢
  generalize eB_ : w.heap.size = B1 at M ⊢
  have hB_B1 : w.heap.size ≤ B1 := by rw [← eB_]; exact hB_
  clear hB_ eB_
  replace M : Mm w0 ((B1, row .u8 32 r) :: l) w1 := M
  refine readL (.pointer none) rfl (by kernel_rfl) ?_
  simp only [aP, lI, l0, lS]
  first | show Exit.then _ _ _ _ _ | show Exit.inBlock _ _ _ _ _
  go_upto_region 1 with fail
  refine wp_region_list ?_
  refine readL (.int .i64 n) rfl (by kernel_rfl) ?_
  simp only [aP, lI, l0, lS]
  refine readL (.int .i64 (max n 0)) rfl (maxI .i64 .i64 _ _ _ _ _ _ _ rfl rfl rfl (by split <;> omega) _) ?_
  simp only [aP, lI, l0, lS]
  refine readL (.int .i64 (max 0 (min n 65535))) rfl (minI .i64 .i64 _ _ _ _ _ _ _ rfl rfl rfl (by split <;> omega) _) ?_
  simp only [aP, lI, l0, lS]
  refine readL (.agg ([[Value.int .i64 (max 0 (min n 65535))], row .u8 32 (fun _ => 0), row .u8 32 (fun _ => 0), row .u8 32 (fun _ => 0), [Value.int .i64 0]].flatten).toArray) rfl (by kernel_rfl) ?_
  simp only [aP, lI, l0, lS]
  have hlb := (Below.refl w1.heap.size w1).alloc (Nat.le_refl _) (.cells ([[Value.int .i64 (max 0 (min n 65535))], row .u8 32 (fun _ => 0), row .u8 32 (fun _ => 0), row .u8 32 (fun _ => 0), [Value.int .i64 0]].flatten).toArray 46)
  refine actL (w' := w1.alloc (.cells ([[Value.int .i64 (max 0 (min n 65535))], row .u8 32 (fun _ => 0), row .u8 32 (fun _ => 0), row .u8 32 (fun _ => 0), [Value.int .i64 0]].flatten).toArray 46)) (.pointer (some ⟨w1.heap.size, 0, none⟩)) rfl (by kernel_rfl) ?_
  simp only [aP, lI, l0, lS]
  have hB_ := hwz
  replace hwz := Nat.le_trans hwz hlb.size
  replace OF := OF.below hlb
  replace M := M.box ([[Value.int .i64 (max 0 (min n 65535))], row .u8 32 (fun _ => 0), row .u8 32 (fun _ => 0), row .u8 32 (fun _ => 0), [Value.int .i64 0]].flatten).toArray 46 w1.heap.size rfl
  clear hlb
  generalize w1.alloc (.cells ([[Value.int .i64 (max 0 (min n 65535))], row .u8 32 (fun _ => 0), row .u8 32 (fun _ => 0), row .u8 32 (fun _ => 0), [Value.int .i64 0]].flatten).toArray 46) = w2 at M hwz OF ⊢
  generalize eB_ : w1.heap.size = B2 at M ⊢
  have hB_B2 : w.heap.size ≤ B2 := by rw [← eB_]; exact hB_
  clear hB_ eB_
  replace M : Mm w0 ((B2, [[Value.int .i64 (max 0 (min n 65535))], row .u8 32 (fun _ => 0), row .u8 32 (fun _ => 0), row .u8 32 (fun _ => 0), [Value.int .i64 0]].flatten) :: (B1, row .u8 32 r) :: l) w2 := M
  refine readL (.pointer (some ⟨B2, 0, none⟩)) rfl (by kernel_rfl) ?_
  simp only [aP, lI, l0, lS]
  first | show Exit.then _ _ _ _ _ | show Exit.inBlock _ _ _ _ _
  go_upto_region 2 with fail
  refine wp_region_list ?_
  refine readL (.pointer (some ⟨B2, 0, none⟩)) rfl (by kernel_rfl) ?_
  simp only [aP, lI, l0, lS]
  refine readL (.agg (row .u8 32 r).toArray) rfl (loadN 23 _ ⟨B1, 0, none⟩ (row .u8 32 r) rfl rfl (fun _ => by kernel_rfl) (fun _ => by rw [row32]; kernel_rfl) (M.part (mT _ mS) 0 _ (by rw [List.drop_zero, List.take_length]))) ?_
  simp only [aP, lI, l0, lS]
  replace M : Mm w0 ((B2, [[Value.int .i64 (max 0 (min n 65535))], row .u8 32 (fun _ => 0), row .u8 32 (fun _ => 0), row .u8 32 (fun _ => 0), [Value.int .i64 0]].flatten) :: (B1, row .u8 32 r) :: l) w2 := M
  refine callL rfl (fun _ => by kernel_rfl) (ktake_any w0 _ B2 _ (max 0 (min n 65535)) 0 1 (fun _ => 0) (fun _ => 0) (fun _ => 0) r hr (by omega) hg M) ?_
  rintro e w3 ⟨rfl, M', o1⟩
  clear M
  have M := M'
  clear M'
  replace hwz := Nat.le_trans hwz (Off.size o1)
  replace OF := OF.and1 o1 (.inr (by omega))
  clear o1
  refine ⟨_, rfl, ?_⟩
  simp only [aP, lI, l0, lS]
  first | show Exit.then _ _ _ _ _ | show Exit.inBlock _ _ _ _ _
  go_upto_region 3 with fail
  refine wp_region_list ?_
  refine readL (.pointer (some ⟨B2, 0, none⟩)) rfl (by kernel_rfl) ?_
  simp only [aP, lI, l0, lS]
  refine readL (.pointer (some ⟨B2, 0, none⟩)) rfl (by kernel_rfl) ?_
  simp only [aP, lI, l0, lS]
  first | show Exit.then _ _ _ _ _ | show Exit.inBlock _ _ _ _ _
  replace M : Mm w0 ((B2, [[Value.int .i64 (max 0 (min n 65535))], row .u8 32 r, row .u8 32 (yof r), row .u8 32 (fun _ => 0), [Value.int .i64 1]].flatten) :: l) w3 := M.sub _ (List.cons_sublist_cons.2 (List.Sublist.cons _ (List.Sublist.refl _)))
  have hbel : Below w.heap.size w w3 := ⟨M.below.os.trans hb0.os.symm, M.below.tape.trans hb0.tape.symm, M.below.output.trans hb0.output.symm, OF.size, fun b hb => OF.blk b hb (fun h => by cases h)⟩
  replace M : Mm w0 ((B2, kck (yat r n)) :: l) w3 := M
  have HS := show Hid _ from (And.intro hB_B2 (And.intro M hbel))
  clear M OF hbel hB_B2
  go_wp2
  go_ret
  exact ⟨B2, rfl, HS.out⟩
theorem knew_any (w0 w : World) (l : List (Nat × List Value)) (r : Nat → Int) (hg : BGlob w0) (hr : In 256 32 r) (M : Mm w0 l w) :
    Calls Tryd.prog 7 #[.agg (row .u8 32 r).toArray] w fun e' w' => ∃ R, e' = .returned (.pointer (some ⟨R, 0, none⟩)) ∧ w.heap.size ≤ R ∧ Mm w0 ((R, kck (ynew r)) :: l) w' ∧ Below w.heap.size w w' := by
  have hb0 := M.below
  have hwz := Nat.le_refl w.heap.size
  have OF := Off.refl [] w
  go_enter Tryd.func7, Tryd.ntmps7
  go_upto_region 0 with fail
  refine wp_region_list ?_
  have hlb := (Below.refl w.heap.size w).alloc (Nat.le_refl _) (.cells (row .u8 32 r).toArray 23)
  refine actL (w' := w.alloc (.cells (row .u8 32 r).toArray 23)) (.pointer (some ⟨w.heap.size, 0, none⟩)) rfl (by kernel_rfl) ?_
  simp only [aP, lI, l0, lS]
  have hB_ := hwz
  replace hwz := Nat.le_trans hwz hlb.size
  replace OF := OF.below hlb
  replace M := M.box (row .u8 32 r).toArray 23 w.heap.size rfl
  clear hlb
  generalize w.alloc (.cells (row .u8 32 r).toArray 23) = w1 at M hwz OF ⊢
  generalize eB_ : w.heap.size = B1 at M ⊢
  have hB_B1 : w.heap.size ≤ B1 := by rw [← eB_]; exact hB_
  clear hB_ eB_
  replace M : Mm w0 ((B1, row .u8 32 r) :: l) w1 := M
  refine readL (.pointer none) rfl (by kernel_rfl) ?_
  simp only [aP, lI, l0, lS]
  first | show Exit.then _ _ _ _ _ | show Exit.inBlock _ _ _ _ _
  go_upto_region 1 with fail
  refine wp_region_list ?_
  refine readL (.agg (row .u8 32 r).toArray) rfl (loadN 23 _ ⟨B1, 0, none⟩ (row .u8 32 r) rfl rfl (fun _ => by kernel_rfl) (fun _ => by rw [row32]; kernel_rfl) (M.part mS 0 _ (by rw [List.drop_zero, List.take_length]))) ?_
  simp only [aP, lI, l0, lS]
  refine callL rfl (fun _ => by kernel_rfl) (kat_any w0 _ _ r 0 hg hr M) ?_
  rintro e w2 ⟨RA, rfl, hB_RA, M', l1⟩
  clear M
  have M := M'
  clear M'
  replace hB_RA := Nat.le_trans hwz hB_RA
  replace hwz := Nat.le_trans hwz l1.size
  replace OF := OF.below l1
  clear l1
  refine ⟨_, rfl, ?_⟩
  simp only [aP, lI, l0, lS]
  refine readL (.pointer (some ⟨RA, 0, none⟩)) rfl (by kernel_rfl) ?_
  simp only [aP, lI, l0, lS]
  first | show Exit.then _ _ _ _ _ | show Exit.inBlock _ _ _ _ _
  replace M : Mm w0 ((RA, pkf (max 0 (min 0 65535)) r (yof r) (ylk (yat r 0)) (ymn (yat r 0))) :: l) w2 := M.sub _ (List.cons_sublist_cons.2 (List.Sublist.cons _ (List.Sublist.refl _)))
  have hbel : Below w.heap.size w w2 := ⟨M.below.os.trans hb0.os.symm, M.below.tape.trans hb0.tape.symm, M.below.output.trans hb0.output.symm, OF.size, fun b hb => OF.blk b hb (fun h => by cases h)⟩
  replace M : Mm w0 ((RA, kck (ynew r)) :: l) w2 := M
  have HS := show Hid _ from (And.intro hB_RA (And.intro M hbel))
  clear M OF hbel hB_RA
  go_wp2
  go_ret
  exact ⟨RA, rfl, HS.out⟩
def KI (v : Value) (k : Kys) (bs : List (Nat × List Value)) : Prop := ∃ R, v = .pointer (some ⟨R, 0, none⟩) ∧ bs = [(R, kck k)]
theorem vkeys_any : KeysOK KI where
  ptr := fun _ _ _ h => let ⟨R, e, _⟩ := h; ⟨R, e⟩
  new := fun w0 w l r hg hr M => Calls.mono (knew_any w0 w l r hg hr M) fun _ _ ⟨R, h1, _, h3, h4⟩ => ⟨_, _, h1, ⟨R, rfl, rfl⟩, h3, h4⟩
  key := fun w0 w v k bs l n _ hw _ hI M => by
    obtain ⟨R, rfl, rfl⟩ := hI
    have h := kkey_any w0 w R l k.e k.now (yof k.now) (ylk k) (ymn k) ⟨hw.lo, hw.hi⟩ (ymn_or k) n M
    rw [kyK_is, kyE_is] at h
    exact h
  nxt := fun w0 w v k bs l hg hw hI M => by
    obtain ⟨R, rfl, rfl⟩ := hI
    exact knextk_any w0 w R l k.e k.now (yof k.now) (ylk k) (ymn k) hg hw.now k rfl rfl M
  adv := fun w0 w v k bs l hg hw hI M => by
    obtain ⟨R, rfl, rfl⟩ := hI
    exact Calls.mono (kadv_any w0 w R l k.e k.now (yof k.now) (ylk k) (ymn k) hg hw.now ⟨hw.lo, hw.hi⟩ (ymn_or k) k rfl kck_on rfl M) fun _ _ ⟨h1, h2, h3⟩ => ⟨h1, [(R, kck (yad k))], ⟨R, rfl, rfl⟩, fun p hp => .inl (by rw [List.mem_singleton] at hp; subst hp; exact List.mem_singleton.2 rfl), h2, h3⟩
  epo := fun w0 w v k bs l _ hI M => by
    obtain ⟨R, rfl, rfl⟩ := hI
    exact kepoch_any w0 w R l k.e k.now (yof k.now) (ylk k) (ymn k) M
section
open Go.ChangeShapes Go.WideShapes Go.ChangeAt Go.WideMaps Go.WideElems Go.RowKit
def intAt : Option Value → Int
  | some (.int _ n) => n
  | _ => 0
theorem mapM_every {α β : Type} (g : α → Option β) (h : α → β) : ∀ l : List α, (∀ i ∈ l, g i = some (h i)) → l.mapM g = some (l.map h)
  | [], _ => rfl
  | x :: l, hh => by
    rw [List.mapM_cons, hh x (by simp), mapM_every g h l (fun i hi => hh i (by simp [hi]))]
    rfl
def litR {H : Type} (k : IntKind) (n : Nat) (f : Nat → Int) : DataW H := .agg ((List.range n).map fun j => .lit (.int k (f j)))
section
variable {H : Type} {enc : TypeId × Value → H} {P : Program} {w : World} {base : Nat} {sp : Nat → Bool} {held : Bool}
theorem open_row {t e : TypeId} {n : Nat} {k : IntKind} (hu : P.underlying t = some (.array n e)) (he : P.underlying e = some (.int k)) (hct : P.cellsOf t = n) (hce : P.cellsOf e = 1) {fuel : Nat} {cs : List Value} {x : DataW H × List MemPlace}
    (h : DataW.trod enc P w base sp held fuel t cs = some x) : ∃ f : Nat → Int, (∀ j, j < n → (Lit.int k (f j)).wf = true) ∧ cs = row k n f ∧ x = (litR k n f, []) := by
  obtain ⟨xs, m, _, hx, hl, hn, hel⟩ := DataW.trod_array hu h
  rw [hct] at hl
  have hcell : ∀ i, i < n → ∃ v, cs[i]? = some (.int k v) ∧ xs[i]? = some (.lit (.int k v), []) ∧ (Lit.int k v).wf = true := by
    intro i hi
    have e1 := hel i hi
    rw [hce, Nat.mul_one] at e1
    have hxi : i < xs.length := by omega
    rw [List.getElem?_eq_getElem hxi] at e1
    obtain ⟨v, e2, e3, e4⟩ := DataW.trod_int he e1
    refine ⟨v, ?_, by rw [List.getElem?_eq_getElem hxi, e3], e4⟩
    have hci : i < cs.length := by omega
    have e5 : (cs.drop i).take 1 = [cs[i]] := by rw [List.drop_eq_getElem_cons hci, List.take_succ_cons, List.take_zero]
    rw [e5] at e2
    rw [List.getElem?_eq_getElem hci]
    simpa using e2
  refine ⟨fun i => intAt cs[i]?, fun i hi => ?_, ?_, ?_⟩
  · obtain ⟨v, e1, _, e3⟩ := hcell i hi
    dsimp only
    rw [e1]; exact e3
  · refine List.ext_getElem? fun i => ?_
    by_cases hi : i < n
    · obtain ⟨v, e1, _, _⟩ := hcell i hi
      rw [row_get k n _ i hi, e1]; rfl
    · rw [List.getElem?_eq_none (by omega), List.getElem?_eq_none (by rw [row_length]; omega)]
  · rw [hx]
    congr 1
    · unfold litR
      congr 1
      refine List.ext_getElem? fun i => ?_
      by_cases hi : i < n
      · obtain ⟨v, e1, e2, _⟩ := hcell i hi
        rw [List.getElem?_map, e2, List.getElem?_map, List.getElem?_range hi]
        simp only [Option.map_some]
        rw [e1]
        rfl
      · rw [List.getElem?_eq_none (by simp [hn]; omega), List.getElem?_eq_none (by simp; omega)]
    · refine List.flatMap_eq_nil_iff.2 fun y hy => ?_
      obtain ⟨i, hi⟩ := List.mem_iff_getElem?.1 hy
      have hin : i < n := by have := (List.getElem?_eq_some_iff.1 hi).1; omega
      obtain ⟨v, _, e2, _⟩ := hcell i hin
      rw [e2] at hi
      rw [← Option.some.inj hi]
theorem shut_row {t e : TypeId} {n : Nat} {k : IntKind} (hu : P.underlying t = some (.array n e)) (he : P.underlying e = some (.int k)) (hct : P.cellsOf t = n) (hce : P.cellsOf e = 1) (f : Nat → Int) (hf : ∀ j, j < n → (Lit.int k (f j)).wf = true) :
    DataW.trod enc P w base sp held 2 t (row k n f) = some (litR k n f, []) := by
  show DataW.trod enc P w base sp held (1 + 1) t (row k n f) = _
  unfold DataW.trod
  rw [hu]
  simp only [row_length, hct, if_true, hce, Nat.mul_one]
  rw [mapM_every _ (fun i => ((.lit (.int k (f i)) : DataW H), ([] : List MemPlace))) (List.range n) (fun i hi => ?_)]
  · simp only [Option.map_some, List.map_map, litR]
    congr 2
    exact List.flatMap_eq_nil_iff.2 fun y hy => by
      obtain ⟨i, _, rfl⟩ := List.mem_map.1 hy
      rfl
  · have hi' := List.mem_range.1 hi
    have e1 : ((row k n f).drop i).take 1 = [.int k (f i)] := by
      have hl : i < (row k n f).length := by rw [row_length]; exact hi'
      rw [List.drop_eq_getElem_cons hl]
      have := row_get k n f i hi'
      rw [List.getElem?_eq_getElem hl] at this
      simp [Option.some.inj this]
    rw [e1]
    simp [DataW.trod, he, hf i hi']
theorem open_array {t e : TypeId} {n : Nat} {k : IntKind} (hu : P.underlying t = some (.array n e)) (he : P.underlying e = some (.int k)) (hct : P.cellsOf t = n) (hce : P.cellsOf e = 1) {r : Reach} {b0 : Nat} {v : Value} {d : DataW H} {p : List MemPlace}
    (hv : Value.okWide P w r b0 t v) (h : DataW.Trod enc P w base sp held t v d p) : ∃ f : Nat → Int, (∀ j, j < n → (Lit.int k (f j)).wf = true) ∧ v = .agg (row k n f).toArray ∧ d = litR k n f ∧ p = [] := by
  simp only [Value.okWide, hu] at hv
  obtain ⟨cs, rfl, _, _⟩ := hv
  obtain ⟨fuel, hf⟩ := h
  obtain ⟨f, h1, h2, h3⟩ := open_row hu he hct hce hf
  simp only [Prod.mk.injEq] at h3
  refine ⟨f, h1, ?_, h3.1, h3.2⟩
  congr 1
  exact Array.toList_inj.1 h2
theorem shut_array {t e : TypeId} {n : Nat} {k : IntKind} (hu : P.underlying t = some (.array n e)) (he : P.underlying e = some (.int k)) (hct : P.cellsOf t = n) (hce : P.cellsOf e = 1) (f : Nat → Int) (hf : ∀ j, j < n → (Lit.int k (f j)).wf = true) :
    DataW.Trod enc P w base sp held t (.agg (row k n f).toArray) (litR k n f) [] := ⟨2, shut_row hu he hct hce f hf⟩
end
theorem wf_u8 {n : Int} : (Lit.int .u8 n).wf = true ↔ 0 ≤ n ∧ n < 256 := by
  simp [Lit.wf, IntKind.min, IntKind.max, IntKind.signed, IntKind.bits]
  omega
theorem wf_i64 {n : Int} : (Lit.int .i64 n).wf = true ↔ -9223372036854775808 ≤ n ∧ n ≤ 9223372036854775807 := by
  simp [Lit.wf, IntKind.min, IntKind.max, IntKind.signed, IntKind.bits]
theorem litR_inj {H : Type} {k : IntKind} {n : Nat} {f g : Nat → Int} (h : (litR k n f : DataW H) = litR k n g) (j : Nat) (hj : j < n) : f j = g j := by
  unfold litR at h
  injection h with h
  have e := congrArg (fun l => l[j]?) h
  simp only [List.getElem?_map, List.getElem?_range hj, Option.map_some, Option.some.injEq] at e
  injection e with e
  injection e
end
section
open Go.ChangeShapes Go.WideShapes Go.ChangeAt Go.WideMaps Go.WideElems Go.RowKit
theorem own : ownKnob Tryd.prog.godebug = none := by kernel_rfl
theorem cellsByte : Tryd.prog.cellsOf 5 = 1 := by kernel_rfl
theorem cellsKey : Tryd.prog.cellsOf 23 = 32 := by kernel_rfl
def keyNought : Value := .agg zu8_32
theorem i64_of {n : Int} (h : (Lit.int .i64 n).wf = true) : i64 n := by have := wf_i64.1 h; unfold i64; omega
section
variable {H : Type} {enc : TypeId × Value → H} {W : World} {Q : TypeId → DataW H → Prop} {m : Nat}
end
end
section
open Go.ChangeShapes Go.WideShapes Go.ChangeAt Go.WideMaps Go.WideElems Go.RowKit
theorem open_table {H : Type} {enc : TypeId × Value → H} {P : Program} {w : World} {base : Nat} {sp : Nat → Bool} {held : Bool} {fuel : Nat} {cs : List Value} {q : List MemPlace} {d : DataW H} {t r e : TypeId} {k : IntKind} {n m : Nat} (hu : P.underlying t = some (.array n r)) (hr : P.underlying r = some (.array m e)) (he : P.underlying e = some (.int k)) (cr : P.cellsOf r = m) (ce : P.cellsOf e = 1) (hm : 0 < m)
    (g : Nat → Int) (hd : d = .agg ((List.range n).map fun i => litR k m (fun j => g (m * i + j)))) (h : DataW.trod enc P w base sp held fuel t cs = some (d, q)) : ∀ j, j < n * m → cs[j]? = some (.int k (g j)) := by
  obtain ⟨xs, _, _, hx, _, hn, hel⟩ := DataW.trod_array hu h
  intro j hj
  have hi : j / m < n := (Nat.div_lt_iff_lt_mul hm).2 hj
  have hjm : j % m < m := Nat.mod_lt _ hm
  have hdm : j / m * m + j % m = j := Nat.div_add_mod' j m
  have e1 := hel (j / m) hi
  rw [cr] at e1
  have hxi : j / m < xs.length := by rw [hn]; exact hi
  rw [List.getElem?_eq_getElem hxi] at e1
  obtain ⟨f, _, e2, e3⟩ := open_row hr he cr ce e1
  simp only [Prod.mk.injEq] at hx
  rw [hd] at hx
  have hx1 : ((List.range n).map fun i => (litR k m (fun j => g (m * i + j)) : DataW H)) = xs.map (·.1) := by
    have := hx.1
    injection this
  have e6 : (xs.map (·.1))[j / m]? = some (litR k m f) := by rw [List.getElem?_map, List.getElem?_eq_getElem hxi, e3]; rfl
  rw [← hx1, List.getElem?_map, List.getElem?_range hi] at e6
  simp only [Option.map_some, Option.some.injEq] at e6
  have e7 := litR_inj e6 (j % m) hjm
  have e8 : ((cs.drop (j / m * m)).take m)[j % m]? = some (.int k (f (j % m))) := by rw [e2]; exact row_get _ _ _ _ hjm
  rw [List.getElem?_take, if_pos hjm, List.getElem?_drop, hdm] at e8
  rw [e8, ← e7, Nat.mul_comm m, hdm]
end
section
open Go.ChangeShapes Go.WideShapes Go.ChangeAt Go.WideMaps Go.WideElems Go.RowKit
theorem cDK0 : Tryd.prog.cellsOf 61 = 8 := by kernel_rfl
theorem cDK1 : Tryd.prog.cellsOf 60 = 1 := by kernel_rfl
theorem cDK3 : Tryd.prog.cellsOf 5 = 1 := by kernel_rfl
theorem cDK4 : Tryd.prog.cellsOf 78 = 16 := by kernel_rfl
theorem cDK6 : Tryd.prog.cellsOf 80 = 4 := by kernel_rfl
theorem gDK0 : Tryd.prog.globalNamed "sheave/blake.iv" = some 0 := by kernel_rfl
theorem tDK0 : (Tryd.prog.globals[0]?).map (·.type) = some 61 := by kernel_rfl
theorem gDK1 : Tryd.prog.globalNamed "sheave/blake.rows" = some 2 := by kernel_rfl
theorem tDK1 : (Tryd.prog.globals[2]?).map (·.type) = some 79 := by kernel_rfl
theorem gDK2 : Tryd.prog.globalNamed "sheave/blake.places" = some 1 := by kernel_rfl
theorem tDK2 : (Tryd.prog.globals[1]?).map (·.type) = some 81 := by kernel_rfl
def laidK {H : Type} : List (String × DataW H) := [("sheave/blake.iv", Rows.laid_sheave_blake_iv), ("sheave/blake.rows", Rows.laid_sheave_blake_rows), ("sheave/blake.places", Rows.laid_sheave_blake_places)]
theorem glob_of_laidK {W : World} (h : laidMetH Tryd.prog laidK W) : BGlob W := by
  rw [MakeChecks.laidMetH_plain _ _ _ (by kernel_rfl)] at h
  obtain ⟨ps, ⟨g0, t0, cs0, f0, p0, q0, hg0, ht0, hv0, hd0, ⟨g1, t1, cs1, f1, p1, q1, hg1, ht1, hv1, hd1, ⟨g2, t2, cs2, f2, p2, q2, hg2, ht2, hv2, hd2, _, _⟩, _⟩, _⟩, _, _⟩ := h
  obtain rfl := Option.some.inj (gDK0.symm.trans hg0)
  obtain rfl := Option.some.inj (tDK0.symm.trans ht0)
  obtain rfl := Option.some.inj (gDK1.symm.trans hg1)
  obtain rfl := Option.some.inj (tDK1.symm.trans ht1)
  obtain rfl := Option.some.inj (gDK2.symm.trans hg2)
  obtain rfl := Option.some.inj (tDK2.symm.trans ht2)
  obtain ⟨F0, _, eA0, eB0⟩ := open_row Tryd.underlying61 Tryd.underlying60 cDK0 cDK1 hd0
  simp only [Prod.mk.injEq] at eB0
  have eF0 := litR_inj (show (litR .u32 8 iv : DataW _) = litR .u32 8 F0 from eB0.1)
  have c_blake_iv : ∀ j, j < 8 → W.cell? ⟨0, j, none⟩ = some (.int .u32 (iv j)) := fun j hj => by
    rw [World.var?_cell hg0 hv0 j, eF0 j hj]
    have := row_get .u32 8 F0 j hj
    rw [← eA0] at this
    simpa using this
  have s0 := World.block_lt_of_cell? W _ (c_blake_iv 0 (by decide))
  have b1 := open_table (n := 10) (m := 16) Tryd.underlying79 Tryd.underlying78 Tryd.underlying5 cDK4 cDK3 (by decide) (fun j => ((sgL.getD j 0 : Nat) : Int)) (by rfl) hd1
  have c_blake_rows : ∀ j, j < 160 → W.cell? ⟨2, j, none⟩ = some (.int .u8 ((fun j => ((sgL.getD j 0 : Nat) : Int)) j)) := fun j hj => by
    rw [World.var?_cell hg1 hv1 j]; simpa using b1 j hj
  have s1 := World.block_lt_of_cell? W _ (c_blake_rows 0 (by decide))
  have b2 := open_table (n := 8) (m := 4) Tryd.underlying81 Tryd.underlying80 Tryd.underlying5 cDK6 cDK3 (by decide) bplc (by rfl) hd2
  have c_blake_places : ∀ j, j < 32 → W.cell? ⟨1, j, none⟩ = some (.int .u8 (bplc j)) := fun j hj => by
    rw [World.var?_cell hg2 hv2 j]; simpa using b2 j hj
  have s2 := World.block_lt_of_cell? W _ (c_blake_places 0 (by decide))
  have hsz : 3 ≤ W.heap.size := by dsimp only at s0 s1 s2; omega
  exact ⟨c_blake_iv, c_blake_rows, c_blake_places, hsz⟩
theorem door_metK0 (os : Os) (args : Array Value) : laidMet Tryd.prog laidK ((World.doorLaid Tryd.prog 37 os).forCall (fun _ _ => 0) ⟨#[], args, []⟩).memory := laidMet_of_run' 8 (by kernel_rfl) (by kernel_rfl)
theorem door_metK (os : Os) (args : Array Value) : laidMetH Tryd.prog laidK ((World.doorLaid Tryd.prog 37 os).forCall (fun _ _ => 0) ⟨#[], args, []⟩).memory :=
  laidMetH_of_parts3 (fuel := 8) (door_metK0 os args) (by kernel_rfl) (by kernel_rfl)
end
end Go.Proofs.YtckohmdmjhaknaaDoor
