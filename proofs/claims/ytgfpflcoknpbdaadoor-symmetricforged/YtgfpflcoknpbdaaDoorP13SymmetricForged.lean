/- Texts of Bz Jp Yp, joined. -/
import Derived.Test.YtgfpflcoknpbdaaDoorP1SymmetricForged
import Derived.Test.YtgfpflcoknpbdaaDoorP12SymmetricForged
import Derived.Test.YtgfpflcoknpbdaaDoorP5SymmetricForged
import Derived.Test.YtgfpflcoknpbdaaDoorP6SymmetricForged
import Derived.Test.YtgfpflcoknpbdaaDoorP7SymmetricForged
import Derived.Test.YtgfpflcoknpbdaaDoorP8SymmetricForged
import Derived.Test.YtgfpflcoknpbdaaDoorP10SymmetricForged
set_option maxRecDepth 20000
set_option maxHeartbeats 64000000
namespace Go.Proofs.YtgfpflcoknpbdaaDoor
open Go.RowKit
theorem bcutAll_key (b : Nat) (w : World) : (Instr.sliceAt 36 (.pointer (some ⟨b, 0, none⟩)) none none none).run Tryd.prog w = .ok (.slice (some ⟨b, 0, none⟩) 32 32) w := by kernel_rfl
theorem app_none (y z : Nat → Int) : app y 0 z = z := by
  funext j
  unfold app
  rw [if_neg (Nat.not_lt_zero j), Nat.sub_zero]
theorem bhash_any : BHashOK := by
  intro sp len cap hlen hcap _ z hz w hg hs
  have K := Kr.init w
  replace K := K.make 32 zu8_32 36 (w.heap.size) rfl (key_zero _ _ _ rfl).there
  go_enter Tryd.func14, Tryd.ntmps14
  go_upto_region 1 with fail
  generalize (w.alloc (.cells zu8_32 36)) = w0 at K ⊢
  refine wp_region_list ?_
  refine pureL (.slice sp len cap) rfl (fun _ => by kernel_rfl) ?_
  simp only [aP, lI, l0, lS]
  refine callL rfl (fun _ => by kernel_rfl) (bbehind_any none 0 0 (.inl rfl) (Nat.le_refl _) (fun _ => 0) (fun j hj => absurd hj (Nat.not_lt_zero j)) sp len cap hlen hcap z hz _ (hg.below K.below hg.size) (fun j hj => absurd hj (Nat.not_lt_zero j)) (hs.below K.below (Nat.le_refl _))) ?_
  rintro e w1 ⟨rfl, l⟩
  replace K := K.call l
  clear l
  refine ⟨_, rfl, ?_⟩
  simp only [aP, lI, l0, lS]
  rw [app_none, Nat.zero_add]
  have hz' := (K.room _ mS).1
  refine storesL .u8 32 (bhash len z) (w.heap.size) 36 _ _ rfl rfl rfl rfl (room_of hz') (key_info' _) ?_
  simp only [Act.put]
  have hB := (K.fill _ _ mS (row .u8 32 (bhash len z))).below
  clear K
  generalize hGe : bhash len z = G at *
  show Exit.then _ _ _ _ _
  go_wp2
  exact bodyPost_ret (v := (.agg (row .u8 32 (G)).toArray)) (results_row Tryd.results14 rfl (Has.all hz' .u8 G).range Tryd.underlying36 rfl (key_info G)) rfl ⟨by first | rfl | rw [hGe] | (rw [← hGe]; done), hB⟩
theorem bkk_short (kl : Nat) (key : Nat → Int) (h : kl ≤ 64) : bkk kl key = padz kl key := by
  funext j
  unfold bkk padz
  rw [if_pos h]
theorem bkk_long (kl : Nat) (key : Nat → Int) (h : ¬ kl ≤ 64) : bkk kl key = padz 32 (bhash kl key) := by
  funext j
  unfold bkk padz
  rw [if_neg h]
theorem bmac_any : BMacOK := by
  intro kp kl kc hkl hkc _ key hkk sp len cap hlen hcap _ z hz w hg hk hs
  have K := Kr.init w
  replace K := K.make 32 zu8_32 36 (w.heap.size) rfl (key_zero _ _ _ rfl).there
  go_enter Tryd.func31, Tryd.ntmps31
  go_upto_region 1 with fail
  generalize (w.alloc (.cells zu8_32 36)) = w0 at K ⊢
  by_cases hl : kl ≤ 64
  · have g1 : (kl : Int) ≤ 64 := by omega
    have HE := show Hid _ from (show (bhash (64 + 32) (app (bxx 92 (padz (kl) key)) 64 (bhash (64 + len) (app (bxx 54 (padz (kl) key)) 64 z)))) = bmac kl key len z from by unfold bmac; rw [bkk_short kl key hl])
    have hp54 := bxx_in 54 (by decide) (padz (kl) key) 64 (padz_in (kl) key hkk 64)
    have hp92 := bxx_in 92 (by decide) (padz (kl) key) 64 (padz_in (kl) key hkk 64)
    go_upto_region 4 with fail
    refine wp_region_list ?_
    refine pureL (.slice kp kl kc) rfl (fun _ => by kernel_rfl) ?_
    simp only [aP, lI, l0, lS]
    refine callL rfl (fun _ => by kernel_rfl) (bpad_any kp (kl) kc hl key 54 _ (hk.below K.below (Nat.le_refl _))) ?_
    rintro e wa ⟨g, rfl, hG, ⟨_, hgl⟩, l⟩
    replace K := K.call l
    clear l
    refine ⟨_, rfl, ?_⟩
    simp only [aP, lI, l0, lS]
    refine pureL (.slice sp len cap) rfl (fun _ => by kernel_rfl) ?_
    simp only [aP, lI, l0, lS]
    refine callL rfl (fun _ => by kernel_rfl) (bbehind_any (some ⟨g, 0, none⟩) 64 64 (.inr rfl) (Nat.le_refl _) (bxx 54 (padz (kl) key)) hp54 sp len cap (by omega) hcap z hz _ (hg.below K.below hg.size) hG.src0 (hs.below K.below (Nat.le_refl _))) ?_
    rintro e wb ⟨rfl, l⟩
    replace K := K.call l
    clear l
    refine ⟨_, rfl, ?_⟩
    simp only [aP, lI, l0, lS]
    clear hG hgl
    refine allocL zu8_32 36 rfl (fun _ => by kernel_rfl) ?_
    simp only [aP, lI, l0, lS]
    refine storesL .u8 32 ((bhash (64 + len) (app (bxx 54 (padz (kl) key)) 64 z))) wb.heap.size 36 _ _ rfl rfl rfl rfl (room_of (key_zero _ _ _ rfl).there) (key_info' _) ?_
    simp only [Act.put]
    have zJ := K.size
    replace K := K.fresh .u8 32 ((bhash (64 + len) (app (bxx 54 (padz (kl) key)) 64 z))) zu8_32 36 (key_zero _ _ _ rfl).there
    generalize ((wb.alloc (.cells zu8_32 36)).setCells wb.heap.size 0 (row .u8 32 ((bhash (64 + len) (app (bxx 54 (padz (kl) key)) 64 z))))) = wc at K ⊢
    generalize wb.heap.size = J at *
    show Exit.then _ _ _ _ _
    go_upto_region 5 with fail
    refine wp_region_C (S := fun w' => Kr w (J + 1) [(J, .u8, 32, (bhash (64 + len) (app (bxx 54 (padz (kl) key)) 64 z)))] [(w.heap.size, 32)] w') 4 (by kernel_rfl) K.drew ?_
    clear K
    intro K
    refine pureCg (i := 0) (some 17) rfl (.slice kp kl kc) rfl (by decide) rfl (fun _ => by kernel_rfl) K ?_
    simp only [aP, lI, l0, lS]
    refine pureCg (i := 2) (some 19) rfl (.slice (some ⟨J, 0, none⟩) 32 32) rfl (by decide) rfl (fun w' => cutAll _ _ _ _ rfl rfl (bcutAll_key J w')) K ?_
    simp only [aP, lI, l0, lS]
    refine callMC (i := 1) (some 18) rfl (by kernel_rfl) rfl rfl (fun _ => by kernel_rfl) (bpad_any kp (kl) kc hl key 92 _ (hk.below K.below (Nat.le_refl _))) ?_
    rintro e wd ⟨g2, rfl, hG, ⟨_, hgl⟩, l⟩
    replace K := K.call l
    clear l
    refine ⟨_, rfl, K, ?_⟩
    simp only [aP, lI, l0, lS]
    refine callMC (i := 3) (some 20) rfl (by kernel_rfl) rfl rfl (fun _ => by kernel_rfl) (bbehind_any (some ⟨g2, 0, none⟩) 64 64 (.inr rfl) (Nat.le_refl _) (bxx 92 (padz (kl) key)) hp92 (some ⟨J, 0, none⟩) 32 32 (by decide) (Nat.le_refl _) (bhash (64 + len) (app (bxx 54 (padz (kl) key)) 64 z)) (bhash_in _ _ 32) _ (hg.below K.below hg.size) hG.src0 (K.get _ _ _ _ mS).src0) ?_
    rintro e we ⟨rfl, l⟩
    replace K := K.call l
    clear l
    refine ⟨_, rfl, K, ?_⟩
    simp only [aP, lI, l0, lS]
    rw [HE.out]
    have hz' := (K.room _ mS).1
    refine storesC (S2 := fun _ => True) none rfl .u8 32 (bmac kl key len z) (w.heap.size) 36 _ _ (by kernel_rfl) rfl rfl rfl rfl rfl (room_of hz') (key_info' _) (by kernel_rfl) ?_
    simp only [Act.put]
    refine wpAnyH_done (by kernel_rfl) ?_ _
    have hB := (K.fill _ _ mS (row .u8 32 (bmac kl key len z))).below
    clear K HE hG hgl
    generalize hGe : bmac kl key len z = G at *
    go_wp2
    exact bodyPost_ret (v := (.agg (row .u8 32 (G)).toArray)) (results_row Tryd.results31 rfl (Has.all hz' .u8 G).range Tryd.underlying36 rfl (key_info G)) rfl ⟨by first | rfl | rw [hGe] | (rw [← hGe]; done), hB⟩
  · have g1 : (64 : Int) < (kl : Int) := by omega
    go_upto_region 2 with fail
    refine wp_region_list ?_
    refine pureL (.slice kp kl kc) rfl (fun _ => by kernel_rfl) ?_
    simp only [aP, lI, l0, lS]
    refine callL rfl (fun _ => by kernel_rfl) (bhash_any kp kl kc hkl hkc (fun e => by have h0 := hk.none e; omega) key hkk _ (hg.below K.below hg.size) (hk.below K.below (Nat.le_refl _))) ?_
    rintro e w1 ⟨rfl, l⟩
    replace K := K.call l
    clear l
    refine ⟨_, rfl, ?_⟩
    simp only [aP, lI, l0, lS]
    refine allocL zu8_32 36 rfl (fun _ => by kernel_rfl) ?_
    simp only [aP, lI, l0, lS]
    refine storesL .u8 32 (bhash kl key) w1.heap.size 36 _ _ rfl rfl rfl rfl (room_of (key_zero _ _ _ rfl).there) (key_info' _) ?_
    simp only [Act.put]
    have zX := K.size
    replace K := K.fresh .u8 32 (bhash kl key) zu8_32 36 (key_zero _ _ _ rfl).there
    generalize ((w1.alloc (.cells zu8_32 36)).setCells w1.heap.size 0 (row .u8 32 (bhash kl key))) = w2 at K ⊢
    generalize w1.heap.size = X at *
    show Exit.then _ _ _ _ _
    go_upto_region 3 with fail
    refine wp_region_list ?_
    refine pureL (.slice (some ⟨X, 0, none⟩) 32 32) rfl (fun w' => cutAll _ _ _ _ rfl rfl (bcutAll_key X w')) ?_
    simp only [aP, lI, l0, lS]
    refine pureL (.slice (some ⟨X, 0, none⟩) 32 32) rfl (fun _ => by kernel_rfl) ?_
    simp only [aP, lI, l0]
    show Exit.then _ _ _ _ _
    have HE := show Hid _ from (show (bhash (64 + 32) (app (bxx 92 (padz (32) (bhash kl key))) 64 (bhash (64 + len) (app (bxx 54 (padz (32) (bhash kl key))) 64 z)))) = bmac kl key len z from by unfold bmac; rw [bkk_long kl key hl])
    have hp54 := bxx_in 54 (by decide) (padz (32) (bhash kl key)) 64 (padz_in (32) (bhash kl key) (bhash_in kl key 32) 64)
    have hp92 := bxx_in 92 (by decide) (padz (32) (bhash kl key)) 64 (padz_in (32) (bhash kl key) (bhash_in kl key 32) 64)
    go_upto_region 4 with fail
    refine wp_region_list ?_
    refine pureL (.slice (some ⟨X, 0, none⟩) 32 32) rfl (fun _ => by kernel_rfl) ?_
    simp only [aP, lI, l0, lS]
    refine callL rfl (fun _ => by kernel_rfl) (bpad_any (some ⟨X, 0, none⟩) (32) 32 (by decide) (bhash kl key) 54 _ (K.get _ _ _ _ mS).src0) ?_
    rintro e wa ⟨g, rfl, hG, ⟨_, hgl⟩, l⟩
    replace K := K.call l
    clear l
    refine ⟨_, rfl, ?_⟩
    simp only [aP, lI, l0, lS]
    refine pureL (.slice sp len cap) rfl (fun _ => by kernel_rfl) ?_
    simp only [aP, lI, l0, lS]
    refine callL rfl (fun _ => by kernel_rfl) (bbehind_any (some ⟨g, 0, none⟩) 64 64 (.inr rfl) (Nat.le_refl _) (bxx 54 (padz (32) (bhash kl key))) hp54 sp len cap (by omega) hcap z hz _ (hg.below K.below hg.size) hG.src0 (hs.below K.below (Nat.le_refl _))) ?_
    rintro e wb ⟨rfl, l⟩
    replace K := K.call l
    clear l
    refine ⟨_, rfl, ?_⟩
    simp only [aP, lI, l0, lS]
    clear hG hgl
    refine allocL zu8_32 36 rfl (fun _ => by kernel_rfl) ?_
    simp only [aP, lI, l0, lS]
    refine storesL .u8 32 ((bhash (64 + len) (app (bxx 54 (padz (32) (bhash kl key))) 64 z))) wb.heap.size 36 _ _ rfl rfl rfl rfl (room_of (key_zero _ _ _ rfl).there) (key_info' _) ?_
    simp only [Act.put]
    have zJ := K.size
    replace K := K.fresh .u8 32 ((bhash (64 + len) (app (bxx 54 (padz (32) (bhash kl key))) 64 z))) zu8_32 36 (key_zero _ _ _ rfl).there
    generalize ((wb.alloc (.cells zu8_32 36)).setCells wb.heap.size 0 (row .u8 32 ((bhash (64 + len) (app (bxx 54 (padz (32) (bhash kl key))) 64 z))))) = wc at K ⊢
    generalize wb.heap.size = J at *
    show Exit.then _ _ _ _ _
    go_upto_region 5 with fail
    refine wp_region_C (S := fun w' => Kr w (J + 1) [(J, .u8, 32, (bhash (64 + len) (app (bxx 54 (padz (32) (bhash kl key))) 64 z))), (X, .u8, 32, bhash kl key)] [(w.heap.size, 32)] w') 4 (by kernel_rfl) K.drew ?_
    clear K
    intro K
    refine pureCg (i := 0) (some 17) rfl (.slice (some ⟨X, 0, none⟩) 32 32) rfl (by decide) rfl (fun _ => by kernel_rfl) K ?_
    simp only [aP, lI, l0, lS]
    refine pureCg (i := 2) (some 19) rfl (.slice (some ⟨J, 0, none⟩) 32 32) rfl (by decide) rfl (fun w' => cutAll _ _ _ _ rfl rfl (bcutAll_key J w')) K ?_
    simp only [aP, lI, l0, lS]
    refine callMC (i := 1) (some 18) rfl (by kernel_rfl) rfl rfl (fun _ => by kernel_rfl) (bpad_any (some ⟨X, 0, none⟩) (32) 32 (by decide) (bhash kl key) 92 _ (K.get _ _ _ _ (mT _ mS)).src0) ?_
    rintro e wd ⟨g2, rfl, hG, ⟨_, hgl⟩, l⟩
    replace K := K.call l
    clear l
    refine ⟨_, rfl, K, ?_⟩
    simp only [aP, lI, l0, lS]
    refine callMC (i := 3) (some 20) rfl (by kernel_rfl) rfl rfl (fun _ => by kernel_rfl) (bbehind_any (some ⟨g2, 0, none⟩) 64 64 (.inr rfl) (Nat.le_refl _) (bxx 92 (padz (32) (bhash kl key))) hp92 (some ⟨J, 0, none⟩) 32 32 (by decide) (Nat.le_refl _) (bhash (64 + len) (app (bxx 54 (padz (32) (bhash kl key))) 64 z)) (bhash_in _ _ 32) _ (hg.below K.below hg.size) hG.src0 (K.get _ _ _ _ mS).src0) ?_
    rintro e we ⟨rfl, l⟩
    replace K := K.call l
    clear l
    refine ⟨_, rfl, K, ?_⟩
    simp only [aP, lI, l0, lS]
    rw [HE.out]
    have hz' := (K.room _ mS).1
    refine storesC (S2 := fun _ => True) none rfl .u8 32 (bmac kl key len z) (w.heap.size) 36 _ _ (by kernel_rfl) rfl rfl rfl rfl rfl (room_of hz') (key_info' _) (by kernel_rfl) ?_
    simp only [Act.put]
    refine wpAnyH_done (by kernel_rfl) ?_ _
    have hB := (K.fill _ _ mS (row .u8 32 (bmac kl key len z))).below
    clear K HE hG hgl
    generalize hGe : bmac kl key len z = G at *
    go_wp2
    exact bodyPost_ret (v := (.agg (row .u8 32 (G)).toArray)) (results_row Tryd.results31 rfl (Has.all hz' .u8 G).range Tryd.underlying36 rfl (key_info G)) rfl ⟨by first | rfl | rw [hGe] | (rw [← hGe]; done), hB⟩
def knx (ll : Nat) (last : Nat → Int) (il : Nat) (inf : Nat → Int) (c : Int) : Nat → Int := app (app last ll inf) (ll + il) (fun _ => c)
theorem knx_in (ll : Nat) (last : Nat → Int) (il : Nat) (inf : Nat → Int) (c : Int) (hl : In 256 ll last) (hi : In 256 il inf) (hc : 0 ≤ c ∧ c < 256) : In 256 (ll + il + 1) (knx ll last il inf c) := app_in _ _ _ _ (app_in _ _ _ _ hl hi) (fun _ _ => hc)
theorem cat3k (ll : Nat) (last : Nat → Int) (il : Nat) (inf : Nat → Int) (c : Int) (j : Nat) : catz (pk3 ll il 1) (pk3 last inf (fun _ => c)) 3 j = knx ll last il inf c j := by
  show app (app (app (fun _ => 0) 0 last) (0 + ll) inf) (0 + ll + il) (fun _ => c) j = _
  unfold knx
  rw [Nat.zero_add]
  have e : app (fun _ => (0 : Int)) 0 last = last := by
    funext q
    unfold app
    rw [if_neg (Nat.not_lt_zero q), Nat.sub_zero]
  rw [e]
theorem knext_any (k : Nat → Int) (hk : In 256 32 k) (lp : Option Addr) (ll lc : Nat) (hll : ll ≤ 32) (hln : lp = none → lc = 0) (last : Nat → Int) (hla : In 256 ll last) (ip : Option Addr) (il ic : Nat) (hil : il ≤ 140737488351232) (hin : ip = none → ic = 0) (inf : Nat → Int) (hif : In 256 il inf) (c : Int) (hc : 0 ≤ c ∧ c < 256) (w : World) (hg : BGlob w) (hsl : Src w lp ll last) (hsi : Src w ip il inf) :
    Calls Tryd.prog 24 #[(.agg (row .u8 32 (k)).toArray), .slice lp ll lc, .slice ip il ic, .int .u8 c] w fun e w' => e = .returned (.agg (row .u8 32 (bmac 32 k (ll + il + 1) (knx ll last il inf c))).toArray) ∧ Below w.heap.size w w' := by
  have K := Kr.init w
  replace K := K.box .u8 32 k 36 (w.heap.size) rfl
  replace K := K.make 32 zu8_32 36 (w.heap.size + 1) (by simp) (key_zero _ _ _ (by simp)).there
  go_enter Tryd.func24, Tryd.ntmps24
  go_upto_region 1 with fail
  generalize ((w.alloc (.cells (row .u8 32 k).toArray 36)).alloc (.cells zu8_32 36)) = w0 at K ⊢
  refine wp_region_held_drew (S := fun w' => Kr w (w.heap.size + 1 + 1) [(w.heap.size, .u8, 32, k)] [(w.heap.size + 1, 32)] w') (by kernel_rfl) K.drew ?_
  clear K
  intro K
  generalize w0.drew = w1 at K ⊢
  refine pureHg (i := 0) (some 9) rfl (.slice (some ⟨w.heap.size, 0, none⟩) 32 32) rfl rfl (fun w' => cutAll _ _ _ _ rfl rfl (kcutAll w.heap.size w')) K ?_
  simp only [aP, lI, l0, lS]
  refine pureHg (i := 1) (some 10) rfl (.slice lp ll lc) rfl rfl (fun _ => by kernel_rfl) K ?_
  simp only [aP, lI, l0, lS]
  refine pureHg (i := 2) (some 11) rfl (.slice ip il ic) rfl rfl (fun _ => by kernel_rfl) K ?_
  simp only [aP, lI, l0, lS]
  refine pureHg (i := 3) (some 12) rfl (.int .u8 c) rfl rfl (fun _ => by kernel_rfl) K ?_
  simp only [aP, lI, l0, lS]
  have H1 := (Has.new w1 .u8 1 (fun _ => c) 5 w1.heap.size rfl).src0
  replace K := K.call ((Below.refl w1.heap.size w1).alloc (Nat.le_refl _) (.cells #[.int .u8 c] 5))
  refine actH (i := 4) (w' := w1.alloc (.cells #[.int .u8 c] 5)) (some 13) rfl (.slice (some ⟨w1.heap.size, 0, none⟩) 1 1) (by kernel_rfl) rfl rfl (by kernel_rfl) K ?_
  simp only [aP, lI, l0, lS]
  have HC := catIn3 (w1.alloc (.cells #[.int .u8 c] 5)).heap.size lp ip (some ⟨w1.heap.size, 0, none⟩) ll il 1 lc ic 1 last inf (fun _ => c) 27 rfl (hsl.below K.below (Nat.le_refl _)) (hsi.below K.below (Nat.le_refl _)) H1 hln hin (fun e => by cases e)
  generalize w1.alloc (.cells #[.int .u8 c] 5) = w2 at K HC ⊢
  clear H1
  replace K := K.call ((Below.refl w2.heap.size w2).alloc (Nat.le_refl _) (.cells #[.slice lp ll lc, .slice ip il ic, .slice (some ⟨w1.heap.size, 0, none⟩) 1 1] 27))
  refine actH (i := 5) (w' := w2.alloc (.cells #[.slice lp ll lc, .slice ip il ic, .slice (some ⟨w1.heap.size, 0, none⟩) 1 1] 27)) (some 14) rfl (.slice (some ⟨w2.heap.size, 0, none⟩) 3 3) (by kernel_rfl) rfl rfl (by kernel_rfl) K ?_
  simp only [aP, lI, l0, lS]
  generalize (w2.alloc (.cells #[.slice lp ll lc, .slice ip il ic, .slice (some ⟨w1.heap.size, 0, none⟩) 1 1] 27)) = w3 at K HC ⊢
  refine callH (i := 6) (some 15) rfl (by kernel_rfl) rfl rfl (fun _ => by kernel_rfl) (concat_any ⟨w2.heap.size, 0, none⟩ 3 3 _ _ _ _ (by decide) (by rw [tot3]; omega) _ HC) ?_
  rintro e w4 ⟨v, rfl, O, l⟩
  replace K := K.call l
  clear l HC
  rw [tot3] at O
  replace O := O.congr (fun j _ => cat3k ll last il inf c j)
  obtain ⟨p3, c3, rfl, hc3, S3⟩ := O.bytes
  have hn3 := O.nilCap
  clear O
  refine ⟨_, rfl, K, ?_⟩
  simp only [aP, lI, l0, lS]
  refine callH (i := 7) (some 16) rfl (by kernel_rfl) rfl rfl (fun _ => by kernel_rfl) (bmac_any (some ⟨w.heap.size, 0, none⟩) 32 32 (by decide) (by decide) (fun e => by cases e) k hk p3 (ll + il + 1) c3 (by omega) hc3 hn3 _ (knx_in ll last il inf c hla hif hc) _ (hg.below K.below hg.size) (K.get _ _ _ _ mS).src0 S3) ?_
  rintro e w5 ⟨rfl, l⟩
  replace K := K.call l
  clear l S3
  refine ⟨_, rfl, K, ?_⟩
  simp only [aP, lI, l0, lS]
  have hz' := (K.room _ mS).1
  refine storesH (i := 8) none rfl .u8 32 (bmac 32 k (ll + il + 1) (knx ll last il inf c)) (w.heap.size + 1) 36 _ _ (by kernel_rfl) rfl rfl rfl rfl rfl (room_of hz') (key_info' _) (K.fill _ _ mS _) ?_
  simp only [Act.put]
  refine wpAnyH_done (by kernel_rfl) ?_ _
  have hB := (K.fill _ _ mS (row .u8 32 (bmac 32 k (ll + il + 1) (knx ll last il inf c)))).below
  clear K
  generalize hGe : bmac 32 k (ll + il + 1) (knx ll last il inf c) = G at *
  go_wp2
  exact bodyPost_ret (v := (.agg (row .u8 32 (G)).toArray)) (results_row Tryd.results24 rfl (Has.all hz' .u8 G).range Tryd.underlying36 rfl (key_info G)) rfl ⟨by first | rfl | rw [hGe] | (rw [← hGe]; done), hB⟩
theorem kextract_any (kp : Option Addr) (kl kc : Nat) (hkl : kl ≤ 140737488355072) (hkc : kl ≤ kc) (hkn : kp = none → kc = 0) (key : Nat → Int) (hk : In 256 kl key) (sp : Option Addr) (len cap : Nat) (hlen : len ≤ 140737488354816) (hcap : len ≤ cap) (hn0 : sp = none → cap = 0) (z : Nat → Int) (hz : In 256 len z) (w : World) (hg : BGlob w) (hks : Src w kp kl key) (hs : Src w sp len z) :
    Calls Tryd.prog 23 #[.slice kp kl kc, .slice sp len cap] w fun e w' => e = .returned (.agg (row .u8 32 (bmac kl key len z)).toArray) ∧ Below w.heap.size w w' := by
  have K := Kr.init w
  replace K := K.make 32 zu8_32 36 (w.heap.size) rfl (key_zero _ _ _ rfl).there
  go_enter Tryd.func23, Tryd.ntmps23
  go_upto_region 1 with fail
  generalize (w.alloc (.cells zu8_32 36)) = w0 at K ⊢
  refine wp_region_list ?_
  refine pureL (.slice kp kl kc) rfl (fun _ => by kernel_rfl) ?_
  simp only [aP, lI, l0, lS]
  refine pureL (.slice sp len cap) rfl (fun _ => by kernel_rfl) ?_
  simp only [aP, lI, l0, lS]
  refine callL rfl (fun _ => by kernel_rfl) (bmac_any kp kl kc hkl hkc hkn key hk sp len cap hlen hcap hn0 z hz _ (hg.below K.below hg.size) (hks.below K.below (Nat.le_refl _)) (hs.below K.below (Nat.le_refl _))) ?_
  rintro e w1 ⟨rfl, l⟩
  replace K := K.call l
  clear l
  refine ⟨_, rfl, ?_⟩
  simp only [aP, lI, l0, lS]
  have hz' := (K.room _ mS).1
  refine storesL .u8 32 (bmac kl key len z) (w.heap.size) 36 _ _ rfl rfl rfl rfl (room_of hz') (key_info' _) ?_
  simp only [Act.put]
  have hB := (K.fill _ _ mS (row .u8 32 (bmac kl key len z))).below
  clear K
  generalize hGe : bmac kl key len z = G at *
  show Exit.then _ _ _ _ _
  go_wp2
  exact bodyPost_ret (v := (.agg (row .u8 32 (G)).toArray)) (results_row Tryd.results23 rfl (Has.all hz' .u8 G).range Tryd.underlying36 rfl (key_info G)) rfl ⟨by first | rfl | rw [hGe] | (rw [← hGe]; done), hB⟩
theorem kchain_any (k : Nat → Int) (hk : In 256 32 k) (sp : Option Addr) (len cap : Nat) (hlen : len ≤ 140737488351232) (hcap : len ≤ cap) (hn0 : sp = none → cap = 0) (z : Nat → Int) (hz : In 256 len z) (w : World) (hg : BGlob w) (hs : Src w sp len z) :
    Calls Tryd.prog 16 #[(.agg (row .u8 32 (k)).toArray), .slice sp len cap] w fun e w' => e = .returned (.tuple #[(.agg (row .u8 32 (kA k len z)).toArray), (.agg (row .u8 32 (kB k len z)).toArray)]) ∧ Below w.heap.size w w' := by
  have K := Kr.init w
  replace K := K.box .u8 32 k 36 (w.heap.size) rfl
  replace K := K.make 32 zu8_32 36 (w.heap.size + 1) (by simp) (key_zero _ _ _ (by simp)).there
  replace K := K.make 32 zu8_32 36 (w.heap.size + 1 + 1) (by simp) (key_zero _ _ _ (by simp)).there
  go_enter Tryd.func16, Tryd.ntmps16
  go_upto_region 1 with fail
  generalize (((w.alloc (.cells (row .u8 32 k).toArray 36)).alloc (.cells zu8_32 36)).alloc (.cells zu8_32 36)) = w0 at K ⊢
  refine wp_region_list ?_
  refine pureL (.slice (some ⟨w.heap.size, 0, none⟩) 32 32) rfl (fun w' => cutAll _ _ _ _ rfl rfl (kcutAll w.heap.size w')) ?_
  simp only [aP, lI, l0, lS]
  refine pureL (.slice sp len cap) rfl (fun _ => by kernel_rfl) ?_
  simp only [aP, lI, l0, lS]
  refine callL rfl (fun _ => by kernel_rfl) (kextract_any (some ⟨w.heap.size, 0, none⟩) 32 32 (by decide) (by decide) (fun e => by cases e) k hk sp len cap (by omega) hcap hn0 z hz _ (hg.below K.below hg.size) (K.get _ _ _ _ mS).src0 (hs.below K.below (Nat.le_refl _))) ?_
  rintro e w1 ⟨rfl, l⟩
  replace K := K.call l
  clear l
  refine ⟨_, rfl, ?_⟩
  simp only [aP, lI, l0, lS]
  refine allocL zu8_32 36 rfl (fun _ => by kernel_rfl) ?_
  simp only [aP, lI, l0, lS]
  refine storesL .u8 32 ((bmac 32 k len z)) w1.heap.size 36 _ _ rfl rfl rfl rfl (room_of (key_zero _ _ _ rfl).there) (key_info' _) ?_
  simp only [Act.put]
  have zT := K.size
  replace K := K.fresh .u8 32 ((bmac 32 k len z)) zu8_32 36 (key_zero _ _ _ rfl).there
  generalize ((w1.alloc (.cells zu8_32 36)).setCells w1.heap.size 0 (row .u8 32 ((bmac 32 k len z)))) = w2 at K ⊢
  generalize w1.heap.size = T at *
  show Exit.then _ _ _ _ _
  go_upto_region 2 with fail
  refine wp_region_list ?_
  refine rowKL .u8 32 ((bmac 32 k len z)) (T) 0 36 _ _ rfl rfl rfl Tryd.underlying36 rfl (key_info _) ((K.get _ _ _ _ mS).range) ?_
  simp only [aP, lI, l0, lS]
  refine callL rfl (fun _ => by kernel_rfl) (knext_any (bmac 32 k len z) (bmac_in _ _ _ _ _) none 0 0 (by decide) (fun _ => rfl) (fun _ => 0) (fun _ hj => absurd hj (Nat.not_lt_zero _)) none 0 0 (by decide) (fun _ => rfl) (fun _ => 0) (fun _ hj => absurd hj (Nat.not_lt_zero _)) 1 (by decide) _ (hg.below K.below hg.size) (fun j hj => absurd hj (Nat.not_lt_zero j)) (fun j hj => absurd hj (Nat.not_lt_zero j))) ?_
  rintro e w3 ⟨rfl, l⟩
  replace K := K.call l
  clear l
  rw [show bmac 32 (bmac 32 k len z) (0 + 0 + 1) (knx 0 (fun _ => 0) 0 (fun _ => 0) 1) = kA k len z from rfl]
  refine ⟨_, rfl, ?_⟩
  simp only [aP, lI, l0, lS]
  refine allocL zu8_32 36 rfl (fun _ => by kernel_rfl) ?_
  simp only [aP, lI, l0, lS]
  refine storesL .u8 32 (kA k len z) w3.heap.size 36 _ _ rfl rfl rfl rfl (room_of (key_zero _ _ _ rfl).there) (key_info' _) ?_
  simp only [Act.put]
  have zA := K.size
  replace K := K.fresh .u8 32 (kA k len z) zu8_32 36 (key_zero _ _ _ rfl).there
  generalize ((w3.alloc (.cells zu8_32 36)).setCells w3.heap.size 0 (row .u8 32 (kA k len z))) = w4 at K ⊢
  generalize w3.heap.size = A at *
  show Exit.then _ _ _ _ _
  go_upto_region 3 with fail
  refine wp_region_held_drew (S := fun w' => Kr w (A + 1) [(A, .u8, 32, kA k len z), (T, .u8, 32, (bmac 32 k len z)), (w.heap.size, .u8, 32, k)] [(w.heap.size + 1 + 1, 32), (w.heap.size + 1, 32)] w') (by kernel_rfl) K.drew ?_
  clear K
  intro K
  refine rowKH (i := 0) (some 13) rfl .u8 32 (kA k len z) (A) 0 36 _ _ rfl rfl rfl rfl (by kernel_rfl) (by kernel_rfl) (by kernel_rfl) (fun _ _ _ h => h) Tryd.underlying36 rfl (key_info _) K (fun _ h => (h.get _ _ _ _ mS).range) ?_
  simp only [aP, lI, l0, lS]
  refine rowKH (i := 1) (some 14) rfl .u8 32 ((bmac 32 k len z)) (T) 0 36 _ _ rfl rfl rfl rfl (by kernel_rfl) (by kernel_rfl) (by kernel_rfl) (fun _ _ _ h => h) Tryd.underlying36 rfl (key_info _) K (fun _ h => (h.get _ _ _ _ (mT _ mS)).range) ?_
  simp only [aP, lI, l0, lS]
  refine pureHg (i := 2) (some 15) rfl (.slice (some ⟨A, 0, none⟩) 32 32) rfl rfl (fun w' => cutAll _ _ _ _ rfl rfl (kcutAll A w')) K ?_
  simp only [aP, lI, l0, lS]
  refine callH (i := 3) (some 16) rfl (by kernel_rfl) rfl rfl (fun _ => by kernel_rfl) (knext_any (bmac 32 k len z) (bmac_in _ _ _ _ _) (some ⟨A, 0, none⟩) 32 32 (by decide) (fun e => by cases e) (kA k len z) (kT_in _ _ _ _ _) none 0 0 (by decide) (fun _ => rfl) (fun _ => 0) (fun _ hj => absurd hj (Nat.not_lt_zero _)) 2 (by decide) _ (hg.below K.below hg.size) (K.get _ _ _ _ mS).src0 (fun j hj => absurd hj (Nat.not_lt_zero j))) ?_
  rintro e w5 ⟨rfl, l⟩
  replace K := K.call l
  clear l
  rw [show bmac 32 (bmac 32 k len z) (32 + 0 + 1) (knx 32 (kA k len z) 0 (fun _ => 0) 2) = kB k len z from rfl]
  refine ⟨_, rfl, K, ?_⟩
  simp only [aP, lI, l0, lS]
  have hz1 := (K.room _ (mT _ mS)).1
  refine storesH (i := 4) none rfl .u8 32 (kA k len z) (w.heap.size + 1) 36 _ _ (by kernel_rfl) rfl rfl rfl rfl rfl (room_of hz1) (key_info' _) (K.fill _ _ (mT _ mS) _) ?_
  simp only [Act.put]
  have HA := Has.all hz1 .u8 (kA k len z)
  replace K := K.fill _ _ (mT _ mS) (row .u8 32 (kA k len z))
  generalize w5.setCells (w.heap.size + 1) 0 (row .u8 32 (kA k len z)) = w6 at K HA ⊢
  have hz2 := (K.room _ mS).1
  refine storesH (i := 5) none rfl .u8 32 (kB k len z) (w.heap.size + 1 + 1) 36 _ _ (by kernel_rfl) rfl rfl rfl rfl rfl (room_of hz2) (key_info' _) (K.fill _ _ mS _) ?_
  simp only [Act.put]
  refine wpAnyH_done (by kernel_rfl) ?_ _
  replace HA := HA.setAll_other (w.heap.size + 1 + 1) (by omega) 0 (row .u8 32 (kB k len z))
  have HB := Has.all hz2 .u8 (kB k len z)
  have hB := (K.fill _ _ mS (row .u8 32 (kB k len z))).below
  clear K hz1 hz2
  generalize w6.setCells (w.heap.size + 1 + 1) 0 (row .u8 32 (kB k len z)) = w7 at HA HB hB ⊢
  generalize hAe : kA k len z = fa at *
  generalize hBe : kB k len z = fc at *
  go_wp2
  exact bodyPost_ret (v := .tuple #[(.agg (row .u8 32 (fa)).toArray), (.agg (row .u8 32 (fc)).toArray)]) (results_two Tryd.results16 rfl rfl HA.range HB.range Tryd.underlying36 Tryd.underlying36 rfl rfl (key_info fa) (key_info fc)) rfl ⟨by first | rfl | rw [hAe, hBe] | (rw [← hAe, ← hBe]; done), hB⟩
def pcs12 (s : Sym) : List Value := row .u8 32 s.h ++ (row .u8 32 s.c ++ (row .u8 32 s.k ++ [.bool s.has, .int .u64 (s.n : Int)]))
theorem pcs12_len (s : Sym) : (pcs12 s).length = 98 := by unfold pcs12; simp [row_length]
theorem pcs12_h (s : Sym) : ((pcs12 s).drop 0).take (row .u8 32 s.h).length = row .u8 32 s.h := by unfold pcs12; rw [List.drop_zero, List.take_left]
theorem pcs12_c (s : Sym) : ((pcs12 s).drop 32).take (row .u8 32 s.c).length = row .u8 32 s.c := by unfold pcs12; rw [List.drop_left' (row32 s.h), List.take_left]
theorem pcs12_k (s : Sym) : ((pcs12 s).drop 64).take (row .u8 32 s.k).length = row .u8 32 s.k := by
  unfold pcs12
  rw [← List.append_assoc, List.drop_left' (by rw [List.length_append, row32, row32]), List.take_left]
theorem pcs12_rest (s : Sym) (j : Nat) : (pcs12 s)[96 + j]? = [Value.bool s.has, .int .u64 (s.n : Int)][j]? := by
  unfold pcs12
  rw [← List.append_assoc, ← List.append_assoc, List.getElem?_append_right (by simp [row_length])]
  simp [row_length]
theorem pcs12_setH (s : Sym) (f : Nat → Int) : setL (pcs12 s) 0 (row .u8 32 f) = pcs12 { s with h := f } := by
  unfold pcs12
  exact setL_left _ _ _ (by rw [row32, row32])
theorem pcs12_setC (s : Sym) (f : Nat → Int) : setL (pcs12 s) 32 (row .u8 32 f) = pcs12 { s with c := f } := by
  unfold pcs12
  have := setL_pre (row .u8 32 s.h) (row .u8 32 f) (row .u8 32 s.c ++ (row .u8 32 s.k ++ [.bool s.has, .int .u64 (s.n : Int)])) 0
  rw [row32] at this
  rw [show (32 : Nat) = 32 + 0 from rfl, this, setL_left _ _ _ (by rw [row32, row32])]
theorem pcs12_setK (s : Sym) (f : Nat → Int) : setL (pcs12 s) 64 (row .u8 32 f) = pcs12 { s with k := f } := by
  unfold pcs12
  have := setL_pre (row .u8 32 s.h ++ row .u8 32 s.c) (row .u8 32 f) (row .u8 32 s.k ++ [.bool s.has, .int .u64 (s.n : Int)]) 0
  rw [List.length_append, row32, row32, List.append_assoc] at this
  rw [show (64 : Nat) = 32 + 32 + 0 from rfl, this, setL_left _ _ _ (by rw [row32, row32]), List.append_assoc]
theorem pcs12_set96 (s : Sym) (b : Bool) : (pcs12 s).set 96 (.bool b) = pcs12 { s with has := b } := by
  unfold pcs12
  rw [List.set_append_right _ _ (by rw [row32]; omega), row32, List.set_append_right _ _ (by rw [row32]; omega), row32, List.set_append_right _ _ (by rw [row32]; omega), row32]
  rfl
theorem pcs12_set97 (s : Sym) (n : Nat) : (pcs12 s).set 97 (.int .u64 (n : Int)) = pcs12 { s with n := n } := by
  unfold pcs12
  rw [List.set_append_right _ _ (by rw [row32]; omega), row32, List.set_append_right _ _ (by rw [row32]; omega), row32, List.set_append_right _ _ (by rw [row32]; omega), row32]
  rfl
theorem vmix12_any (w0 w : World) (R : Nat) (l : List (Nat × List Value)) (s : Sym) (hg : SGlob w0) (hsw : SymW s) (sp : Option Addr) (cap : Nat) (b : List Int) (hlen : b.length ≤ 140737488351248) (_ : b.length ≤ cap) (hnil : sp = none → cap = 0) (hb : Byts b) (M : Mm w0 ((R, pcs12 s) :: l) w) (hs : SrcA [R] w sp b.length (bl b)) : Calls Tryd.prog 8 #[.pointer (some ⟨R, 0, none⟩), .slice sp b.length cap] w fun e w' => e = .returned (.tuple #[]) ∧ Mm w0 ((R, pcs12 (smix s b)) :: l) w' ∧ Off [R] w w' := by
  have hRw := M.lt mS
  have hR0 := M.below.size
  have hwz := Nat.le_refl w.heap.size
  have _hML0 : ∀ p ∈ l, p.1 < w.heap.size := fun p hp => (M.rows p (mT _ hp)).2.2
  have OF := Off.refl [R] w
  go_enter Tryd.func8, Tryd.ntmps8
  go_upto_region 0 with fail
  refine wp_region_list ?_
  refine readL (.pointer (some ⟨R, 0, none⟩)) rfl (by kernel_rfl) ?_
  simp only [aP, lI, l0, lS]
  refine readL (.pointer (some ⟨R, 0, none⟩)) rfl (by kernel_rfl) ?_
  simp only [aP, lI, l0, lS]
  refine readL (.pointer (some ⟨R, 0, none⟩)) rfl (by kernel_rfl) ?_
  simp only [aP, lI, l0, lS]
  refine readL (.pointer (some ⟨R, 0, none⟩)) rfl (by kernel_rfl) ?_
  simp only [aP, lI, l0, lS]
  refine readL (.slice (some ⟨R, 0, none⟩) 32 32) rfl (cutAll 36 _ _ _ rfl rfl (by kernel_rfl)) ?_
  simp only [aP, lI, l0, lS]
  refine readL (.slice sp b.length cap) rfl (by kernel_rfl) ?_
  simp only [aP, lI, l0, lS]
  have HC := catIn2 w.heap.size (some ⟨R, 0, none⟩) sp 32 b.length 32 cap s.h (bl b) 27 rfl (M.srcRow mS 0 32 _ (pcs12_h s)) (hs.off OF).1 (fun e => by cases e) hnil
  have hlb := (Below.refl w.heap.size w).alloc (Nat.le_refl _) (.cells #[.slice (some ⟨R, 0, none⟩) 32 32, .slice sp b.length cap] 27)
  refine actL (w' := w.alloc (.cells #[.slice (some ⟨R, 0, none⟩) 32 32, .slice sp b.length cap] 27)) (.slice (some ⟨w.heap.size, 0, none⟩) 2 2) rfl (by kernel_rfl) ?_
  simp only [aP, lI, l0, lS]
  replace M := M.call hlb
  replace OF := OF.below hlb
  replace hwz := Nat.le_trans hwz hlb.size
  clear hlb
  generalize w.alloc (.cells #[.slice (some ⟨R, 0, none⟩) 32 32, .slice sp b.length cap] 27) = w1 at M HC hwz OF ⊢
  generalize hC : w.heap.size = C at HC ⊢
  clear hC
  refine callL rfl (fun _ => by kernel_rfl) (concat_any ⟨C, 0, none⟩ 2 2 _ _ _ _ (by decide) (by rw [tot2]; omega) _ HC) ?_
  rintro e w2 ⟨v, rfl, hO, l⟩
  rw [tot2] at hO
  have N_2 : NewF w2 w.heap.size (32 + b.length) (app s.h 32 (bl b)) v := NewF.of_own ((hO.congr fun j _ => catz2 _ _ _ _ j).lower hwz)
  replace M := M.call l
  replace OF := OF.below l
  replace hwz := Nat.le_trans hwz l.size
  clear l hO HC
  obtain ⟨p2, c2, rfl, hcc_2, hnn_2, _, _⟩ := id N_2
  refine ⟨_, rfl, ?_⟩
  simp only [aP, lI, l0, lS]
  have hzz : In 256 (32 + b.length) (app s.h 32 (bl b)) := app_in _ _ _ _ hsw.h hb.bl
  refine callL rfl (fun _ => by kernel_rfl) (bhash_any p2 _ c2 (by omega) hcc_2 hnn_2 (app s.h 32 (bl b)) hzz _ (hg.mm M).b (NewF.src N_2)) ?_
  rintro e w3 ⟨rfl, l1⟩
  replace M := M.call l1
  replace OF := OF.below l1
  replace hwz := Nat.le_trans hwz l1.size
  clear l1 hzz N_2 hcc_2 hnn_2
  refine ⟨_, rfl, ?_⟩
  simp only [aP, lI, l0, lS]
  refine readL (.pointer (some ⟨R, 0, none⟩)) rfl (by kernel_rfl) ?_
  simp only [aP, lI, l0, lS]
  refine readL (.pointer (some ⟨R, 0, none⟩)) rfl (by kernel_rfl) ?_
  simp only [aP, lI, l0, lS]
  refine skipOpL rfl (storeP (row .u8 32 (bhash (32 + b.length) (app s.h 32 (bl b)))) R 0 36 _ _ rfl rfl rfl (M.thereP mS 0 32 (by rw [pcs12_len]; decide)) (by kernel_rfl) (row_one .u8 32 (bhash (32 + b.length) (app s.h 32 (bl b))))) ?_
  simp only [Act.put]
  replace M := M.setPart (row .u8 32 (bhash (32 + b.length) (app s.h 32 (bl b)))) 0 (by rw [row32, pcs12_len]; decide)
  rw [pcs12_setH] at M
  replace OF := OF.and1 ((Off.refl [R] _).setAll (b := R) mS 0 (row .u8 32 (bhash (32 + b.length) (app s.h 32 (bl b))))) (.inl mS)
  generalize w3.setCells R 0 (row .u8 32 (bhash (32 + b.length) (app s.h 32 (bl b)))) = w4 at M OF ⊢
  replace M : Mm w0 ((R, pcs12 (⟨bhash (32 + b.length) (app s.h 32 (bl b)), s.c, s.k, s.has, s.n⟩ : Sym)) :: l) w4 := M
  exact ⟨rfl, .tuple #[], by kernel_rfl, rfl, M, OF⟩
theorem vkey12_any (w0 w : World) (R : Nat) (l : List (Nat × List Value)) (s : Sym) (hg : SGlob w0) (hsw : SymW s) (sp : Option Addr) (cap : Nat) (b : List Int) (hlen : b.length ≤ 140737488351232) (hcap : b.length ≤ cap) (hnil : sp = none → cap = 0) (hb : Byts b) (M : Mm w0 ((R, pcs12 s) :: l) w) (hs : SrcA [R] w sp b.length (bl b)) : Calls Tryd.prog 9 #[.pointer (some ⟨R, 0, none⟩), .slice sp b.length cap] w fun e w' => e = .returned (.tuple #[]) ∧ Mm w0 ((R, pcs12 (skey s b)) :: l) w' ∧ Off [R] w w' := by
  have hRw := M.lt mS
  have hR0 := M.below.size
  have hwz := Nat.le_refl w.heap.size
  have hML0 : ∀ p ∈ l, p.1 < w.heap.size := fun p hp => (M.rows p (mT _ hp)).2.2
  have OF := Off.refl [R] w
  go_enter Tryd.func9, Tryd.ntmps9
  go_upto_region 0 with fail
  refine wp_region_list ?_
  refine readL (.pointer (some ⟨R, 0, none⟩)) rfl (by kernel_rfl) ?_
  simp only [aP, lI, l0, lS]
  refine readL (.pointer (some ⟨R, 0, none⟩)) rfl (by kernel_rfl) ?_
  simp only [aP, lI, l0, lS]
  refine readL (.pointer (some ⟨R, 0, none⟩)) rfl (by kernel_rfl) ?_
  simp only [aP, lI, l0, lS]
  refine readL (.pointer (some ⟨R, 0, none⟩)) rfl (by kernel_rfl) ?_
  simp only [aP, lI, l0, lS]
  refine readL (.pointer (some ⟨R, 32, none⟩)) rfl (by kernel_rfl) ?_
  simp only [aP, lI, l0, lS]
  refine readL (.agg (row .u8 32 s.c).toArray) rfl (loadN 36 _ ⟨R, 32, none⟩ (row .u8 32 s.c) rfl rfl (fun _ => by kernel_rfl) (fun _ => by rw [row32]; kernel_rfl) (M.part mS 32 _ (pcs12_c s))) ?_
  simp only [aP, lI, l0, lS]
  refine readL (.slice sp b.length cap) rfl (by kernel_rfl) ?_
  simp only [aP, lI, l0, lS]
  refine callL rfl (fun _ => by kernel_rfl) (kchain_any s.c hsw.c sp b.length cap hlen hcap hnil (bl b) hb.bl _ (hg.mm M).b (hs.off OF).1) ?_
  rintro e w1 ⟨rfl, l1⟩
  replace M := M.call l1
  replace OF := OF.below l1
  replace hwz := Nat.le_trans hwz l1.size
  clear l1
  refine ⟨_, rfl, ?_⟩
  simp only [aP, lI, l0, lS]
  refine readL (.tuple #[.agg (row .u8 32 (kA s.c b.length (bl b))).toArray, .agg (row .u8 32 (kB s.c b.length (bl b))).toArray]) rfl (by kernel_rfl) ?_
  simp only [aP, lI, l0, lS]
  refine readL (.agg (row .u8 32 (kA s.c b.length (bl b))).toArray) rfl (by kernel_rfl) ?_
  simp only [aP, lI, l0, lS]
  refine readL (.agg (row .u8 32 (kB s.c b.length (bl b))).toArray) rfl (by kernel_rfl) ?_
  simp only [aP, lI, l0, lS]
  refine readL (.pointer (some ⟨R, 0, none⟩)) rfl (by kernel_rfl) ?_
  simp only [aP, lI, l0, lS]
  refine readL (.pointer (some ⟨R, 32, none⟩)) rfl (by kernel_rfl) ?_
  simp only [aP, lI, l0, lS]
  refine skipOpL rfl (storeP (row .u8 32 (kA s.c b.length (bl b))) R 32 36 _ _ rfl rfl rfl (M.thereP mS 32 32 (by rw [pcs12_len]; decide)) (by kernel_rfl) (row_one .u8 32 (kA s.c b.length (bl b)))) ?_
  simp only [Act.put]
  replace M := M.setPart (row .u8 32 (kA s.c b.length (bl b))) 32 (by rw [row32, pcs12_len]; decide)
  rw [pcs12_setC] at M
  replace OF := OF.and1 ((Off.refl [R] _).setAll (b := R) mS 32 (row .u8 32 (kA s.c b.length (bl b)))) (.inl mS)
  generalize w1.setCells R 32 (row .u8 32 (kA s.c b.length (bl b))) = w2 at M OF ⊢
  replace M : Mm w0 ((R, pcs12 (⟨s.h, kA s.c b.length (bl b), s.k, s.has, s.n⟩ : Sym)) :: l) w2 := M
  refine readL (.pointer (some ⟨R, 0, none⟩)) rfl (by kernel_rfl) ?_
  simp only [aP, lI, l0, lS]
  refine readL (.pointer (some ⟨R, 64, none⟩)) rfl (by kernel_rfl) ?_
  simp only [aP, lI, l0, lS]
  refine skipOpL rfl (storeP (row .u8 32 (kB s.c b.length (bl b))) R 64 36 _ _ rfl rfl rfl (M.thereP mS 64 32 (by rw [pcs12_len]; decide)) (by kernel_rfl) (row_one .u8 32 (kB s.c b.length (bl b)))) ?_
  simp only [Act.put]
  replace M := M.setPart (row .u8 32 (kB s.c b.length (bl b))) 64 (by rw [row32, pcs12_len]; decide)
  rw [pcs12_setK] at M
  replace OF := OF.and1 ((Off.refl [R] _).setAll (b := R) mS 64 (row .u8 32 (kB s.c b.length (bl b)))) (.inl mS)
  generalize w2.setCells R 64 (row .u8 32 (kB s.c b.length (bl b))) = w3 at M OF ⊢
  replace M : Mm w0 ((R, pcs12 (⟨s.h, kA s.c b.length (bl b), kB s.c b.length (bl b), s.has, s.n⟩ : Sym)) :: l) w3 := M
  first | show Exit.then _ _ _ _ _ | show Exit.inBlock _ _ _ _ _
  go_upto_region 1 with fail
  refine wp_region_list ?_
  refine readL (.pointer (some ⟨R, 0, none⟩)) rfl (by kernel_rfl) ?_
  simp only [aP, lI, l0, lS]
  refine readL (.pointer (some ⟨R, 0, none⟩)) rfl (by kernel_rfl) ?_
  simp only [aP, lI, l0, lS]
  refine readL (.pointer (some ⟨R, 0, none⟩)) rfl (by kernel_rfl) ?_
  simp only [aP, lI, l0, lS]
  refine readL (.pointer (some ⟨R, 96, none⟩)) rfl (by kernel_rfl) ?_
  simp only [aP, lI, l0, lS]
  refine skipOpL rfl (storeAny (.bool true) R 96 4 _ _ rfl rfl rfl rfl rfl (M.isSome mS 96 (by rw [pcs12_len]; decide)) (M.free mS 96 (by rw [pcs12_len]; decide)) (by kernel_rfl)) ?_
  simp only [Act.put]
  replace M := M.set 96 (by rw [pcs12_len]; decide) (.bool true)
  rw [pcs12_set96] at M
  replace OF := OF.and1 ((Off.refl [R] _).set (b := R) mS 96 (.bool true)) (.inl mS)
  generalize w3.setCell ⟨R, 96, none⟩ (.bool true) = w4 at M OF ⊢
  replace M : Mm w0 ((R, pcs12 (⟨s.h, kA s.c b.length (bl b), kB s.c b.length (bl b), true, s.n⟩ : Sym)) :: l) w4 := M
  refine readL (.pointer (some ⟨R, 0, none⟩)) rfl (by kernel_rfl) ?_
  simp only [aP, lI, l0, lS]
  refine readL (.pointer (some ⟨R, 97, none⟩)) rfl (by kernel_rfl) ?_
  simp only [aP, lI, l0, lS]
  refine skipOpL rfl (storeAny (.int .u64 0) R 97 45 _ _ rfl rfl rfl rfl rfl (M.isSome mS 97 (by rw [pcs12_len]; decide)) (M.free mS 97 (by rw [pcs12_len]; decide)) (by kernel_rfl)) ?_
  simp only [Act.put]
  replace M := M.set 97 (by rw [pcs12_len]; decide) (.int .u64 0)
  rw [show (.int .u64 0 : Value) = .int .u64 ((0 : Nat) : Int) from rfl, pcs12_set97] at M
  replace OF := OF.and1 ((Off.refl [R] _).set (b := R) mS 97 (.int .u64 0)) (.inl mS)
  generalize w4.setCell ⟨R, 97, none⟩ (.int .u64 0) = w5 at M OF ⊢
  replace M : Mm w0 ((R, pcs12 (⟨s.h, kA s.c b.length (bl b), kB s.c b.length (bl b), true, 0⟩ : Sym)) :: l) w5 := M
  exact ⟨rfl, .tuple #[], by kernel_rfl, rfl, M, OF⟩
theorem vhash12_any (w0 w : World) (R : Nat) (l : List (Nat × List Value)) (s : Sym) (M : Mm w0 ((R, pcs12 s) :: l) w) :
    Calls Tryd.prog 13 #[.pointer (some ⟨R, 0, none⟩)] w fun e w' => e = .returned (.agg (row .u8 32 (s.h)).toArray) ∧ Below w.heap.size w w' := by
  have OF := Off.refl [] w
  have hb0 := M.below
  go_enter Tryd.func13, Tryd.ntmps13
  go_upto_region 0 with fail
  refine wp_region_list ?_
  have hz0_ := OF.size
  refine actL (w' := w.alloc (.cells zu8_32 36)) (.pointer (some ⟨w.heap.size, 0, none⟩)) rfl (by kernel_rfl) ?_
  simp only [aP, lI, l0, lS]
  have hlb := (Below.refl w.heap.size w).alloc (Nat.le_refl _) (.cells zu8_32 36)
  replace OF := OF.below hlb
  clear hlb
  have hB_B1 : w0.heap.size ≤ w.heap.size := M.below.size
  replace M := M.box zu8_32 36 w.heap.size rfl
  generalize w.alloc (.cells zu8_32 36) = w1 at M OF ⊢
  generalize eB : w.heap.size = B1 at M hB_B1  ⊢
  have hE_B1 : w.heap.size ≤ B1 := Nat.le_of_eq eB
  have hF_B1 : B1 ≤ w.heap.size := Nat.le_of_eq eB.symm
  clear eB
  replace M : Mm w0 ((B1, [.int .u8 0, .int .u8 0, .int .u8 0, .int .u8 0, .int .u8 0, .int .u8 0, .int .u8 0, .int .u8 0, .int .u8 0, .int .u8 0, .int .u8 0, .int .u8 0, .int .u8 0, .int .u8 0, .int .u8 0, .int .u8 0, .int .u8 0, .int .u8 0, .int .u8 0, .int .u8 0, .int .u8 0, .int .u8 0, .int .u8 0, .int .u8 0, .int .u8 0, .int .u8 0, .int .u8 0, .int .u8 0, .int .u8 0, .int .u8 0, .int .u8 0, .int .u8 0]) :: (R, pcs12 s) :: l) w1 := M
  have hW_B1 : w.heap.size ≤ B1 := by omega
  clear hz0_
  first | show Exit.then _ _ _ _ _ | show Exit.inBlock _ _ _ _ _
  go_upto_region 1 with fail
  refine wp_region_list ?_
  refine readL (.pointer (some ⟨R, 0, none⟩)) rfl (by kernel_rfl) ?_
  simp only [aP, lI, l0, lS]
  refine readL (.pointer (some ⟨R, 0, none⟩)) rfl (by kernel_rfl) ?_
  simp only [aP, lI, l0, lS]
  refine readL (.pointer (some ⟨R, 0, none⟩)) rfl (by kernel_rfl) ?_
  simp only [aP, lI, l0, lS]
  refine readL (.agg (row .u8 32 s.h).toArray) rfl (loadN 36 _ ⟨R, 0, none⟩ (row .u8 32 s.h) rfl rfl (fun _ => by kernel_rfl) (fun _ => by rw [row32]; kernel_rfl) (M.part (mT _ mS) 0 _ (pcs12_h s))) ?_
  simp only [aP, lI, l0, lS]
  refine skipOpL rfl (storeP (row .u8 32 s.h) B1 0 36 _ _ rfl rfl rfl (M.thereP mS 0 32 (Nat.le_of_ble_eq_true rfl)) (by kernel_rfl) (row_one .u8 32 s.h)) ?_
  simp only [Act.put]
  replace M := M.setAll (row .u8 32 s.h) (by rw [row32]; rfl)
  replace OF := OF.and1 ((Off.refl [B1] _).setAll (b := B1) mS 0 (row .u8 32 s.h)) (.inr (by omega))
  generalize w1.setCells B1 0 (row .u8 32 s.h) = w2 at M OF ⊢
  first | show Exit.then _ _ _ _ _ | show Exit.inBlock _ _ _ _ _
  have c1_ := M.part mS 0 (row .u8 32 s.h) (by rw [List.drop_zero, List.take_length])
  have hbel : Below w.heap.size w w2 := ⟨M.below.os.trans hb0.os.symm, M.below.tape.trans hb0.tape.symm, M.below.output.trans hb0.output.symm, OF.size, fun b hb => OF.blk b hb (fun h => by cases h)⟩
  clear M OF
  go_wp2
  refine bodyPost_ret (v := (.agg (row .u8 32 (s.h)).toArray)) (retCell 2 36 ⟨B1, 0, none⟩ (row .u8 32 s.h) rfl rfl (fun _ => by kernel_rfl) (fun _ => by rw [row32]; kernel_rfl) c1_) rfl ?_
  exact ⟨rfl, hbel⟩
theorem vsplit12_any (w0 w : World) (R : Nat) (l : List (Nat × List Value)) (s : Sym) (hg : SGlob w0) (hsw : SymW s) (M : Mm w0 ((R, pcs12 s) :: l) w) :
    Calls Tryd.prog 12 #[.pointer (some ⟨R, 0, none⟩)] w fun e w' => e = .returned (.tuple #[(.agg (row .u8 32 (kA s.c 0 (bl []))).toArray), (.agg (row .u8 32 (kB s.c 0 (bl []))).toArray)]) ∧ Below w.heap.size w w' := by
  have OF := Off.refl [] w
  have hb0 := M.below
  go_enter Tryd.func12, Tryd.ntmps12
  go_upto_region 0 with fail
  refine wp_region_list ?_
  have hz0_ := OF.size
  refine actL (w' := w.alloc (.cells zu8_32 36)) (.pointer (some ⟨w.heap.size, 0, none⟩)) rfl (by kernel_rfl) ?_
  simp only [aP, lI, l0, lS]
  have hlb := (Below.refl w.heap.size w).alloc (Nat.le_refl _) (.cells zu8_32 36)
  replace OF := OF.below hlb
  clear hlb
  have hB_B1 : w0.heap.size ≤ w.heap.size := M.below.size
  replace M := M.box zu8_32 36 w.heap.size rfl
  generalize w.alloc (.cells zu8_32 36) = w1 at M OF ⊢
  generalize eB : w.heap.size = B1 at M hB_B1  ⊢
  have hE_B1 : w.heap.size ≤ B1 := Nat.le_of_eq eB
  have hF_B1 : B1 ≤ w.heap.size := Nat.le_of_eq eB.symm
  clear eB
  replace M : Mm w0 ((B1, [.int .u8 0, .int .u8 0, .int .u8 0, .int .u8 0, .int .u8 0, .int .u8 0, .int .u8 0, .int .u8 0, .int .u8 0, .int .u8 0, .int .u8 0, .int .u8 0, .int .u8 0, .int .u8 0, .int .u8 0, .int .u8 0, .int .u8 0, .int .u8 0, .int .u8 0, .int .u8 0, .int .u8 0, .int .u8 0, .int .u8 0, .int .u8 0, .int .u8 0, .int .u8 0, .int .u8 0, .int .u8 0, .int .u8 0, .int .u8 0, .int .u8 0, .int .u8 0]) :: (R, pcs12 s) :: l) w1 := M
  have hW_B1 : w.heap.size ≤ B1 := by omega
  clear hz0_
  have hz0_ := OF.size
  refine actL (w' := w1.alloc (.cells zu8_32 36)) (.pointer (some ⟨w1.heap.size, 0, none⟩)) rfl (by kernel_rfl) ?_
  simp only [aP, lI, l0, lS]
  have hlb := (Below.refl w1.heap.size w1).alloc (Nat.le_refl _) (.cells zu8_32 36)
  replace OF := OF.below hlb
  clear hlb
  have hB_B2 : w0.heap.size ≤ w1.heap.size := M.below.size
  replace M := M.box zu8_32 36 w1.heap.size rfl
  generalize w1.alloc (.cells zu8_32 36) = w2 at M OF ⊢
  generalize eB : w1.heap.size = B2 at M hB_B2  ⊢
  have hE_B2 : w1.heap.size ≤ B2 := Nat.le_of_eq eB
  have hF_B2 : B2 ≤ w1.heap.size := Nat.le_of_eq eB.symm
  clear eB
  replace M : Mm w0 ((B2, [.int .u8 0, .int .u8 0, .int .u8 0, .int .u8 0, .int .u8 0, .int .u8 0, .int .u8 0, .int .u8 0, .int .u8 0, .int .u8 0, .int .u8 0, .int .u8 0, .int .u8 0, .int .u8 0, .int .u8 0, .int .u8 0, .int .u8 0, .int .u8 0, .int .u8 0, .int .u8 0, .int .u8 0, .int .u8 0, .int .u8 0, .int .u8 0, .int .u8 0, .int .u8 0, .int .u8 0, .int .u8 0, .int .u8 0, .int .u8 0, .int .u8 0, .int .u8 0]) :: (B1, [.int .u8 0, .int .u8 0, .int .u8 0, .int .u8 0, .int .u8 0, .int .u8 0, .int .u8 0, .int .u8 0, .int .u8 0, .int .u8 0, .int .u8 0, .int .u8 0, .int .u8 0, .int .u8 0, .int .u8 0, .int .u8 0, .int .u8 0, .int .u8 0, .int .u8 0, .int .u8 0, .int .u8 0, .int .u8 0, .int .u8 0, .int .u8 0, .int .u8 0, .int .u8 0, .int .u8 0, .int .u8 0, .int .u8 0, .int .u8 0, .int .u8 0, .int .u8 0]) :: (R, pcs12 s) :: l) w2 := M
  have hW_B2 : w.heap.size ≤ B2 := by omega
  clear hz0_
  first | show Exit.then _ _ _ _ _ | show Exit.inBlock _ _ _ _ _
  go_upto_region 1 with fail
  refine wp_region_list ?_
  refine readL (.pointer (some ⟨R, 0, none⟩)) rfl (by kernel_rfl) ?_
  simp only [aP, lI, l0, lS]
  refine readL (.pointer (some ⟨R, 0, none⟩)) rfl (by kernel_rfl) ?_
  simp only [aP, lI, l0, lS]
  refine readL (.pointer (some ⟨R, 32, none⟩)) rfl (by kernel_rfl) ?_
  simp only [aP, lI, l0, lS]
  refine readL (.agg (row .u8 32 s.c).toArray) rfl (loadN 36 _ ⟨R, 32, none⟩ (row .u8 32 s.c) rfl rfl (fun _ => by kernel_rfl) (fun _ => by rw [row32]; kernel_rfl) (M.part (mT _ (mT _ mS)) 32 _ (pcs12_c s))) ?_
  simp only [aP, lI, l0, lS]
  refine callL rfl (fun _ => by kernel_rfl) (kchain_any s.c hsw.c none 0 0 (by decide) (Nat.le_refl 0) (fun _ => rfl) (bl []) (fun j hj => absurd hj (Nat.not_lt_zero j)) _ (hg.mm M).b (fun j hj => absurd hj (Nat.not_lt_zero j))) ?_
  rintro e w3 ⟨rfl, l1⟩
  replace M := M.call l1
  replace OF := OF.below l1
  clear l1
  refine ⟨_, rfl, ?_⟩
  simp only [aP, lI, l0, lS]
  refine readL (.agg (row .u8 32 (kA s.c 0 (bl []))).toArray) rfl (by kernel_rfl) ?_
  simp only [aP, lI, l0, lS]
  refine readL (.agg (row .u8 32 (kB s.c 0 (bl []))).toArray) rfl (by kernel_rfl) ?_
  simp only [aP, lI, l0, lS]
  replace M := M.swap
  refine skipOpL rfl (storeP (row .u8 32 (kA s.c 0 (bl []))) B1 0 36 _ _ rfl rfl rfl (M.thereP mS 0 32 (Nat.le_of_ble_eq_true rfl)) (by kernel_rfl) (row_one .u8 32 (kA s.c 0 (bl [])))) ?_
  simp only [Act.put]
  replace M := M.setAll (row .u8 32 (kA s.c 0 (bl []))) (by rw [row32]; rfl)
  replace OF := OF.and1 ((Off.refl [B1] _).setAll (b := B1) mS 0 (row .u8 32 (kA s.c 0 (bl [])))) (.inr (by omega))
  generalize w3.setCells B1 0 (row .u8 32 (kA s.c 0 (bl []))) = w4 at M OF ⊢
  replace M := M.swap
  refine skipOpL rfl (storeP (row .u8 32 (kB s.c 0 (bl []))) B2 0 36 _ _ rfl rfl rfl (M.thereP mS 0 32 (Nat.le_of_ble_eq_true rfl)) (by kernel_rfl) (row_one .u8 32 (kB s.c 0 (bl [])))) ?_
  simp only [Act.put]
  replace M := M.setAll (row .u8 32 (kB s.c 0 (bl []))) (by rw [row32]; rfl)
  replace OF := OF.and1 ((Off.refl [B2] _).setAll (b := B2) mS 0 (row .u8 32 (kB s.c 0 (bl [])))) (.inr (by omega))
  generalize w4.setCells B2 0 (row .u8 32 (kB s.c 0 (bl []))) = w5 at M OF ⊢
  first | show Exit.then _ _ _ _ _ | show Exit.inBlock _ _ _ _ _
  have c1 : w5.rangeAt B1 0 (row .u8 32 (kA s.c 0 (bl []))) := fun j v hv => by rw [Nat.zero_add]; exact M.get (mT _ mS) j v hv
  have c2 : w5.rangeAt B2 0 (row .u8 32 (kB s.c 0 (bl []))) := fun j v hv => by rw [Nat.zero_add]; exact M.get mS j v hv
  have hbel : Below w.heap.size w w5 := ⟨M.below.os.trans hb0.os.symm, M.below.tape.trans hb0.tape.symm, M.below.output.trans hb0.output.symm, OF.size, fun b hb => OF.blk b hb (fun h => by cases h)⟩
  clear M OF
  go_wp2
  refine bodyPost_ret (results_two (a := 2) (b := 3) (ty := 36) (ty' := 36) rfl rfl rfl c1 c2 Tryd.underlying36 Tryd.underlying36 rfl rfl (by kernel_rfl) (by kernel_rfl)) rfl ?_
  exact ⟨rfl, hbel⟩
def pcz (n j i : Nat) : Int := if i < 4 then 0 else if i - 4 < j then dig n (i - 4) else 0
def pcl (n j : Nat) : List Value := [.int .u8 (pcz n j 0), .int .u8 (pcz n j 1), .int .u8 (pcz n j 2), .int .u8 (pcz n j 3), .int .u8 (pcz n j 4), .int .u8 (pcz n j 5), .int .u8 (pcz n j 6), .int .u8 (pcz n j 7), .int .u8 (pcz n j 8), .int .u8 (pcz n j 9), .int .u8 (pcz n j 10), .int .u8 (pcz n j 11)]
theorem pcl_set (n j : Nat) (hj : j < 8) : (pcl n j).set (4 + j) (.int .u8 (dig n j)) = pcl n (j + 1) := by
  have : j = 0 ∨ j = 1 ∨ j = 2 ∨ j = 3 ∨ j = 4 ∨ j = 5 ∨ j = 6 ∨ j = 7 := by omega
  rcases this with rfl | rfl | rfl | rfl | rfl | rfl | rfl | rfl <;> rfl
theorem vnonce12_any (n : Nat) (w : World) :
    Calls Tryd.prog 19 #[.int .u64 (n : Int)] w fun e w' => e = .returned (.agg (row .u8 12 (snz n)).toArray) ∧ Below w.heap.size w w' := by
  have M := Mm.init w
  go_enter Tryd.func19, Tryd.ntmps19
  go_upto_region 0 with fail
  refine wp_region_list ?_
  refine actL (w' := w.alloc (.cells zu8_12 52)) (.pointer (some ⟨w.heap.size, 0, none⟩)) rfl (by kernel_rfl) ?_
  simp only [aP, lI, l0, lS]
  have hB_B1 : w.heap.size ≤ w.heap.size := M.below.size
  replace M := M.box zu8_12 52 w.heap.size rfl
  generalize w.alloc (.cells zu8_12 52) = w1 at M  ⊢
  generalize eB : w.heap.size = B1 at M hB_B1  ⊢
  have hE_B1 : w.heap.size ≤ B1 := Nat.le_of_eq eB
  have hF_B1 : B1 ≤ w.heap.size := Nat.le_of_eq eB.symm
  clear eB
  replace M : Mm w ([(B1, [.int .u8 0, .int .u8 0, .int .u8 0, .int .u8 0, .int .u8 0, .int .u8 0, .int .u8 0, .int .u8 0, .int .u8 0, .int .u8 0, .int .u8 0, .int .u8 0])]) w1 := M
  first | show Exit.then _ _ _ _ _ | show Exit.inBlock _ _ _ _ _
  go_upto_region 1 with fail
  refine wp_region_list ?_
  refine actL (w' := w1.alloc (.cells zu8_12 52)) (.pointer (some ⟨w1.heap.size, 0, none⟩)) rfl (by kernel_rfl) ?_
  simp only [aP, lI, l0, lS]
  have hB_B2 : w.heap.size ≤ w1.heap.size := M.below.size
  replace M := M.box zu8_12 52 w1.heap.size rfl
  generalize w1.alloc (.cells zu8_12 52) = w2 at M  ⊢
  generalize eB : w1.heap.size = B2 at M hB_B2  ⊢
  have hE_B2 : w1.heap.size ≤ B2 := Nat.le_of_eq eB
  have hF_B2 : B2 ≤ w1.heap.size := Nat.le_of_eq eB.symm
  clear eB
  replace M : Mm w ([(B2, [.int .u8 0, .int .u8 0, .int .u8 0, .int .u8 0, .int .u8 0, .int .u8 0, .int .u8 0, .int .u8 0, .int .u8 0, .int .u8 0, .int .u8 0, .int .u8 0]), (B1, [.int .u8 0, .int .u8 0, .int .u8 0, .int .u8 0, .int .u8 0, .int .u8 0, .int .u8 0, .int .u8 0, .int .u8 0, .int .u8 0, .int .u8 0, .int .u8 0])]) w2 := M
  first | show Exit.then _ _ _ _ _ | show Exit.inBlock _ _ _ _ _
  go_upto_region 2 with fail
  refine wp_region_list ?_
  refine readL (.int .i64 0) rfl (by kernel_rfl) ?_
  simp only [aP, lI, l0, lS]
  first | show Exit.then _ _ _ _ _ | show Exit.inBlock _ _ _ _ _
  have HI := show Hid _ from (show Mm w ([(B2, pcl n 0), (B1, [.int .u8 0, .int .u8 0, .int .u8 0, .int .u8 0, .int .u8 0, .int .u8 0, .int .u8 0, .int .u8 0, .int .u8 0, .int .u8 0, .int .u8 0, .int .u8 0])]) w2 from M)
  clear M
  go_wp2
  go_loopw [5] (fun i w' => ∃ j : Nat, j ≤ 8 ∧ i = .int .i64 (j : Int) ∧ Mm w ([(B2, pcl n j), (B1, [.int .u8 0, .int .u8 0, .int .u8 0, .int .u8 0, .int .u8 0, .int .u8 0, .int .u8 0, .int .u8 0, .int .u8 0, .int .u8 0, .int .u8 0, .int .u8 0])]) w') (fun i _ => 8 - (intOf i).toNat)
  case atStart => exact ⟨0, Nat.zero_le _, rfl, HI.out⟩
  case round =>
    clear HI
    obtain ⟨j, hj, rfl, M⟩ := hrel
    by_cases hlt : j < 8
    · go_upto_region 3 with fail
      refine wp_region_list ?_
      refine readL (.bool true) rfl (lssI .i64 _ _ _ _ _ _ rfl rfl rfl true (decide_eq_true (by omega)) _) ?_
      simp only [aP, lI, l0, lS]
      first | show Exit.then _ _ _ _ _ | show Exit.inBlock _ _ _ _ _
      go_upto_region 4 with fail
      refine wp_region_list ?_
      refine readL (.int .i64 (j : Int)) rfl (by kernel_rfl) ?_
      simp only [aP, lI, l0, lS]
      refine readL (.int .i64 (j : Int)) rfl (by kernel_rfl) ?_
      simp only [aP, lI, l0, lS]
      first | show Exit.then _ _ _ _ _ | show Exit.inBlock _ _ _ _ _
      go_upto_region 5 with fail
      refine wp_region_list ?_
      refine readL (.int .i64 (j : Int)) rfl (by kernel_rfl) ?_
      simp only [aP, lI, l0, lS]
      refine readL (.int .i64 ((4 + j : Nat) : Int)) rfl (addI .i64 _ _ _ _ _ _ _ rfl rfl rfl (by rw [IntKind.wrap_i64]; omega) _) ?_
      simp only [aP, lI, l0, lS]
      refine readL (.int .u64 (n : Int)) rfl (by kernel_rfl) ?_
      simp only [aP, lI, l0, lS]
      refine readL (.int .i64 (j : Int)) rfl (by kernel_rfl) ?_
      simp only [aP, lI, l0, lS]
      refine readL (.int .i64 ((8 * j : Nat) : Int)) rfl (mulI .i64 _ _ _ _ _ _ _ rfl rfl rfl (by rw [IntKind.wrap_i64]; omega) _) ?_
      simp only [aP, lI, l0, lS]
      refine readL (.int .u64 ((n / 256 ^ j : Nat) : Int)) rfl (shrI .u64 .i64 _ _ _ _ _ _ _ rfl rfl rfl (by omega) (dig_shr n j (by omega)) _) ?_
      simp only [aP, lI, l0, lS]
      refine readL (.int .u8 (dig n j)) rfl (convI .u64 .u8 _ _ _ _ _ rfl (by kernel_rfl) Tryd.underlying5 (by kernel_rfl) rfl (by rw [IntKind.wrap_u8]; unfold dig; omega) _) ?_
      simp only [aP, lI, l0, lS]
      refine readL (.pointer (some ⟨B2, 0 + (4 + j), none⟩)) rfl (idxArr 52 5 12 .i64 B2 0 (4 + j) _ _ Tryd.underlying52 (fun _ => by kernel_rfl) (by omega) rfl rfl rfl _) ?_
      simp only [aP, lI, l0, lS]
      have hj12 : 4 + j < (pcl n j).length := by show 4 + j < 12; omega
      rw [Nat.zero_add]
      refine skipOpL rfl (storeAny (.int .u8 (dig n j)) B2 (4 + j) 5 _ _ rfl rfl rfl rfl rfl (M.isSome mS (4 + j) hj12) (M.free mS (4 + j) hj12) (by kernel_rfl)) ?_
      simp only [Act.put]
      replace M := M.set (4 + j) hj12 (.int .u8 (dig n j))
      rw [pcl_set n j hlt] at M
      clear hj12
      generalize wr.setCell ⟨B2, 4 + j, none⟩ (.int .u8 (dig n j)) = w3 at M ⊢
      first | show Exit.then _ _ _ _ _ | show Exit.inBlock _ _ _ _ _
      have HS := show Hid _ from M
      clear M
      go_wp2
      go_roundw
      case rel => first | exact ⟨j + 1, by omega, by go_num, HS.out⟩ | ((repeat apply Exists.intro); refine ⟨⟨j + 1, by omega, ?_, HS.out⟩, rfl⟩ <;> first | rfl | go_num)
      case measure => simp [intOf]; omega
    · obtain rfl : j = 8 := by omega
      go_upto_region 3 with fail
      refine wp_region_list ?_
      refine readL (.bool false) rfl (lssI .i64 _ _ _ _ _ _ rfl rfl rfl false (by decide) _) ?_
      simp only [aP, lI, l0, lS]
      first | show Exit.then _ _ _ _ _ | show Exit.inBlock _ _ _ _ _
      replace M : Mm w ([(B2, [.int .u8 (pcz n 8 0), .int .u8 (pcz n 8 1), .int .u8 (pcz n 8 2), .int .u8 (pcz n 8 3), .int .u8 (pcz n 8 4), .int .u8 (pcz n 8 5), .int .u8 (pcz n 8 6), .int .u8 (pcz n 8 7), .int .u8 (pcz n 8 8), .int .u8 (pcz n 8 9), .int .u8 (pcz n 8 10), .int .u8 (pcz n 8 11)]), (B1, [.int .u8 0, .int .u8 0, .int .u8 0, .int .u8 0, .int .u8 0, .int .u8 0, .int .u8 0, .int .u8 0, .int .u8 0, .int .u8 0, .int .u8 0, .int .u8 0])]) wr := M
      go_upto_region 7 with fail
      refine wp_region_list ?_
      refine readL (.agg #[.int .u8 (pcz n 8 0), .int .u8 (pcz n 8 1), .int .u8 (pcz n 8 2), .int .u8 (pcz n 8 3), .int .u8 (pcz n 8 4), .int .u8 (pcz n 8 5), .int .u8 (pcz n 8 6), .int .u8 (pcz n 8 7), .int .u8 (pcz n 8 8), .int .u8 (pcz n 8 9), .int .u8 (pcz n 8 10), .int .u8 (pcz n 8 11)]) rfl (loadN 52 _ ⟨B2, 0, none⟩ [.int .u8 (pcz n 8 0), .int .u8 (pcz n 8 1), .int .u8 (pcz n 8 2), .int .u8 (pcz n 8 3), .int .u8 (pcz n 8 4), .int .u8 (pcz n 8 5), .int .u8 (pcz n 8 6), .int .u8 (pcz n 8 7), .int .u8 (pcz n 8 8), .int .u8 (pcz n 8 9), .int .u8 (pcz n 8 10), .int .u8 (pcz n 8 11)] rfl rfl (fun _ => by kernel_rfl) (fun _ => by kernel_rfl) (M.rangeAt mS)) ?_
      simp only [aP, lI, l0, lS]
      replace M := M.swap
      refine skipOpL rfl (storeP [.int .u8 (pcz n 8 0), .int .u8 (pcz n 8 1), .int .u8 (pcz n 8 2), .int .u8 (pcz n 8 3), .int .u8 (pcz n 8 4), .int .u8 (pcz n 8 5), .int .u8 (pcz n 8 6), .int .u8 (pcz n 8 7), .int .u8 (pcz n 8 8), .int .u8 (pcz n 8 9), .int .u8 (pcz n 8 10), .int .u8 (pcz n 8 11)] B1 0 52 _ _ rfl rfl rfl (M.thereP mS 0 12 (Nat.le_of_ble_eq_true rfl)) (by kernel_rfl) (List.all_eq_true.1 (rfl : ([.int .u8 (pcz n 8 0), .int .u8 (pcz n 8 1), .int .u8 (pcz n 8 2), .int .u8 (pcz n 8 3), .int .u8 (pcz n 8 4), .int .u8 (pcz n 8 5), .int .u8 (pcz n 8 6), .int .u8 (pcz n 8 7), .int .u8 (pcz n 8 8), .int .u8 (pcz n 8 9), .int .u8 (pcz n 8 10), .int .u8 (pcz n 8 11)] : List Value).all (fun u => u.oneCell') = true))) ?_
      simp only [Act.put]
      replace M := M.setPart [.int .u8 (pcz n 8 0), .int .u8 (pcz n 8 1), .int .u8 (pcz n 8 2), .int .u8 (pcz n 8 3), .int .u8 (pcz n 8 4), .int .u8 (pcz n 8 5), .int .u8 (pcz n 8 6), .int .u8 (pcz n 8 7), .int .u8 (pcz n 8 8), .int .u8 (pcz n 8 9), .int .u8 (pcz n 8 10), .int .u8 (pcz n 8 11)] 0 (Nat.le_of_ble_eq_true rfl)
      generalize wr.setCells B1 0 [.int .u8 (pcz n 8 0), .int .u8 (pcz n 8 1), .int .u8 (pcz n 8 2), .int .u8 (pcz n 8 3), .int .u8 (pcz n 8 4), .int .u8 (pcz n 8 5), .int .u8 (pcz n 8 6), .int .u8 (pcz n 8 7), .int .u8 (pcz n 8 8), .int .u8 (pcz n 8 9), .int .u8 (pcz n 8 10), .int .u8 (pcz n 8 11)] = w4 at M  ⊢
      replace M : Mm w ([(B1, [.int .u8 (pcz n 8 0), .int .u8 (pcz n 8 1), .int .u8 (pcz n 8 2), .int .u8 (pcz n 8 3), .int .u8 (pcz n 8 4), .int .u8 (pcz n 8 5), .int .u8 (pcz n 8 6), .int .u8 (pcz n 8 7), .int .u8 (pcz n 8 8), .int .u8 (pcz n 8 9), .int .u8 (pcz n 8 10), .int .u8 (pcz n 8 11)]), (B2, [.int .u8 (pcz n 8 0), .int .u8 (pcz n 8 1), .int .u8 (pcz n 8 2), .int .u8 (pcz n 8 3), .int .u8 (pcz n 8 4), .int .u8 (pcz n 8 5), .int .u8 (pcz n 8 6), .int .u8 (pcz n 8 7), .int .u8 (pcz n 8 8), .int .u8 (pcz n 8 9), .int .u8 (pcz n 8 10), .int .u8 (pcz n 8 11)])]) w4 := M
      first | show Exit.then _ _ _ _ _ | show Exit.inBlock _ _ _ _ _
      have c1_ := M.part mS 0 (row .u8 12 (snz n)) rfl
      have hbel := M.below
      clear M
      go_wp2
      refine bodyPost_ret (v := .agg (row .u8 12 (snz n)).toArray) (retCell 2 52 ⟨B1, 0, none⟩ (row .u8 12 (snz n)) rfl rfl (fun _ => by kernel_rfl) (fun _ => by kernel_rfl) c1_) rfl ?_
      exact ⟨rfl, hbel⟩
end Go.Proofs.YtgfpflcoknpbdaaDoor
