/- Texts of Bz Zr Gw Gx Jp Hz, joined. -/
import Derived.Test.YtckohmdmjhaknaaDoorP8KeysEnd
import Derived.Test.YtckohmdmjhaknaaDoorP1KeysEnd
import Derived.Test.YtckohmdmjhaknaaDoorP3KeysEnd
import Derived.Test.YtckohmdmjhaknaaDoorP4KeysEnd
import Derived.Lib.AppendZerosOnto
import Derived.Deep.DeepAppendWide
import Derived.Deep.Cut
import Derived.Test.YtckohmdmjhaknaaDoorP5KeysEnd
set_option maxRecDepth 20000
set_option maxHeartbeats 64000000
namespace Go.Proofs.YtckohmdmjhaknaaDoor
open Go.RowKit
theorem bcutAll_key (b : Nat) (w : World) : (Instr.sliceAt 23 (.pointer (some ⟨b, 0, none⟩)) none none none).run Tryd.prog w = .ok (.slice (some ⟨b, 0, none⟩) 32 32) w := by kernel_rfl
theorem app_none (y z : Nat → Int) : app y 0 z = z := by
  funext j
  unfold app
  rw [if_neg (Nat.not_lt_zero j), Nat.sub_zero]
theorem bhash_any : BHashOK := by
  intro sp len cap hlen hcap _ z hz w hg hs
  have K := Kr.init w
  replace K := K.make 32 zu8_32 23 (w.heap.size) rfl (key_zero _ _ _ rfl).there
  go_enter Tryd.func32, Tryd.ntmps32
  go_upto_region 1 with fail
  generalize (w.alloc (.cells zu8_32 23)) = w0 at K ⊢
  refine wp_region_list ?_
  refine pureL (.slice sp len cap) rfl (fun _ => by kernel_rfl) ?_
  simp only [aP, lI, l0, lS]
  refine callL rfl (fun _ => by kernel_rfl) (bbehind_any none 0 0 (.inl rfl) (Nat.le_refl _) (fun _ => 0) (fun j hj => absurd hj (Nat.not_lt_zero j)) sp len cap hlen hcap z hz _ (hg.below K.below hg.size) (fun j hj => absurd hj (Nat.not_lt_zero j)) (hs.below K.below (Nat.le_refl _))) ?_
  rintro e w1 ⟨rfl, l⟩
  replace K := K.call l
  clear l
  refine ⟨_, rfl, ?_⟩
  simp only [aP, lI, l0, lS]
  rw [app_none, Nat.zero_add]
  have hz' := (K.room _ mS).1
  refine storesL .u8 32 (bhash len z) (w.heap.size) 23 _ _ rfl rfl rfl rfl (room_of hz') (key_info' _) ?_
  simp only [Act.put]
  have hB := (K.fill _ _ mS (row .u8 32 (bhash len z))).below
  clear K
  generalize hGe : bhash len z = G at *
  show Exit.then _ _ _ _ _
  go_wp2
  exact bodyPost_ret (v := (.agg (row .u8 32 (G)).toArray)) (results_row Tryd.results32 rfl (Has.all hz' .u8 G).range Tryd.underlying23 rfl (key_info G)) rfl ⟨by first | rfl | rw [hGe] | (rw [← hGe]; done), hB⟩
theorem bkk_short (kl : Nat) (key : Nat → Int) (h : kl ≤ 64) : bkk kl key = padz kl key := by
  funext j
  unfold bkk padz
  rw [if_pos h]
theorem bkk_long (kl : Nat) (key : Nat → Int) (h : ¬ kl ≤ 64) : bkk kl key = padz 32 (bhash kl key) := by
  funext j
  unfold bkk padz
  rw [if_neg h]
theorem bmac_any : BMacOK := by
  intro kp kl kc hkl hkc _ key hkk sp len cap hlen hcap _ z hz w hg hk hs
  have K := Kr.init w
  replace K := K.make 32 zu8_32 23 (w.heap.size) rfl (key_zero _ _ _ rfl).there
  go_enter Tryd.func29, Tryd.ntmps29
  go_upto_region 1 with fail
  generalize (w.alloc (.cells zu8_32 23)) = w0 at K ⊢
  by_cases hl : kl ≤ 64
  · have g1 : (kl : Int) ≤ 64 := by omega
    have HE := show Hid _ from (show (bhash (64 + 32) (app (bxx 92 (padz (kl) key)) 64 (bhash (64 + len) (app (bxx 54 (padz (kl) key)) 64 z)))) = bmac kl key len z from by unfold bmac; rw [bkk_short kl key hl])
    have hp54 := bxx_in 54 (by decide) (padz (kl) key) 64 (padz_in (kl) key hkk 64)
    have hp92 := bxx_in 92 (by decide) (padz (kl) key) 64 (padz_in (kl) key hkk 64)
    go_upto_region 4 with fail
    refine wp_region_list ?_
    refine pureL (.slice kp kl kc) rfl (fun _ => by kernel_rfl) ?_
    simp only [aP, lI, l0, lS]
    refine callL rfl (fun _ => by kernel_rfl) (bpad_any kp (kl) kc hl key 54 _ (hk.below K.below (Nat.le_refl _))) ?_
    rintro e wa ⟨g, rfl, hG, ⟨_, hgl⟩, l⟩
    replace K := K.call l
    clear l
    refine ⟨_, rfl, ?_⟩
    simp only [aP, lI, l0, lS]
    refine pureL (.slice sp len cap) rfl (fun _ => by kernel_rfl) ?_
    simp only [aP, lI, l0, lS]
    refine callL rfl (fun _ => by kernel_rfl) (bbehind_any (some ⟨g, 0, none⟩) 64 64 (.inr rfl) (Nat.le_refl _) (bxx 54 (padz (kl) key)) hp54 sp len cap (by omega) hcap z hz _ (hg.below K.below hg.size) hG.src0 (hs.below K.below (Nat.le_refl _))) ?_
    rintro e wb ⟨rfl, l⟩
    replace K := K.call l
    clear l
    refine ⟨_, rfl, ?_⟩
    simp only [aP, lI, l0, lS]
    clear hG hgl
    refine allocL zu8_32 23 rfl (fun _ => by kernel_rfl) ?_
    simp only [aP, lI, l0, lS]
    refine storesL .u8 32 ((bhash (64 + len) (app (bxx 54 (padz (kl) key)) 64 z))) wb.heap.size 23 _ _ rfl rfl rfl rfl (room_of (key_zero _ _ _ rfl).there) (key_info' _) ?_
    simp only [Act.put]
    have zJ := K.size
    replace K := K.fresh .u8 32 ((bhash (64 + len) (app (bxx 54 (padz (kl) key)) 64 z))) zu8_32 23 (key_zero _ _ _ rfl).there
    generalize ((wb.alloc (.cells zu8_32 23)).setCells wb.heap.size 0 (row .u8 32 ((bhash (64 + len) (app (bxx 54 (padz (kl) key)) 64 z))))) = wc at K ⊢
    generalize wb.heap.size = J at *
    show Exit.then _ _ _ _ _
    go_upto_region 5 with fail
    refine wp_region_C (S := fun w' => Kr w (J + 1) [(J, .u8, 32, (bhash (64 + len) (app (bxx 54 (padz (kl) key)) 64 z)))] [(w.heap.size, 32)] w') 4 (by kernel_rfl) K.drew ?_
    clear K
    intro K
    refine pureCg (i := 0) (some 17) rfl (.slice kp kl kc) rfl (by decide) rfl (fun _ => by kernel_rfl) K ?_
    simp only [aP, lI, l0, lS]
    refine pureCg (i := 2) (some 19) rfl (.slice (some ⟨J, 0, none⟩) 32 32) rfl (by decide) rfl (fun w' => cutAll _ _ _ _ rfl rfl (bcutAll_key J w')) K ?_
    simp only [aP, lI, l0, lS]
    refine callMC (i := 1) (some 18) rfl (by kernel_rfl) rfl rfl (fun _ => by kernel_rfl) (bpad_any kp (kl) kc hl key 92 _ (hk.below K.below (Nat.le_refl _))) ?_
    rintro e wd ⟨g2, rfl, hG, ⟨_, hgl⟩, l⟩
    replace K := K.call l
    clear l
    refine ⟨_, rfl, K, ?_⟩
    simp only [aP, lI, l0, lS]
    refine callMC (i := 3) (some 20) rfl (by kernel_rfl) rfl rfl (fun _ => by kernel_rfl) (bbehind_any (some ⟨g2, 0, none⟩) 64 64 (.inr rfl) (Nat.le_refl _) (bxx 92 (padz (kl) key)) hp92 (some ⟨J, 0, none⟩) 32 32 (by decide) (Nat.le_refl _) (bhash (64 + len) (app (bxx 54 (padz (kl) key)) 64 z)) (bhash_in _ _ 32) _ (hg.below K.below hg.size) hG.src0 (K.get _ _ _ _ mS).src0) ?_
    rintro e we ⟨rfl, l⟩
    replace K := K.call l
    clear l
    refine ⟨_, rfl, K, ?_⟩
    simp only [aP, lI, l0, lS]
    rw [HE.out]
    have hz' := (K.room _ mS).1
    refine storesC (S2 := fun _ => True) none rfl .u8 32 (bmac kl key len z) (w.heap.size) 23 _ _ (by kernel_rfl) rfl rfl rfl rfl rfl (room_of hz') (key_info' _) (by kernel_rfl) ?_
    simp only [Act.put]
    refine wpAnyH_done (by kernel_rfl) ?_ _
    have hB := (K.fill _ _ mS (row .u8 32 (bmac kl key len z))).below
    clear K HE hG hgl
    generalize hGe : bmac kl key len z = G at *
    go_wp2
    exact bodyPost_ret (v := (.agg (row .u8 32 (G)).toArray)) (results_row Tryd.results29 rfl (Has.all hz' .u8 G).range Tryd.underlying23 rfl (key_info G)) rfl ⟨by first | rfl | rw [hGe] | (rw [← hGe]; done), hB⟩
  · have g1 : (64 : Int) < (kl : Int) := by omega
    go_upto_region 2 with fail
    refine wp_region_list ?_
    refine pureL (.slice kp kl kc) rfl (fun _ => by kernel_rfl) ?_
    simp only [aP, lI, l0, lS]
    refine callL rfl (fun _ => by kernel_rfl) (bhash_any kp kl kc hkl hkc (fun e => by have h0 := hk.none e; omega) key hkk _ (hg.below K.below hg.size) (hk.below K.below (Nat.le_refl _))) ?_
    rintro e w1 ⟨rfl, l⟩
    replace K := K.call l
    clear l
    refine ⟨_, rfl, ?_⟩
    simp only [aP, lI, l0, lS]
    refine allocL zu8_32 23 rfl (fun _ => by kernel_rfl) ?_
    simp only [aP, lI, l0, lS]
    refine storesL .u8 32 (bhash kl key) w1.heap.size 23 _ _ rfl rfl rfl rfl (room_of (key_zero _ _ _ rfl).there) (key_info' _) ?_
    simp only [Act.put]
    have zX := K.size
    replace K := K.fresh .u8 32 (bhash kl key) zu8_32 23 (key_zero _ _ _ rfl).there
    generalize ((w1.alloc (.cells zu8_32 23)).setCells w1.heap.size 0 (row .u8 32 (bhash kl key))) = w2 at K ⊢
    generalize w1.heap.size = X at *
    show Exit.then _ _ _ _ _
    go_upto_region 3 with fail
    refine wp_region_list ?_
    refine pureL (.slice (some ⟨X, 0, none⟩) 32 32) rfl (fun w' => cutAll _ _ _ _ rfl rfl (bcutAll_key X w')) ?_
    simp only [aP, lI, l0, lS]
    refine pureL (.slice (some ⟨X, 0, none⟩) 32 32) rfl (fun _ => by kernel_rfl) ?_
    simp only [aP, lI, l0]
    show Exit.then _ _ _ _ _
    have HE := show Hid _ from (show (bhash (64 + 32) (app (bxx 92 (padz (32) (bhash kl key))) 64 (bhash (64 + len) (app (bxx 54 (padz (32) (bhash kl key))) 64 z)))) = bmac kl key len z from by unfold bmac; rw [bkk_long kl key hl])
    have hp54 := bxx_in 54 (by decide) (padz (32) (bhash kl key)) 64 (padz_in (32) (bhash kl key) (bhash_in kl key 32) 64)
    have hp92 := bxx_in 92 (by decide) (padz (32) (bhash kl key)) 64 (padz_in (32) (bhash kl key) (bhash_in kl key 32) 64)
    go_upto_region 4 with fail
    refine wp_region_list ?_
    refine pureL (.slice (some ⟨X, 0, none⟩) 32 32) rfl (fun _ => by kernel_rfl) ?_
    simp only [aP, lI, l0, lS]
    refine callL rfl (fun _ => by kernel_rfl) (bpad_any (some ⟨X, 0, none⟩) (32) 32 (by decide) (bhash kl key) 54 _ (K.get _ _ _ _ mS).src0) ?_
    rintro e wa ⟨g, rfl, hG, ⟨_, hgl⟩, l⟩
    replace K := K.call l
    clear l
    refine ⟨_, rfl, ?_⟩
    simp only [aP, lI, l0, lS]
    refine pureL (.slice sp len cap) rfl (fun _ => by kernel_rfl) ?_
    simp only [aP, lI, l0, lS]
    refine callL rfl (fun _ => by kernel_rfl) (bbehind_any (some ⟨g, 0, none⟩) 64 64 (.inr rfl) (Nat.le_refl _) (bxx 54 (padz (32) (bhash kl key))) hp54 sp len cap (by omega) hcap z hz _ (hg.below K.below hg.size) hG.src0 (hs.below K.below (Nat.le_refl _))) ?_
    rintro e wb ⟨rfl, l⟩
    replace K := K.call l
    clear l
    refine ⟨_, rfl, ?_⟩
    simp only [aP, lI, l0, lS]
    clear hG hgl
    refine allocL zu8_32 23 rfl (fun _ => by kernel_rfl) ?_
    simp only [aP, lI, l0, lS]
    refine storesL .u8 32 ((bhash (64 + len) (app (bxx 54 (padz (32) (bhash kl key))) 64 z))) wb.heap.size 23 _ _ rfl rfl rfl rfl (room_of (key_zero _ _ _ rfl).there) (key_info' _) ?_
    simp only [Act.put]
    have zJ := K.size
    replace K := K.fresh .u8 32 ((bhash (64 + len) (app (bxx 54 (padz (32) (bhash kl key))) 64 z))) zu8_32 23 (key_zero _ _ _ rfl).there
    generalize ((wb.alloc (.cells zu8_32 23)).setCells wb.heap.size 0 (row .u8 32 ((bhash (64 + len) (app (bxx 54 (padz (32) (bhash kl key))) 64 z))))) = wc at K ⊢
    generalize wb.heap.size = J at *
    show Exit.then _ _ _ _ _
    go_upto_region 5 with fail
    refine wp_region_C (S := fun w' => Kr w (J + 1) [(J, .u8, 32, (bhash (64 + len) (app (bxx 54 (padz (32) (bhash kl key))) 64 z))), (X, .u8, 32, bhash kl key)] [(w.heap.size, 32)] w') 4 (by kernel_rfl) K.drew ?_
    clear K
    intro K
    refine pureCg (i := 0) (some 17) rfl (.slice (some ⟨X, 0, none⟩) 32 32) rfl (by decide) rfl (fun _ => by kernel_rfl) K ?_
    simp only [aP, lI, l0, lS]
    refine pureCg (i := 2) (some 19) rfl (.slice (some ⟨J, 0, none⟩) 32 32) rfl (by decide) rfl (fun w' => cutAll _ _ _ _ rfl rfl (bcutAll_key J w')) K ?_
    simp only [aP, lI, l0, lS]
    refine callMC (i := 1) (some 18) rfl (by kernel_rfl) rfl rfl (fun _ => by kernel_rfl) (bpad_any (some ⟨X, 0, none⟩) (32) 32 (by decide) (bhash kl key) 92 _ (K.get _ _ _ _ (mT _ mS)).src0) ?_
    rintro e wd ⟨g2, rfl, hG, ⟨_, hgl⟩, l⟩
    replace K := K.call l
    clear l
    refine ⟨_, rfl, K, ?_⟩
    simp only [aP, lI, l0, lS]
    refine callMC (i := 3) (some 20) rfl (by kernel_rfl) rfl rfl (fun _ => by kernel_rfl) (bbehind_any (some ⟨g2, 0, none⟩) 64 64 (.inr rfl) (Nat.le_refl _) (bxx 92 (padz (32) (bhash kl key))) hp92 (some ⟨J, 0, none⟩) 32 32 (by decide) (Nat.le_refl _) (bhash (64 + len) (app (bxx 54 (padz (32) (bhash kl key))) 64 z)) (bhash_in _ _ 32) _ (hg.below K.below hg.size) hG.src0 (K.get _ _ _ _ mS).src0) ?_
    rintro e we ⟨rfl, l⟩
    replace K := K.call l
    clear l
    refine ⟨_, rfl, K, ?_⟩
    simp only [aP, lI, l0, lS]
    rw [HE.out]
    have hz' := (K.room _ mS).1
    refine storesC (S2 := fun _ => True) none rfl .u8 32 (bmac kl key len z) (w.heap.size) 23 _ _ (by kernel_rfl) rfl rfl rfl rfl rfl (room_of hz') (key_info' _) (by kernel_rfl) ?_
    simp only [Act.put]
    refine wpAnyH_done (by kernel_rfl) ?_ _
    have hB := (K.fill _ _ mS (row .u8 32 (bmac kl key len z))).below
    clear K HE hG hgl
    generalize hGe : bmac kl key len z = G at *
    go_wp2
    exact bodyPost_ret (v := (.agg (row .u8 32 (G)).toArray)) (results_row Tryd.results29 rfl (Has.all hz' .u8 G).range Tryd.underlying23 rfl (key_info G)) rfl ⟨by first | rfl | rw [hGe] | (rw [← hGe]; done), hB⟩
section
def vcap : Value → Nat
  | .slice _ _ c => c
  | _ => 0
section
variable {P : Program}
theorem run_append_Room {w : World} {base : Nat} {t ty e : TypeId} {k : IntKind} {bytes n : Nat} {f : Nat → Int} {v : Value} (ht : P.underlying t = some (.slice e)) (he : One P e k bytes) (h : Own w base e k n f v)
    (sp : Option Addr) (m c : Nat) (hv : Nat → Int) (hs : ∀ j, j < m → ∃ ad, sp = some ad ∧ w.cell? (ad.add j) = some (.int k (hv j))) (hz : sp = none → c = 0) (hroom : n + m ≤ vcap v) :
    ∃ v' w', (Builtin.append_ #[t, t] ty #[v, .slice sp m c]).run P w = .ok v' w' ∧ Own w' base e k (n + m) (app f n hv) v' ∧ w.grownBy w' v.ownBlock ∧ vcap v' = vcap v ∧ v'.ownBlock = v.ownBlock := by
  obtain ⟨i, hi, hq⟩ := Option.map_eq_some_iff.1 he.info
  simp only [Prod.mk.injEq] at hq
  obtain ⟨_, _, h3⟩ := hq
  cases sp with
  | none =>
    have hm : m = 0 := by
      rcases Nat.eq_zero_or_pos m with h0 | h0
      · exact h0
      · obtain ⟨ad, e, _⟩ := hs 0 h0; cases e
    subst hm
    obtain rfl := hz rfl
    exact ⟨v, w, run_append_owned_none (P := P) (w := w) base t ty e i 1 ht hi v n _ h, h.congr fun j hj => by unfold app; rw [if_pos hj], ⟨rfl, rfl, rfl, Nat.le_refl _, fun _ _ _ => rfl⟩, rfl, rfl⟩
  | some ad =>
    have hnews : ∀ j u, (row k m hv)[j]? = some u → w.cell? (ad.add j) = some u := fun j u hu => by
      obtain ⟨hj, rfl⟩ := row_get_some hu
      obtain ⟨ad', e', hc⟩ := hs j hj
      injection e' with e'
      subst e'
      exact hc
    have hml : (row k m hv).length = m * i.size := by rw [row_length, h3, Nat.mul_one]
    have hlen : (row k n f ++ row k m hv).length = (n + m) * 1 := by rw [List.length_append, row_length, row_length, Nat.mul_one]
    rcases h.2 with ⟨rfl, rfl⟩ | ⟨g, cap, cur, rfl, hbg, hgg, hnc, hcm, hcs, htake⟩
    · have hm : m = 0 := by simp only [vcap] at hroom; omega
      subst hm
      refine ⟨.slice none 0 0, w, ?_, h.congr fun j hj => absurd hj (Nat.not_lt_zero j), ⟨rfl, rfl, rfl, Nat.le_refl _, fun _ _ _ => rfl⟩, rfl, rfl⟩
      simp [Builtin.append_, run_underlying ht, sizeOf, typeInfo, hi, Builtin.lenOf, Builtin.firstCells, loadCells, loadCellsFrom]
    · have hroom' : n + m ≤ cap := hroom
      have hr2 := run_append_room (P := P) w t ty e i ht hi g n cap cur hgg ad m c (row k m hv) hml hnews (row_one k m hv) hroom' (by rw [hml, hcs, h3]; omega)
      refine ⟨_, _, hr2, ?_, ⟨rfl, rfl, rfl, by simp, fun q _ hq => setRow_other w g q _ (fun e => hq (by simp [Value.ownBlock, e]))⟩, rfl, rfl⟩
      unfold Own
      rw [← row_app]
      rw [Nat.mul_one] at htake hcs
      refine ⟨hlen, .inr ⟨g, cap, _, rfl, hbg, setRow_heap w g cur _ e _ hgg, hroom', hcm, ?_, ?_⟩⟩
      · simp only [List.size_toArray, List.length_append, List.length_take, List.length_drop, Array.length_toList, row_length, h3, Nat.mul_one]
        omega
      · simp only [h3, Nat.mul_one, htake]
        have e2 : n + m = (row k n f ++ row k m hv).length := by rw [hlen, Nat.mul_one]
        rw [e2]
        exact List.take_left
end
section
variable {P : Program} {o : Oper} {a : Act}
theorem appendNOp {w w' : World} (s x : Operand) (t u : TypeId) (v n r : Value) (ho : o.op = .call { callee := .builtin .append, args := #[s, x], argTypes := #[t, u] }) (hs : a.eval s = v) (hx : a.eval x = n) (hr : (Builtin.append_ #[t, u] o.type #[v, n]).run P w = .ok r w') :
    (execOp a.eval o).run P w = .ok (.value r) w' := by
  unfold execOp
  simp only [ho, resolve, invoke, builtin, Sem.run_bind, Sem.run_pure, Result.andThen_ok, List.map_toArray, List.map_cons, List.map_nil, hs, hx, hr]
end
end
def tot (ln : Nat → Nat) : Nat → Nat
  | 0 => 0
  | j + 1 => tot ln j + ln j
def catz (ln : Nat → Nat) (zz : Nat → Nat → Int) : Nat → Nat → Int
  | 0 => fun _ => 0
  | j + 1 => app (catz ln zz j) (tot ln j) (zz j)
theorem tot_mono (ln : Nat → Nat) {i : Nat} : ∀ {j : Nat}, i ≤ j → tot ln i ≤ tot ln j
  | 0, h => by obtain rfl : i = 0 := by omega
               exact Nat.le_refl _
  | j + 1, h => by
    rcases Nat.lt_or_ge j i with h' | h'
    · obtain rfl : i = j + 1 := by omega
      exact Nat.le_refl _
    · have := tot_mono ln h'
      show _ ≤ tot ln j + ln j
      omega
theorem loadSl {P : Program} {o : Oper} {a : Act} {w : World} (ty e : TypeId) (x : Operand) (p : Addr) (v : Value) (ho : o.op = .load ty x) (hx : a.eval x = .pointer (some p)) (hu : P.underlying ty = some (.slice e)) (hc : w.cell? p = some v) : (execOp a.eval o).run P w = .ok (.value v) w := by
  have hagg : (isAgg ty).run P w = .ok false w := by
    unfold isAgg
    rw [Sem.run_bind, run_underlying hu w]
    rfl
  have e : (loadVar ty p).run P w = .ok v w := by simp [loadVar, Sem.run_bind, hagg, hc]
  unfold execOp
  simp only [ho, hx, Instr.loadAt, Instr.sureAddr, Sem.run_bind, Sem.run_pure, Result.andThen_ok, e]
theorem cut_none (g n cap : Nat) (w : World) : (Instr.sliceAt 51 (.slice (some ⟨g, 0, none⟩) n cap) none (some (.int .i64 0)) none).run Tryd.prog w = .ok (.slice (some ⟨g, 0, none⟩) 0 cap) w := by
  rw [run_sliceAt_slice w 51 _ _ _ _ (by kernel_rfl), run_slice_h w 51 _ n cap (by kernel_rfl) .i64 0 (by omega) (by omega), show (sizeOf (Tryd.prog.elem 51)).run Tryd.prog w = .ok 1 w by kernel_rfl]
  simp [Result.andThen, sliced, Addr.add_mid]
theorem grow_any (n : Nat) (hn : n ≤ 281474976710656) (w : World) :
    Calls Tryd.prog 35 #[.slice none 0 0, .int .i64 (n : Int)] w fun e w' => ∃ v, e = .returned v ∧ Own w' w.heap.size 5 .u8 0 (fun _ => 0) v ∧ n ≤ vcap v ∧ Below w.heap.size w w' := by
  have h0 : ¬ (n : Int) < 0 := by omega
  go_enter Tryd.func35, Tryd.ntmps35
  go_upto_region 3 with fail
  clear h0
  refine wp_region_list ?_
  refine pureL (.int .i64 (n : Int)) rfl (fun _ => by kernel_rfl) ?_
  simp only [aP, lI, l0, lS]
  refine pureL (.slice none 0 0) rfl (fun _ => by kernel_rfl) ?_
  simp only [aP, lI, l0, lS]
  refine pureL (.int .i64 0) rfl (fun _ => by kernel_rfl) ?_
  simp only [aP, lI, l0, lS]
  refine pureL (.slice none 0 0) rfl (fun _ => by kernel_rfl) ?_
  simp only [aP, lI, l0, lS]
  refine pureL (.int .i64 0) rfl (fun _ => by kernel_rfl) ?_
  simp only [aP, lI, l0, lS]
  refine pureL (.int .i64 0) rfl (fun _ => by kernel_rfl) ?_
  simp only [aP, lI, l0, lS]
  refine pureL (.int .i64 (n : Int)) rfl (fun w => subI .i64 _ _ _ _ _ _ _ rfl rfl rfl (by rw [IntKind.wrap_i64]; omega) w) ?_
  simp only [aP, lI, l0, lS]
  refine pureL (.int .i64 (n : Int)) rfl (fun _ => by kernel_rfl) ?_
  simp only [aP, lI, l0, lS]
  show Exit.then _ _ _ _ _
  rcases Nat.eq_zero_or_pos n with hz | hz
  · subst hz
    go_wp2
    go_ret
    exact ⟨.slice none 0 0, rfl, World.ownsRow_nil w _ _ 1, Nat.le_refl _, Below.refl _ _⟩
  · have g1 : (0 : Int) < (n : Int) := by omega
    go_upto_region 5 with fail
    refine wp_region_list ?_
    refine pureL (.slice none 0 0) rfl (fun _ => by kernel_rfl) ?_
    simp only [aP, lI, l0, lS]
    refine pureL (.slice none 0 0) rfl (fun _ => by kernel_rfl) ?_
    simp only [aP, lI, l0, lS]
    refine pureL (.int .i64 0) rfl (fun _ => by kernel_rfl) ?_
    simp only [aP, lI, l0, lS]
    refine pureL (.slice none 0 0) rfl (fun _ => by kernel_rfl) ?_
    simp only [aP, lI, l0, lS]
    refine pureL (.int .i64 (n : Int)) rfl (fun _ => by kernel_rfl) ?_
    simp only [aP, lI, l0, lS]
    have h1 : (Tryd.prog.info? 5).map (fun i => (i.zero, i.bytes, i.size)) = some (some (.int .u8 0), 1, 1) := by kernel_rfl
    obtain ⟨i, hi, he⟩ := Option.map_eq_some_iff.1 h1
    simp only [Prod.mk.injEq] at he
    obtain ⟨e1, e2, e3⟩ := he
    have hr : ∀ ty, _ := fun ty => Lib.run_append_nil_zeros (P := Tryd.prog) w 51 3 ty 5 i (.int .u8 0) .i64 .i64 Tryd.underlying51 Tryd.underlying3 hi e1 n (by omega) (by rw [e3]; decide) (by omega) (by rw [e2]; omega)
    refine actL _ rfl (appendNOp _ _ 51 3 _ _ _ rfl rfl rfl (hr _)) ?_
    clear hr
    have hge := grownCap_ge w n 0 5
    have hle := grownCap_le_maxLen w n 0 5 (by unfold maxLen; omega)
    have hz1 : (Value.int .u8 0).cells.size = 1 := rfl
    have hsz : (Builtin.zeroCells (Value.int .u8 0).cells n ++ Builtin.zeroCells (Value.int .u8 0).cells (grownCap w n 0 5 - n)).size = grownCap w n 0 5 * 1 := by
      rw [Array.size_append, size_zeroCells, size_zeroCells, hz1]
      omega
    have O : Own (w.drew.alloc (.cells (Builtin.zeroCells (Value.int .u8 0).cells n ++ Builtin.zeroCells (Value.int .u8 0).cells (grownCap w n 0 5 - n)) 5)) w.heap.size 5 .u8 0 (fun _ => 0) (.slice (some ⟨w.heap.size, 0, none⟩) 0 (grownCap w n 0 5)) :=
      ⟨rfl, .inr ⟨w.heap.size, _, _, rfl, Nat.le_refl _, heap_alloc_new w.drew _, Nat.zero_le _, hle, hsz, by rw [Nat.zero_mul, List.take_zero]; rfl⟩⟩
    have hB : Below w.heap.size w (w.drew.alloc (.cells (Builtin.zeroCells (Value.int .u8 0).cells n ++ Builtin.zeroCells (Value.int .u8 0).cells (grownCap w n 0 5 - n)) 5)) := (Below.refl _ _).drew.alloc (Nat.le_refl _) _
    generalize (w.drew.alloc (.cells (Builtin.zeroCells (Value.int .u8 0).cells n ++ Builtin.zeroCells (Value.int .u8 0).cells (grownCap w n 0 5 - n)) 5)) = w1 at O hB ⊢
    clear hle hsz hz1 h1 hi e1 e2 e3
    generalize grownCap w n 0 5 = cp at O hge ⊢
    generalize hg : w.heap.size = g at O hB ⊢
    simp only [aP, lI, l0, lS]
    refine pureL (.slice none 0 0) rfl (fun _ => by kernel_rfl) ?_
    simp only [aP, lI, l0, lS]
    refine pureL (.int .i64 0) rfl (fun _ => by kernel_rfl) ?_
    simp only [aP, lI, l0, lS]
    refine pureL (.slice (some ⟨g, 0, none⟩) 0 cp) rfl (fun w' => cutHi _ _ _ _ _ _ rfl rfl rfl (cut_none g n cp w')) ?_
    simp only [aP, lI, l0, lS]
    refine pureL (.slice (some ⟨g, 0, none⟩) 0 cp) rfl (fun _ => by kernel_rfl) ?_
    simp only [aP, lI, l0]
    subst hg
    show Exit.then _ _ _ _ _
    go_wp2
    go_ret
    exact ⟨_, rfl, O, hge, hB⟩
structure CatIn (w : World) (p : Addr) (c : Nat) (sp : Nat → Option Addr) (ln cp : Nat → Nat) (zz : Nat → Nat → Int) : Prop where
  cell : ∀ j, j < c → w.cell? (p.add j) = some (.slice (sp j) (ln j) (cp j))
  src : ∀ j, j < c → Src w (sp j) (ln j) (zz j)
  nil : ∀ j, j < c → sp j = none → cp j = 0
theorem CatIn.below {w w' : World} {p : Addr} {c : Nat} {sp : Nat → Option Addr} {ln cp : Nat → Nat} {zz : Nat → Nat → Int} (h : CatIn w p c sp ln cp zz) (l : Below w.heap.size w w') : CatIn w' p c sp ln cp zz :=
  ⟨fun j hj => by rw [l.cell (World.block_lt_of_cell? w _ (h.cell j hj))]; exact h.cell j hj, fun j hj => (h.src j hj).below l (Nat.le_refl _), h.nil⟩
structure CatI (w : World) (ln : Nat → Nat) (zz : Nat → Nat → Int) (c j : Nat) (s : Value) (w' : World) : Prop where
  own : Own w' w.heap.size 5 .u8 (tot ln j) (catz ln zz j) s
  room : tot ln c ≤ vcap s
  below : Below w.heap.size w w'
theorem concat_any (p : Addr) (c c' : Nat) (sp : Nat → Option Addr) (ln cp : Nat → Nat) (zz : Nat → Nat → Int) (hc : c < 1000000) (ht : tot ln c ≤ 281474976710656) (w : World) (hin : CatIn w p c sp ln cp zz) :
    Calls Tryd.prog 30 #[.slice (some p) c c'] w fun e w' => ∃ v, e = .returned v ∧ Own w' w.heap.size 5 .u8 (tot ln c) (catz ln zz c) v ∧ Below w.heap.size w w' := by
  go_enter Tryd.func30, Tryd.ntmps30
  go_wp2
  go_loopw [3, 11] (fun s i w' => ∃ j : Nat, j ≤ c ∧ s = .int .i64 ((tot ln j : Nat) : Int) ∧ i = .int .i64 (j : Int) ∧ w = w') (fun _ i _ => c - (intOf i).toNat)
  case atStart => exact ⟨0, Nat.zero_le _, rfl, rfl, rfl⟩
  case round =>
    obtain ⟨j, hj, rfl, rfl, rfl⟩ := hrel
    by_cases hlt : j < c
    · have g1 : (j : Int) < (c : Int) := by omega
      have hm : tot ln j + ln j ≤ tot ln c := tot_mono ln (show j + 1 ≤ c by omega)
      go_upto_region 4 with fail
      refine wp_region_list ?_
      refine pureL (.pointer (some (p.add j))) rfl (fun w => idxSl 58 51 c c' .i64 p j _ _ Tryd.underlying58 (fun _ => by kernel_rfl) hlt rfl rfl rfl w) ?_
      simp only [aP, lI, l0, lS]
      refine readL (.slice (sp j) (ln j) (cp j)) rfl (loadSl 51 5 _ (p.add j) _ rfl rfl Tryd.underlying51 (hin.cell j hlt)) ?_
      simp only [aP, lI, l0, lS]
      refine pureL (.slice (sp j) (ln j) (cp j)) rfl (fun _ => by kernel_rfl) ?_
      simp only [aP, lI, l0, lS]
      show Exit.then _ _ _ _ _
      go_upto_region 5 with fail
      refine wp_region_list ?_
      refine pureL (.int .i64 ((tot ln j : Nat) : Int)) rfl (fun _ => by kernel_rfl) ?_
      simp only [aP, lI, l0, lS]
      refine pureL (.slice (sp j) (ln j) (cp j)) rfl (fun _ => by kernel_rfl) ?_
      simp only [aP, lI, l0, lS]
      refine pureL (.int .i64 ((ln j : Nat) : Int)) rfl (fun w => lenS _ 51 5 (sp j) (ln j) (cp j) rfl Tryd.underlying51 rfl w) ?_
      simp only [aP, lI, l0, lS]
      refine pureL (.int .i64 ((tot ln (j + 1) : Nat) : Int)) rfl (fun w => addI .i64 _ _ _ _ _ _ _ rfl rfl rfl (by rw [IntKind.wrap_i64]; show _ = ((tot ln j + ln j : Nat) : Int); omega) w) ?_
      simp only [aP, lI, l0, lS]
      refine pureL (.int .i64 ((tot ln (j + 1) : Nat) : Int)) rfl (fun _ => by kernel_rfl) ?_
      simp only [aP, lI, l0, lS]
      show Exit.then _ _ _ _ _
      have g2 : ¬ ((tot ln (j + 1) : Nat) : Int) < 0 := by omega
      clear hm
      go_wp2
      go_roundw
      case rel => exact ⟨j + 1, by omega, rfl, by go_num, trivial⟩
      case measure => simp [intOf]; omega
    · obtain rfl : j = c := by omega
      have g1 : ¬ (j : Int) < (j : Int) := by omega
      clear hlt hj
      go_upto_region 9 with fail
      refine wp_region_list ?_
      refine pureL (.int .i64 ((tot ln j : Nat) : Int)) rfl (fun _ => by kernel_rfl) ?_
      simp only [aP, lI, l0, lS]
      refine callL rfl (fun _ => by kernel_rfl) (grow_any (tot ln j) ht _) ?_
      rintro e w1 ⟨v, rfl, O, hro, hB⟩
      refine ⟨_, rfl, ?_⟩
      simp only [aP, lI, l0, lS]
      refine pureL v rfl (fun _ => by kernel_rfl) ?_
      simp only [aP, lI, l0, lS]
      have HI : CatI w ln zz j 0 v w1 := ⟨O, hro, hB⟩
      clear O hro hB
      show Exit.then _ _ _ _ _
      go_wp2
      go_loopw [6, 27] (fun s i w' => ∃ q : Nat, q ≤ j ∧ i = .int .i64 (q : Int) ∧ CatI w ln zz j q s w') (fun _ i _ => j - (intOf i).toNat)
      case atStart => exact ⟨0, Nat.zero_le _, rfl, HI⟩
      case round =>
        clear HI
        obtain ⟨q, hq, rfl, HI⟩ := hrel
        by_cases hlt : q < j
        · have g2 : (q : Int) < (j : Int) := by omega
          have hm : tot ln q + ln q ≤ tot ln j := tot_mono ln (show q + 1 ≤ j by omega)
          go_upto_region 12 with fail
          refine wp_region_list ?_
          refine pureL (.pointer (some (p.add q))) rfl (fun w => idxSl 58 51 j c' .i64 p q _ _ Tryd.underlying58 (fun _ => by kernel_rfl) hlt rfl rfl rfl w) ?_
          simp only [aP, lI, l0, lS]
          refine readL (.slice (sp q) (ln q) (cp q)) rfl (loadSl 51 5 _ (p.add q) _ rfl rfl Tryd.underlying51 ((hin.below HI.below).cell q hlt)) ?_
          simp only [aP, lI, l0, lS]
          refine pureL (.slice (sp q) (ln q) (cp q)) rfl (fun _ => by kernel_rfl) ?_
          simp only [aP, lI, l0, lS]
          show Exit.then _ _ _ _ _
          go_upto_region 13 with fail
          refine wp_region_list ?_
          refine pureL u6 rfl (fun _ => by kernel_rfl) ?_
          simp only [aP, lI, l0, lS]
          refine pureL (.slice (sp q) (ln q) (cp q)) rfl (fun _ => by kernel_rfl) ?_
          simp only [aP, lI, l0, lS]
          obtain ⟨v', w2, hr, O, hg, hv, _⟩ := run_append_Room (P := Tryd.prog) (ty := 51) Tryd.underlying51 one8 HI.own (sp q) (ln q) (cp q) (zz q) ((hin.below HI.below).src q hlt) (hin.nil q hlt) (Nat.le_trans hm HI.room)
          refine actL _ rfl (appendOp _ _ 51 _ _ _ rfl rfl rfl hr) ?_
          simp only [aP, lI, l0, lS]
          refine pureL v' rfl (fun _ => by kernel_rfl) ?_
          simp only [aP, lI, l0, lS]
          have HS := show Hid _ from (show CatI w ln zz j (q + 1) v' w2 from ⟨O, by rw [hv]; exact HI.room, Below.grown HI.below hg HI.below.size (fun b hb => (World.ownsRow.lt HI.own b hb).1)⟩)
          clear O hg hv hr HI hm
          show Exit.inBlock _ _ _ _ _
          go_wp2
          go_roundw
          case rel => first | exact ⟨q + 1, by omega, by go_num, HS.out⟩ | ((repeat apply Exists.intro); refine ⟨⟨q + 1, by omega, ?_, HS.out⟩, rfl⟩ <;> first | rfl | go_num)
          case measure => simp [intOf]; omega
        · obtain rfl : q = j := by omega
          have g2 : ¬ (q : Int) < (q : Int) := by omega
          have HS := show Hid _ from HI
          clear HI hlt hq
          go_wp2
          go_ret
          exact ⟨_, rfl, HS.out.own, HS.out.below⟩
def pk3 {α : Type} (a b c : α) : Nat → α
  | 0 => a
  | 1 => b
  | _ => c
theorem tot3 (a b c : Nat) : tot (pk3 a b c) 3 = a + b + c := by show 0 + a + b + c = _; omega
theorem catIn3 {w : World} (C : Nat) (p1 p2 p3 : Option Addr) (l1 l2 l3 c1 c2 c3 : Nat) (z1 z2 z3 : Nat → Int) (t : TypeId) (hC : C = w.heap.size) (h1 : Src w p1 l1 z1) (h2 : Src w p2 l2 z2) (h3 : Src w p3 l3 z3) (n1 : p1 = none → c1 = 0) (n2 : p2 = none → c2 = 0) (n3 : p3 = none → c3 = 0) :
    CatIn (w.alloc (.cells #[.slice p1 l1 c1, .slice p2 l2 c2, .slice p3 l3 c3] t)) ⟨C, 0, none⟩ 3 (pk3 p1 p2 p3) (pk3 l1 l2 l3) (pk3 c1 c2 c3) (pk3 z1 z2 z3) := by
  have hb := (Below.refl w.heap.size w).alloc (Nat.le_refl _) (.cells #[.slice p1 l1 c1, .slice p2 l2 c2, .slice p3 l3 c3] t)
  refine ⟨fun j hj => ?_, fun j hj => ?_, fun j hj => ?_⟩
  · rw [Addr.add_mid, World.cell?_alloc_at _ _ _ _ hC]
    match j, hj with
    | 0, _ | 1, _ | 2, _ => rfl
    | _ + 3, h => omega
  · match j, hj with
    | 0, _ => exact h1.below hb (Nat.le_refl _)
    | 1, _ => exact h2.below hb (Nat.le_refl _)
    | 2, _ => exact h3.below hb (Nat.le_refl _)
    | _ + 3, h => omega
  · match j, hj with
    | 0, _ => exact n1
    | 1, _ => exact n2
    | 2, _ => exact n3
    | _ + 3, h => omega
def knx (ll : Nat) (last : Nat → Int) (il : Nat) (inf : Nat → Int) (c : Int) : Nat → Int := app (app last ll inf) (ll + il) (fun _ => c)
theorem knx_in (ll : Nat) (last : Nat → Int) (il : Nat) (inf : Nat → Int) (c : Int) (hl : In 256 ll last) (hi : In 256 il inf) (hc : 0 ≤ c ∧ c < 256) : In 256 (ll + il + 1) (knx ll last il inf c) := app_in _ _ _ _ (app_in _ _ _ _ hl hi) (fun _ _ => hc)
theorem cat3k (ll : Nat) (last : Nat → Int) (il : Nat) (inf : Nat → Int) (c : Int) (j : Nat) : catz (pk3 ll il 1) (pk3 last inf (fun _ => c)) 3 j = knx ll last il inf c j := by
  show app (app (app (fun _ => 0) 0 last) (0 + ll) inf) (0 + ll + il) (fun _ => c) j = _
  unfold knx
  rw [Nat.zero_add]
  have e : app (fun _ => (0 : Int)) 0 last = last := by
    funext q
    unfold app
    rw [if_neg (Nat.not_lt_zero q), Nat.sub_zero]
  rw [e]
theorem knext_any (k : Nat → Int) (hk : In 256 32 k) (lp : Option Addr) (ll lc : Nat) (hll : ll ≤ 32) (hln : lp = none → lc = 0) (last : Nat → Int) (hla : In 256 ll last) (ip : Option Addr) (il ic : Nat) (hil : il ≤ 140737488351232) (hin : ip = none → ic = 0) (inf : Nat → Int) (hif : In 256 il inf) (c : Int) (hc : 0 ≤ c ∧ c < 256) (w : World) (hg : BGlob w) (hsl : Src w lp ll last) (hsi : Src w ip il inf) :
    Calls Tryd.prog 27 #[(.agg (row .u8 32 (k)).toArray), .slice lp ll lc, .slice ip il ic, .int .u8 c] w fun e w' => e = .returned (.agg (row .u8 32 (bmac 32 k (ll + il + 1) (knx ll last il inf c))).toArray) ∧ Below w.heap.size w w' := by
  have K := Kr.init w
  replace K := K.box .u8 32 k 23 (w.heap.size) rfl
  replace K := K.make 32 zu8_32 23 (w.heap.size + 1) (by simp) (key_zero _ _ _ (by simp)).there
  go_enter Tryd.func27, Tryd.ntmps27
  go_upto_region 1 with fail
  generalize ((w.alloc (.cells (row .u8 32 k).toArray 23)).alloc (.cells zu8_32 23)) = w0 at K ⊢
  refine wp_region_held_drew (S := fun w' => Kr w (w.heap.size + 1 + 1) [(w.heap.size, .u8, 32, k)] [(w.heap.size + 1, 32)] w') (by kernel_rfl) K.drew ?_
  clear K
  intro K
  generalize w0.drew = w1 at K ⊢
  refine pureHg (i := 0) (some 9) rfl (.slice (some ⟨w.heap.size, 0, none⟩) 32 32) rfl rfl (fun w' => cutAll _ _ _ _ rfl rfl (kcutAll w.heap.size w')) K ?_
  simp only [aP, lI, l0, lS]
  refine pureHg (i := 1) (some 10) rfl (.slice lp ll lc) rfl rfl (fun _ => by kernel_rfl) K ?_
  simp only [aP, lI, l0, lS]
  refine pureHg (i := 2) (some 11) rfl (.slice ip il ic) rfl rfl (fun _ => by kernel_rfl) K ?_
  simp only [aP, lI, l0, lS]
  refine pureHg (i := 3) (some 12) rfl (.int .u8 c) rfl rfl (fun _ => by kernel_rfl) K ?_
  simp only [aP, lI, l0, lS]
  have H1 := (Has.new w1 .u8 1 (fun _ => c) 5 w1.heap.size rfl).src0
  replace K := K.call ((Below.refl w1.heap.size w1).alloc (Nat.le_refl _) (.cells #[.int .u8 c] 5))
  refine actH (i := 4) (w' := w1.alloc (.cells #[.int .u8 c] 5)) (some 13) rfl (.slice (some ⟨w1.heap.size, 0, none⟩) 1 1) (by kernel_rfl) rfl rfl (by kernel_rfl) K ?_
  simp only [aP, lI, l0, lS]
  have HC := catIn3 (w1.alloc (.cells #[.int .u8 c] 5)).heap.size lp ip (some ⟨w1.heap.size, 0, none⟩) ll il 1 lc ic 1 last inf (fun _ => c) 51 rfl (hsl.below K.below (Nat.le_refl _)) (hsi.below K.below (Nat.le_refl _)) H1 hln hin (fun e => by cases e)
  generalize w1.alloc (.cells #[.int .u8 c] 5) = w2 at K HC ⊢
  clear H1
  replace K := K.call ((Below.refl w2.heap.size w2).alloc (Nat.le_refl _) (.cells #[.slice lp ll lc, .slice ip il ic, .slice (some ⟨w1.heap.size, 0, none⟩) 1 1] 51))
  refine actH (i := 5) (w' := w2.alloc (.cells #[.slice lp ll lc, .slice ip il ic, .slice (some ⟨w1.heap.size, 0, none⟩) 1 1] 51)) (some 14) rfl (.slice (some ⟨w2.heap.size, 0, none⟩) 3 3) (by kernel_rfl) rfl rfl (by kernel_rfl) K ?_
  simp only [aP, lI, l0, lS]
  generalize (w2.alloc (.cells #[.slice lp ll lc, .slice ip il ic, .slice (some ⟨w1.heap.size, 0, none⟩) 1 1] 51)) = w3 at K HC ⊢
  refine callH (i := 6) (some 15) rfl (by kernel_rfl) rfl rfl (fun _ => by kernel_rfl) (concat_any ⟨w2.heap.size, 0, none⟩ 3 3 _ _ _ _ (by decide) (by rw [tot3]; omega) _ HC) ?_
  rintro e w4 ⟨v, rfl, O, l⟩
  replace K := K.call l
  clear l HC
  rw [tot3] at O
  replace O := O.congr (fun j _ => cat3k ll last il inf c j)
  obtain ⟨p3, c3, rfl, hc3, S3⟩ := O.bytes
  have hn3 := O.nilCap
  clear O
  refine ⟨_, rfl, K, ?_⟩
  simp only [aP, lI, l0, lS]
  refine callH (i := 7) (some 16) rfl (by kernel_rfl) rfl rfl (fun _ => by kernel_rfl) (bmac_any (some ⟨w.heap.size, 0, none⟩) 32 32 (by decide) (by decide) (fun e => by cases e) k hk p3 (ll + il + 1) c3 (by omega) hc3 hn3 _ (knx_in ll last il inf c hla hif hc) _ (hg.below K.below hg.size) (K.get _ _ _ _ mS).src0 S3) ?_
  rintro e w5 ⟨rfl, l⟩
  replace K := K.call l
  clear l S3
  refine ⟨_, rfl, K, ?_⟩
  simp only [aP, lI, l0, lS]
  have hz' := (K.room _ mS).1
  refine storesH (i := 8) none rfl .u8 32 (bmac 32 k (ll + il + 1) (knx ll last il inf c)) (w.heap.size + 1) 23 _ _ (by kernel_rfl) rfl rfl rfl rfl rfl (room_of hz') (key_info' _) (K.fill _ _ mS _) ?_
  simp only [Act.put]
  refine wpAnyH_done (by kernel_rfl) ?_ _
  have hB := (K.fill _ _ mS (row .u8 32 (bmac 32 k (ll + il + 1) (knx ll last il inf c)))).below
  clear K
  generalize hGe : bmac 32 k (ll + il + 1) (knx ll last il inf c) = G at *
  go_wp2
  exact bodyPost_ret (v := (.agg (row .u8 32 (G)).toArray)) (results_row Tryd.results27 rfl (Has.all hz' .u8 G).range Tryd.underlying23 rfl (key_info G)) rfl ⟨by first | rfl | rw [hGe] | (rw [← hGe]; done), hB⟩
theorem kfirst_any (k : Nat → Int) (hk : In 256 32 k) (s : ByteArray) (hsz : s.size ≤ 1000) (w : World) (hg : BGlob w) :
    Calls Tryd.prog 25 #[(.agg (row .u8 32 (k)).toArray), .string s] w fun e w' => e = .returned (.agg (row .u8 32 (kT k s.size (zs s) 1)).toArray) ∧ Below w.heap.size w w' := by
  have K := Kr.init w
  replace K := K.box .u8 32 k 23 (w.heap.size) rfl
  replace K := K.make 32 zu8_32 23 (w.heap.size + 1) (by simp) (key_zero _ _ _ (by simp)).there
  go_enter Tryd.func25, Tryd.ntmps25
  go_upto_region 1 with fail
  generalize ((w.alloc (.cells (row .u8 32 k).toArray 23)).alloc (.cells zu8_32 23)) = w0 at K ⊢
  refine wp_region_list ?_
  refine rowKL .u8 32 (k) (w.heap.size) 0 23 _ _ rfl rfl rfl Tryd.underlying23 rfl (key_info _) ((K.get _ _ _ _ mS).range) ?_
  simp only [aP, lI, l0, lS]
  refine pureL (.string s) rfl (fun _ => by kernel_rfl) ?_
  simp only [aP, lI, l0, lS]
  refine actL (w' := Lib.bytesWorld w0 5 s) (.slice (some ⟨w0.heap.size, 0, none⟩) s.size (grownCap w0 s.size 0 5)) rfl (convStr 9 51 5 _ s rfl rfl Tryd.underlying9 Tryd.underlying51 Tryd.underlying5) ?_
  simp only [aP, lI, l0, lS]
  have hs := bytes_src w0 5 s
  replace K := K.call (bytes_below w0 5 s)
  generalize Lib.bytesWorld w0 5 s = w1 at K hs ⊢
  generalize grownCap w0 s.size 0 5 = sc
  refine callL rfl (fun _ => by kernel_rfl) (knext_any k hk none 0 0 (by decide) (fun _ => rfl) (fun _ => 0) (fun _ hj => absurd hj (Nat.not_lt_zero _)) (some ⟨w0.heap.size, 0, none⟩) s.size sc (by omega) (fun e => by cases e) (zs s) (zs_in s _) 1 (by decide) _ (hg.below K.below hg.size) (fun j hj => absurd hj (Nat.not_lt_zero j)) hs) ?_
  rintro e w2 ⟨rfl, l⟩
  replace K := K.call l
  clear l hs
  rw [show bmac 32 k (0 + s.size + 1) (knx 0 (fun _ => 0) s.size (zs s) 1) = kT k s.size (zs s) 1 from rfl]
  refine ⟨_, rfl, ?_⟩
  simp only [aP, lI, l0, lS]
  have hz' := (K.room _ mS).1
  refine storesL .u8 32 (kT k s.size (zs s) 1) (w.heap.size + 1) 23 _ _ rfl rfl rfl rfl (room_of hz') (key_info' _) ?_
  simp only [Act.put]
  have hB := (K.fill _ _ mS (row .u8 32 (kT k s.size (zs s) 1))).below
  clear K
  generalize hGe : kT k s.size (zs s) 1 = G at *
  show Exit.then _ _ _ _ _
  go_wp2
  exact bodyPost_ret (v := (.agg (row .u8 32 (G)).toArray)) (results_row Tryd.results25 rfl (Has.all hz' .u8 G).range Tryd.underlying23 rfl (key_info G)) rfl ⟨by first | rfl | rw [hGe] | (rw [← hGe]; done), hB⟩
theorem klater_any (k : Nat → Int) (hk : In 256 32 k) (w : World) (hg : BGlob w) :
    Calls Tryd.prog 21 #[(.agg (row .u8 32 (k)).toArray)] w fun e w' => e = .returned (.agg (row .u8 32 (kT k 12 (zs sLater) 1)).toArray) ∧ Below w.heap.size w w' := by
  have K := Kr.init w
  replace K := K.box .u8 32 k 23 (w.heap.size) rfl
  replace K := K.make 32 zu8_32 23 (w.heap.size + 1) (by simp) (key_zero _ _ _ (by simp)).there
  go_enter Tryd.func21, Tryd.ntmps21
  go_upto_region 1 with fail
  generalize ((w.alloc (.cells (row .u8 32 k).toArray 23)).alloc (.cells zu8_32 23)) = w0 at K ⊢
  refine wp_region_list ?_
  refine rowKL .u8 32 (k) (w.heap.size) 0 23 _ _ rfl rfl rfl Tryd.underlying23 rfl (key_info _) ((K.get _ _ _ _ mS).range) ?_
  simp only [aP, lI, l0, lS]
  refine callL rfl (fun _ => by kernel_rfl) (kfirst_any k hk sLater (by decide) _ (hg.below K.below hg.size)) ?_
  rintro e w1 ⟨rfl, l⟩
  replace K := K.call l
  clear l
  refine ⟨_, rfl, ?_⟩
  rw [show sLater.size = 12 from rfl]
  simp only [aP, lI, l0, lS]
  have hz' := (K.room _ mS).1
  refine storesL .u8 32 (kT k 12 (zs sLater) 1) (w.heap.size + 1) 23 _ _ rfl rfl rfl rfl (room_of hz') (key_info' _) ?_
  simp only [Act.put]
  have hB := (K.fill _ _ mS (row .u8 32 (kT k 12 (zs sLater) 1))).below
  clear K
  generalize hGe : kT k 12 (zs sLater) 1 = G at *
  show Exit.then _ _ _ _ _
  go_wp2
  exact bodyPost_ret (v := (.agg (row .u8 32 (G)).toArray)) (results_row Tryd.results21 rfl (Has.all hz' .u8 G).range Tryd.underlying23 rfl (key_info G)) rfl ⟨by first | rfl | rw [hGe] | (rw [← hGe]; done), hB⟩
theorem kof_any (k : Nat → Int) (hk : In 256 32 k) (w : World) (hg : BGlob w) :
    Calls Tryd.prog 24 #[(.agg (row .u8 32 (k)).toArray)] w fun e w' => e = .returned (.agg (row .u8 32 (kT k 10 (zs sKey) 1)).toArray) ∧ Below w.heap.size w w' := by
  have K := Kr.init w
  replace K := K.box .u8 32 k 23 (w.heap.size) rfl
  replace K := K.make 32 zu8_32 23 (w.heap.size + 1) (by simp) (key_zero _ _ _ (by simp)).there
  go_enter Tryd.func24, Tryd.ntmps24
  go_upto_region 1 with fail
  generalize ((w.alloc (.cells (row .u8 32 k).toArray 23)).alloc (.cells zu8_32 23)) = w0 at K ⊢
  refine wp_region_list ?_
  refine rowKL .u8 32 (k) (w.heap.size) 0 23 _ _ rfl rfl rfl Tryd.underlying23 rfl (key_info _) ((K.get _ _ _ _ mS).range) ?_
  simp only [aP, lI, l0, lS]
  refine callL rfl (fun _ => by kernel_rfl) (kfirst_any k hk sKey (by decide) _ (hg.below K.below hg.size)) ?_
  rintro e w1 ⟨rfl, l⟩
  replace K := K.call l
  clear l
  refine ⟨_, rfl, ?_⟩
  rw [show sKey.size = 10 from rfl]
  simp only [aP, lI, l0, lS]
  have hz' := (K.room _ mS).1
  refine storesL .u8 32 (kT k 10 (zs sKey) 1) (w.heap.size + 1) 23 _ _ rfl rfl rfl rfl (room_of hz') (key_info' _) ?_
  simp only [Act.put]
  have hB := (K.fill _ _ mS (row .u8 32 (kT k 10 (zs sKey) 1))).below
  clear K
  generalize hGe : kT k 10 (zs sKey) 1 = G at *
  show Exit.then _ _ _ _ _
  go_wp2
  exact bodyPost_ret (v := (.agg (row .u8 32 (G)).toArray)) (results_row Tryd.results24 rfl (Has.all hz' .u8 G).range Tryd.underlying23 rfl (key_info G)) rfl ⟨by first | rfl | rw [hGe] | (rw [← hGe]; done), hB⟩
section
section
variable {P : Program} {ops : Array Oper} {Q : Exit → Act → World → Prop} {md : Region.Mode} {S S2 : World → Prop} {c : Nat}
theorem readC {i : Nat} {oi oc : Oper} (dst : Option Tmp) (hdst : oi.dst = dst) {n : Nat} {l : Array Bool} {a : Act} {w : World} (v : Value) (hi : ops[i]? = some oi) (hc : ops[c]? = some oc) (hwait : (oc.after.any fun e => Region.binds md e && e.on == i) = true)
    (hw : Region.wanted oi (yielded ops a.tmps) = true) (hv : ∀ w, S w → (execOp a.eval oi).run P w = .ok (.value v) w)
    (hs : Region.noSelect ops = true) (hf : Region.free md ops l i = true) (hl : l.getD c true = false) (hr : (Region.ready md ops l).contains i = true)
    (hQ : ∀ p a w, Q (.panic p) (a.put dst v) w → Q (.panic p) a w) (hS : S w)
    (h : wpAnyC P md ops Q S c n (l.setIfInBounds i true) (a.put dst v) w) : wpAnyC P md ops Q S c (n + 1) l a w := by
  subst hdst
  exact wpAnyC_take hi hc hwait hs hf hl hr hQ (.inl ⟨hw, hv⟩) hS h
theorem skipC (dst : Option Tmp) {oc : Oper} (hdst : oc.dst = dst) {n : Nat} {l : Array Bool} {a : Act} {w w' : World} (hr : Region.ready md ops l = [c]) (hi : ops[c]? = some oc)
    (hw : Region.wanted oc (yielded ops a.tmps) = true) (he : (execOp a.eval oc).run P w = .ok .skip w') (hl : (l.setIfInBounds c true).getD c true = true)
    (h : wpAnyH P md ops Q S2 n (l.setIfInBounds c true) (a.put dst undef) w') : wpAnyC P md ops Q S c (n + 1) l a w :=
  ⟨fun h0 => (by rw [h0] at hr; cases hr), fun j hj => by
    rw [hr] at hj
    obtain rfl := List.mem_singleton.1 hj
    unfold wpOp
    simp only [hi, hw, if_true]
    refine .inl ?_
    unfold Oper.wp
    rw [he]
    subst hdst
    exact ⟨fun hf => (by rw [hl] at hf; cases hf), wpAnyC_rest n _ _ _ hl (wpAny_of_held n _ _ _ h)⟩⟩
end
end
end Go.Proofs.YtckohmdmjhaknaaDoor
