/- Texts of Bv Bt Jz Ja, joined. -/
import Derived.Test.YtgfpflcoknpbdaaGreatDoorP6SymmetricPlays
import Derived.Test.YtgfpflcoknpbdaaGreatDoorP10SymmetricPlays
import Derived.Test.YtgfpflcoknpbdaaGreatDoorP5SymmetricPlays
import Derived.Test.YtgfpflcoknpbdaaGreatDoorP9SymmetricPlays
import Derived.Test.YtgfpflcoknpbdaaGreatDoorP1SymmetricPlays
set_option maxRecDepth 20000
set_option maxHeartbeats 64000000
namespace Go.Proofs.YtgfpflcoknpbdaaGreatDoor
open Go.RowKit
theorem bidxK (b i : Nat) (hi : i < 32) (w : World) {o : Oper} {a : Act} (x y : Operand) (ho : o.op = .indexAddr 38 x y) (hx : a.eval x = .pointer (some ⟨b, 0, none⟩)) (hy : a.eval y = .int .i64 (i : Int)) :
    (execOp a.eval o).run Tryz.prog w = .ok (.value (.pointer (some ⟨b, i, none⟩))) w := by
  have h := idxArr (P := Tryz.prog) 38 5 32 .i64 b 0 i x y Tryz.underlying38 (fun _ => by kernel_rfl) hi ho hx hy w
  rw [Nat.zero_add] at h
  exact h
theorem refHash_any (sp : Option Addr) (len cap : Nat) (hlen : len ≤ 140737488355072) (hn0 : sp = none → cap = 0) (z : Nat → Int) (hz : In 256 len z) (w : World) (hs : Src w sp len z) :
    Calls Tryz.prog 22 #[.slice sp len cap] w fun e w' => e = .returned (.agg (row .u8 32 (bhash len z)).toArray) ∧ Below w.heap.size w w' := by
  have K := Kr.init w
  replace K := K.make 32 zu8_32 38 (w.heap.size) rfl (key_zero _ _ _ rfl).there
  go_enter Tryz.func22, Tryz.ntmps22
  go_upto_region 1 with fail
  generalize (w.alloc (.cells zu8_32 38)) = w0 at K ⊢
  refine wp_region_list ?_
  refine pureL (.slice sp len cap) rfl (fun _ => by kernel_rfl) ?_
  simp only [aP, lI, l0, lS]
  refine callL rfl (fun _ => by kernel_rfl) (refSum_good none 0 0 (fun _ => 0) (by omega) (fun _ hj => absurd hj (Nat.not_lt_zero _)) (fun _ => rfl) 32 (by omega) (by omega) sp len cap hlen hn0 z hz _ (fun _ hj => absurd hj (Nat.not_lt_zero _)) (hs.below K.below (Nat.le_refl _))) ?_
  rintro e w1 ⟨tp, tc, rfl, ⟨_, hsrc⟩, l⟩
  replace K := K.call l
  clear l
  refine ⟨_, rfl, ?_⟩
  simp only [aP, lI, l0, lS]
  refine pureL (.tuple #[.slice tp 32 tc, .int .i64 0]) rfl (fun _ => by kernel_rfl) ?_
  simp only [aP, lI, l0, lS]
  refine pureL (.slice tp 32 tc) rfl (fun _ => by kernel_rfl) ?_
  simp only [aP, lI, l0, lS]
  refine pureL (.int .i64 0) rfl (fun _ => by kernel_rfl) ?_
  simp only [aP, lI, l0, lS]
  refine pureL (.slice tp 32 tc) rfl (fun _ => by kernel_rfl) ?_
  simp only [aP, lI, l0, lS]
  refine pureL (.int .i64 0) rfl (fun _ => by kernel_rfl) ?_
  simp only [aP, lI, l0, lS]
  show Exit.then _ _ _ _ _
  go_upto_region 2 with fail
  refine wp_region_list ?_
  refine pureL (.agg (row .u8 32 (fun _ => 0)).toArray) rfl (fun _ => by kernel_rfl) ?_
  simp only [aP, lI, l0, lS]
  refine allocL zu8_32 38 rfl (fun _ => by kernel_rfl) ?_
  simp only [aP, lI, l0, lS]
  refine storesL .u8 32 (fun _ => 0) w1.heap.size 38 _ _ rfl rfl rfl rfl (room_of (key_zero _ _ _ rfl).there) (key_info' _) ?_
  simp only [Act.put]
  have K1 := (Kr.init w1).fresh .u8 32 (fun _ => 0) zu8_32 38 (key_zero _ _ _ rfl).there
  generalize ((w1.alloc (.cells zu8_32 38)).setCells w1.heap.size 0 (row .u8 32 (fun _ => 0))) = w2 at K1 ⊢
  show Exit.then _ _ _ _ _
  go_wp2
  go_loopw [6] (fun i w' => ∃ (m : Nat) (f : Nat → Int), m ≤ 32 ∧ i = .int .i64 m ∧ Kr w1 (w1.heap.size + 1) [(w1.heap.size, .u8, 32, f)] [] w' ∧ ∀ j, j < m → f j = bhash len z j) (fun i _ => 32 - (intOf i).toNat)
  case atStart => exact ⟨0, _, by omega, rfl, K1, fun j hj => absurd hj (Nat.not_lt_zero j)⟩
  case round =>
    clear K1
    obtain ⟨m, f, hm, rfl, K1, hf⟩ := hrel
    have g1 : (0 : Int) ≤ (m : Int) := by omega
    by_cases hlt : m < 32
    · have g2 : (m : Int) < 32 := by omega
      obtain ⟨ad, rfl, hc⟩ := (hsrc.below K1.below (Nat.le_refl _)) m hlt
      go_upto_region 6 with fail
      refine wp_region_list ?_
      refine pureL (.int .i64 (m : Int)) rfl (fun _ => by kernel_rfl) ?_
      simp only [aP, lI, l0, lS]
      refine pureL (.slice (some ad) 32 tc) rfl (fun _ => by kernel_rfl) ?_
      simp only [aP, lI, l0, lS]
      refine pureL (.int .i64 (m : Int)) rfl (fun _ => by kernel_rfl) ?_
      simp only [aP, lI, l0, lS]
      refine pureL (.pointer (some (ad.add m))) rfl (fun w => idxSl 28 5 32 tc .i64 ad m _ _ Tryz.underlying28 (fun _ => by kernel_rfl) hlt rfl rfl rfl w) ?_
      simp only [aP, lI, l0, lS]
      refine readL (.int .u8 (bhash len z m)) rfl (loadAny 5 .u8 _ (ad.add m) _ rfl rfl Tryz.underlying5 hc) ?_
      simp only [aP, lI, l0, lS]
      refine pureL (.pointer (some ⟨w1.heap.size, m, none⟩)) rfl (fun w' => bidxK w1.heap.size m hlt w' _ _ rfl rfl rfl) ?_
      simp only [aP, lI, l0, lS]
      refine storeL .u8 (bhash len z m) w1.heap.size m 5 _ _ rfl rfl rfl rfl (by rw [(K1.get _ _ _ _ mS).cell m hlt]; rfl) ((K1.get _ _ _ _ mS).free m hlt) (by kernel_rfl) ?_
      simp only [Act.put]
      replace K1 := K1.setCell [] w1.heap.size .u8 32 f m hlt (bhash len z m) mS (fun _ hp => by cases hp) (fun _ hp => by cases hp) (Nat.le_refl _)
      have HS := show Hid _ from (And.intro K1 (show ∀ j, j < m + 1 → upd f m (bhash len z m) j = bhash len z j from fun j hj => by
        by_cases e : j = m
        · subst e; rw [upd_same]
        · rw [upd_other _ _ _ _ e]; exact hf j (by omega)))
      clear K1 hf hc
      generalize wr.setCell ⟨w1.heap.size, m, none⟩ (.int .u8 (bhash len z m)) = w3 at HS ⊢
      show Exit.inBlock _ _ _ _ _
      go_wp2
      go_roundw
      case rel => first | exact ⟨m + 1, _, by omega, by go_num, HS.out⟩ | ((repeat apply Exists.intro); refine ⟨⟨m + 1, _, by omega, by go_num, HS.out⟩, rfl⟩)
      case measure => simp [intOf]; omega
    · obtain rfl : m = 32 := by omega
      replace K := K.call K1.below
      have HR := (K1.get _ _ _ _ mS).congr (g := bhash len z) hf
      have hz' := (K.room _ mS).1
      have hB := (K.fill _ _ mS (row .u8 32 (bhash len z))).below
      clear K K1 hf hlt hm g1 hsrc
      generalize hj : bhash len z = f at *
      go_wp2_with (first | (refine wpList_load_mid rfl 38 _ rfl (w1.heap.size) 0 rfl (row .u8 32 (f)) _ (Has.range (HR)) Tryz.underlying38 rfl (key_info _) ?_) | (refine wpList_store_mid rfl 38 _ _ rfl (w.heap.size) 0 (row .u8 32 f).toArray rfl rfl (room_of hz') (key_info' _) (all_oneCell_toArray (row_one _ _ _)) ?_))
      exact bodyPost_ret (v := (.agg (row .u8 32 (f)).toArray)) (results_row Tryz.results22 rfl (Has.all hz' .u8 f).range Tryz.underlying38 rfl (key_info f)) rfl ⟨rfl, hB⟩
structure Two8 (w : World) (B n : Nat) (f : Nat → Int) (a : Value) (m : Nat) (g : Nat → Int) (b : Value) : Prop where
  one : Own w B 5 .u8 n f a
  two : Own w B 5 .u8 m g b
  ne : a.ownBlock ≠ b.ownBlock
theorem Two8.symm {w : World} {B n : Nat} {f : Nat → Int} {a : Value} {m : Nat} {g : Nat → Int} {b : Value} (h : Two8 w B n f a m g b) : Two8 w B m g b n f a := ⟨h.two, h.one, fun e => h.ne e.symm⟩
theorem Two8.more {w' : World} {B n : Nat} {f : Nat → Int} {a : Value} {m : Nat} {g : Nat → Int} {b : Value} (h : Two8 w' B n f a m g b) (hn : n < 140737488355328) (x : Int) (hx : f n = x) (ty : TypeId) (hb : B ≤ w'.heap.size) :
    ∃ v w'', (Builtin.append_ #[28, 28] ty #[a, .slice (some ⟨w'.heap.size, 0, none⟩) 1 1]).run Tryz.prog (w'.alloc (.cells #[.int .u8 x] 5)) = .ok v w'' ∧ Two8 w'' B (n + 1) f v m g b ∧ (w'.alloc (.cells #[.int .u8 x] 5)).grownBy w'' a.ownBlock := by
  have H1 := Has.new w' .u8 1 (fun _ => x) 5 w'.heap.size rfl
  obtain ⟨v, w'', hr, ho, hg, hw⟩ := run_append_Own (P := Tryz.prog) (ty := ty) Tryz.underlying28 one8 (h.one.alloc (.cells (row .u8 1 (fun _ => x)).toArray 5)) (some ⟨w'.heap.size, 0, none⟩) 1 1 (fun _ => x) (fun j hj => ⟨_, rfl, by rw [Addr.add_mid, Nat.zero_add]; exact H1.cell j hj⟩) (fun e => by cases e) (by unfold maxLen; omega) (by omega) (by simp; omega)
  refine ⟨v, w'', hr, ⟨ho.congr fun j hj => ?_, World.ownsRow.kept (h.two.alloc _) hg (.inr fun e => h.ne e.symm), fun e => ?_⟩, hg⟩
  · unfold app
    by_cases e : j < n
    · rw [if_pos e]
    · rw [if_neg e, ← hx, show j = n by omega]
  · obtain ⟨q, cap, rfl, _⟩ := ho.has (by omega)
    rcases hw q rfl with h1 | h1
    · exact h.ne (h1.trans e)
    · have := (World.ownsRow.lt h.two q e.symm).2
      simp at h1
      omega
theorem refMac_any (kp : Option Addr) (kl kc : Nat) (hkl : kl ≤ 140737488355072) (hkn : kp = none → kc = 0) (key : Nat → Int) (hk : In 256 kl key) (sp : Option Addr) (len cap : Nat) (hlen : len ≤ 140737488354816) (hn0 : sp = none → cap = 0) (z : Nat → Int) (hz : In 256 len z) (w : World) (hks : Src w kp kl key) (hs : Src w sp len z) :
    Calls Tryz.prog 38 #[.slice kp kl kc, .slice sp len cap] w fun e w' => e = .returned (.agg (row .u8 32 (bmac kl key len z)).toArray) ∧ Below w.heap.size w w' := by
  have K := Kr.init w
  replace K := K.make 32 zu8_32 38 (w.heap.size) rfl (key_zero _ _ _ rfl).there
  go_enter Tryz.func38, Tryz.ntmps38
  go_upto_region 1 with fail
  generalize (w.alloc (.cells zu8_32 38)) = w0 at K ⊢
  refine wp_region_list ?_
  refine actL (w' := w0.alloc (.cells #[] 5)) (.slice (some ⟨w0.heap.size, 0, none⟩) 0 0) rfl (by kernel_rfl) ?_
  simp only [aP, lI, l0, lS]
  refine pureL (.slice kp kl kc) rfl (fun _ => by kernel_rfl) ?_
  simp only [aP, lI, l0, lS]
  have hO : Own (w0.alloc (.cells #[] 5)) (w.heap.size + 1) 5 .u8 0 key (.slice (some ⟨w0.heap.size, 0, none⟩) 0 0) := Own.lit w0 (w.heap.size + 1) 5 .u8 0 key K.size (by unfold maxLen; omega)
  replace K := K.call ((Below.refl w0.heap.size w0).alloc (Nat.le_refl _) (.cells #[] 5))
  generalize w0.alloc (.cells #[] 5) = w1 at K hO ⊢
  obtain ⟨v, w2, hr, ho, hg, _⟩ := run_append_Own (P := Tryz.prog) (ty := 28) Tryz.underlying28 one8 hO kp kl kc key (hks.below K.below (Nat.le_refl _)) hkn (by unfold maxLen; omega) (by omega) K.size
  replace K := K.grown hg (fun b hb => (World.ownsRow.lt hO b hb).1)
  refine actL v rfl (appendOp _ _ 28 _ _ _ rfl rfl rfl hr) ?_
  simp only [aP, lI, l0, lS]
  refine pureL v rfl (fun _ => by kernel_rfl) ?_
  simp only [aP, lI, l0, lS]
  replace hO : Own w2 (w.heap.size + 1) 5 .u8 kl key v := by
    rw [Nat.zero_add] at ho
    exact ho.congr fun j hj => by unfold app; rw [if_neg (by omega), Nat.sub_zero]
  clear hr ho hg
  obtain ⟨ts, tc, rfl, htc, hts⟩ := hO.bytes
  show Exit.then _ _ _ _ _
  by_cases hl : kl ≤ 64
  · have h1 : ¬ (64 : Int) < (kl : Int) := by omega
    have h2 : ¬ (65 : Int) ≤ (kl : Int) := by omega
    have HT : Own w2 (w.heap.size + 1) 5 .u8 kl (bkk kl key) (.slice ts kl tc) := hO.congr fun j hj => by unfold bkk; rw [if_pos hl, if_pos hj]
    have hpad : ∀ n, kl ≤ n → bkk kl key n = 0 := fun n hn => by unfold bkk; rw [if_pos hl, if_neg (by omega)]
    clear hO hts
    go_wp2
    go_loopw [5] (fun tw w' => ∃ (n : Nat) (v : Value), v = tw ∧ kl ≤ n ∧ n ≤ 64 ∧ Own w' (w.heap.size + 1) 5 .u8 n (bkk kl key) v ∧ Kr w (w.heap.size + 1) [] [(w.heap.size, 32)] w') (fun tw _ => 64 - slen tw)
    case atStart => exact ⟨_, _, rfl, Nat.le_refl _, by omega, HT, K⟩
    case round =>
      clear K HT
      obtain ⟨n, v, rfl, hn1, hn2, HT, K⟩ := hrel
      obtain ⟨us, uc, rfl, huc, hus⟩ := HT.bytes
      by_cases hlt : n < 64
      · have g1 : (n : Int) < 64 := by omega
        go_upto_region 6 with fail
        refine wp_region_list ?_
        refine pureL (.slice us n uc) rfl (fun _ => by kernel_rfl) ?_
        simp only [aP, lI, l0, lS]
        refine actL (w' := wr.alloc (.cells #[.int .u8 0] 5)) (.slice (some ⟨wr.heap.size, 0, none⟩) 1 1) rfl (by kernel_rfl) ?_
        simp only [aP, lI, l0, lS]
        obtain ⟨v, w5, hr, ho, hg⟩ := HT.more8 (by omega) 0 (hpad n hn1) 28 K.size
        replace K := (K.call ((Below.refl wr.heap.size wr).alloc (Nat.le_refl _) (.cells #[.int .u8 0] 5))).grown hg (fun b hb => (World.ownsRow.lt HT b hb).1)
        refine actL v rfl (appendOp _ _ 28 _ _ _ rfl rfl rfl hr) ?_
        simp only [aP, lI, l0, lS]
        refine pureL v rfl (fun _ => by kernel_rfl) ?_
        simp only [aP, lI, l0, lS]
        show Exit.inBlock _ _ _ _ _
        obtain ⟨ts2, tc2, rfl, _, _⟩ := ho.bytes
        have HS := show Hid _ from (And.intro ho K)
        clear HT K hr ho hg hus
        go_wp2
        go_roundw
        case rel => first | exact ⟨n + 1, _, rfl, by omega, by omega, HS.out⟩ | ((repeat apply Exists.intro); refine ⟨⟨n + 1, _, rfl, by omega, by omega, HS.out⟩, rfl⟩)
        case measure => simp [slen]; omega
      · obtain rfl : n = 64 := by omega
        obtain ⟨G, _, hve, hG1, hG2, HG⟩ := HT.has (by omega)
        injection hve with hve1 _ hve3
        subst hve1 hve3
        replace K := K.own hG1 hG2 HG
        clear HG HT hus hpad hlt hn1 hn2
        go_upto_region 7 with fail
        refine wp_region_list ?_
        refine actL (w' := wr.alloc (.cells #[] 5)) (.slice (some ⟨wr.heap.size, 0, none⟩) 0 0) rfl (by kernel_rfl) ?_
        simp only [aP, lI, l0, lS]
        refine pureL (.slice (some ⟨wr.heap.size, 0, none⟩) 0 0) rfl (fun _ => by kernel_rfl) ?_
        simp only [aP, lI, l0, lS]
        show Exit.then _ _ _ _ _
        go_upto_region 8 with fail
        refine wp_region_list ?_
        refine actL (w' := (wr.alloc (.cells #[] 5)).alloc (.cells #[] 5)) (.slice (some ⟨(wr.alloc (.cells #[] 5)).heap.size, 0, none⟩) 0 0) rfl (by kernel_rfl) ?_
        simp only [aP, lI, l0, lS]
        refine pureL (.slice (some ⟨(wr.alloc (.cells #[] 5)).heap.size, 0, none⟩) 0 0) rfl (fun _ => by kernel_rfl) ?_
        simp only [aP, lI, l0, lS]
        have H2 : Two8 ((wr.alloc (.cells #[] 5)).alloc (.cells #[] 5)) wr.heap.size 0 (bxx 54 (bkk kl key)) (.slice (some ⟨wr.heap.size, 0, none⟩) 0 0) 0 (bxx 92 (bkk kl key)) (.slice (some ⟨(wr.alloc (.cells #[] 5)).heap.size, 0, none⟩) 0 0) :=
          ⟨Own.alloc (Own.lit wr wr.heap.size 5 .u8 0 _ (Nat.le_refl _) (by unfold maxLen; omega)) _, Own.lit (wr.alloc (.cells #[] 5)) wr.heap.size 5 .u8 0 _ (by simp) (by unfold maxLen; omega), fun e => by injection e with e; simp at e⟩
        replace K := (K.call ((Below.refl wr.heap.size wr).alloc (Nat.le_refl _) (.cells #[] 5))).call ((Below.refl _ _).alloc (Nat.le_refl _) (.cells #[] 5))
        generalize (wr.alloc (.cells #[] 5)).alloc (.cells #[] 5) = w6 at K H2 ⊢
        generalize Value.slice (some ⟨(wr.alloc (.cells #[] 5)).heap.size, 0, none⟩) 0 0 = vb at H2 ⊢
        generalize Value.slice (some ⟨wr.heap.size, 0, none⟩) 0 0 = va at H2 ⊢
        generalize wr.heap.size = Q at K H2
        show Exit.then _ _ _ _ _
        go_wp2
        go_loopw [7, 8, 9] (fun aw bw i w' => ∃ (n : Nat) (va vb : Value), n ≤ 64 ∧ va = aw ∧ vb = bw ∧ i = .int .i64 (n : Int) ∧ Two8 w' Q n (bxx 54 (bkk kl key)) va n (bxx 92 (bkk kl key)) vb ∧ Kr w Q [(G, .u8, 64, bkk kl key)] [(w.heap.size, 32)] w') (fun _ _ i _ => 64 - (intOf i).toNat)
        case atStart => exact ⟨0, _, _, by omega, rfl, rfl, rfl, H2, K⟩
        case round =>
          clear K H2
          obtain ⟨n, va, vb, hn, rfl, rfl, rfl, H2, K⟩ := hrel
          have g1 : (0 : Int) ≤ (n : Int) := by omega
          by_cases hlt : n < 64
          · have g2 : (n : Int) < 64 := by omega
            go_upto_region 12 with fail
            refine wp_region_list ?_
            refine pureL va rfl (fun _ => by kernel_rfl) ?_
            simp only [aP, lI, l0, lS]
            refine pureL (.slice (some ⟨G, 0, none⟩) 64 uc) rfl (fun _ => by kernel_rfl) ?_
            simp only [aP, lI, l0, lS]
            refine pureL (.int .i64 (n : Int)) rfl (fun _ => by kernel_rfl) ?_
            simp only [aP, lI, l0, lS]
            refine pureL (.pointer (some ⟨G, n, none⟩)) rfl (fun w' => idxO G 64 uc n hlt w' _ _ rfl rfl rfl) ?_
            simp only [aP, lI, l0, lS]
            refine cellL .u8 (.int .u8 (bkk kl key n)) G n 5 _ rfl rfl rfl Tryz.underlying5 ((K.get _ _ _ _ mS).cell n hlt) ?_
            simp only [aP, lI, l0, lS]
            refine pureL (.int .u8 (bxx 54 (bkk kl key) n)) rfl (fun w => xorI .u8 _ _ _ _ _ _ _ rfl rfl rfl rfl w) ?_
            simp only [aP, lI, l0, lS]
            refine actL (w' := wr.alloc (.cells #[.int .u8 (bxx 54 (bkk kl key) n)] 5)) (.slice (some ⟨wr.heap.size, 0, none⟩) 1 1) rfl (by kernel_rfl) ?_
            simp only [aP, lI, l0, lS]
            obtain ⟨va1, w7, hr, h2, hg⟩ := H2.more (by omega) (bxx 54 (bkk kl key) n) rfl 28 K.size
            replace K := (K.call ((Below.refl wr.heap.size wr).alloc (Nat.le_refl _) (.cells #[.int .u8 (bxx 54 (bkk kl key) n)] 5))).grown hg (fun b hb => (World.ownsRow.lt H2.one b hb).1)
            refine actL va1 rfl (appendOp _ _ 28 _ _ _ rfl rfl rfl hr) ?_
            simp only [aP, lI, l0, lS]
            refine pureL va1 rfl (fun _ => by kernel_rfl) ?_
            simp only [aP, lI, l0, lS]
            replace H2 := h2.symm
            clear hr hg h2
            show Exit.then _ _ _ _ _
            go_upto_region 13 with fail
            refine wp_region_list ?_
            refine pureL vb rfl (fun _ => by kernel_rfl) ?_
            simp only [aP, lI, l0, lS]
            refine pureL (.slice (some ⟨G, 0, none⟩) 64 uc) rfl (fun _ => by kernel_rfl) ?_
            simp only [aP, lI, l0, lS]
            refine pureL (.int .i64 (n : Int)) rfl (fun _ => by kernel_rfl) ?_
            simp only [aP, lI, l0, lS]
            refine pureL (.pointer (some ⟨G, n, none⟩)) rfl (fun w' => idxO G 64 uc n hlt w' _ _ rfl rfl rfl) ?_
            simp only [aP, lI, l0, lS]
            refine cellL .u8 (.int .u8 (bkk kl key n)) G n 5 _ rfl rfl rfl Tryz.underlying5 ((K.get _ _ _ _ mS).cell n hlt) ?_
            simp only [aP, lI, l0, lS]
            refine pureL (.int .u8 (bxx 92 (bkk kl key) n)) rfl (fun w => xorI .u8 _ _ _ _ _ _ _ rfl rfl rfl rfl w) ?_
            simp only [aP, lI, l0, lS]
            refine actL (w' := w7.alloc (.cells #[.int .u8 (bxx 92 (bkk kl key) n)] 5)) (.slice (some ⟨w7.heap.size, 0, none⟩) 1 1) rfl (by kernel_rfl) ?_
            simp only [aP, lI, l0, lS]
            obtain ⟨vb1, w8, hr, h2, hg⟩ := H2.more (by omega) (bxx 92 (bkk kl key) n) rfl 28 K.size
            replace K := (K.call ((Below.refl w7.heap.size w7).alloc (Nat.le_refl _) (.cells #[.int .u8 (bxx 92 (bkk kl key) n)] 5))).grown hg (fun b hb => (World.ownsRow.lt H2.one b hb).1)
            refine actL vb1 rfl (appendOp _ _ 28 _ _ _ rfl rfl rfl hr) ?_
            simp only [aP, lI, l0, lS]
            refine pureL vb1 rfl (fun _ => by kernel_rfl) ?_
            simp only [aP, lI, l0, lS]
            replace H2 := h2.symm
            clear hr hg h2
            show Exit.inBlock _ _ _ _ _
            have HS := show Hid _ from (And.intro H2 K)
            clear H2 K
            go_wp2
            go_roundw
            case rel => first | exact ⟨n + 1, _, _, by omega, rfl, rfl, by go_num, HS.out⟩ | ((repeat apply Exists.intro); refine ⟨⟨n + 1, _, _, by omega, rfl, rfl, by go_num, HS.out⟩, rfl⟩)
            case measure => simp [intOf]; omega
          · obtain rfl : n = 64 := by omega
            clear hlt hn g1
            have hk64 := bkk_in kl key hk 64
            go_upto_region 14 with fail
            refine wp_region_list ?_
            refine pureL va rfl (fun _ => by kernel_rfl) ?_
            simp only [aP, lI, l0, lS]
            refine pureL (.slice sp len cap) rfl (fun _ => by kernel_rfl) ?_
            simp only [aP, lI, l0, lS]
            obtain ⟨v1, w7, hr, ho, hg, _⟩ := run_append_Own (P := Tryz.prog) (ty := 28) Tryz.underlying28 one8 H2.one sp len cap z (hs.below K.below (Nat.le_refl _)) hn0 (by unfold maxLen; omega) (by omega) K.size
            replace K := K.grown hg (fun b hb => (World.ownsRow.lt H2.one b hb).1)
            have hob : Own w7 Q 5 .u8 64 (bxx 92 (bkk kl key)) vb := World.ownsRow.kept H2.two hg (.inr fun e => H2.ne e.symm)
            refine actL v1 rfl (appendOp _ _ 28 _ _ _ rfl rfl rfl hr) ?_
            simp only [aP, lI, l0, lS]
            obtain ⟨ip, ic, rfl, hic, his⟩ := ho.bytes
            refine callL rfl (fun _ => by kernel_rfl) (refHash_any ip (64 + len) ic (by omega) ho.nilCap (app (bxx 54 (bkk kl key)) 64 z) (app_in 64 len _ _ (bxx_in 54 (by decide) _ 64 hk64) hz) _ his) ?_
            rintro e w8 ⟨rfl, l⟩
            replace K := K.call l
            replace hob := hob.below l
            clear l H2 ho hr hg his
            refine ⟨_, rfl, ?_⟩
            simp only [aP, lI, l0, lS]
            obtain ⟨hi, hhi⟩ : ∃ f, f = bhash (64 + len) (app (bxx 54 (bkk kl key)) 64 z) := ⟨_, rfl⟩
            rw [← hhi]
            replace hhi := show Hid _ from hhi
            refine allocL zu8_32 38 rfl (fun _ => by kernel_rfl) ?_
            simp only [aP, lI, l0, lS]
            refine storesL .u8 32 hi w8.heap.size 38 _ _ rfl rfl rfl rfl (room_of (key_zero _ _ _ rfl).there) (key_info' _) ?_
            simp only [Act.put]
            have zT := K.size
            have hQ1 : w.heap.size < Q := (K.room _ mS).2.1
            have hbl : Below w8.heap.size w8 ((w8.alloc (.cells zu8_32 38)).setCells w8.heap.size 0 (row .u8 32 hi)) := below_setAll ((Below.refl w8.heap.size w8).alloc (Nat.le_refl _) _) _ (Nat.le_refl _) 0 _
            replace hob := hob.below hbl
            replace K := K.fresh .u8 32 hi zu8_32 38 (key_zero _ _ _ rfl).there
            clear hbl
            generalize ((w8.alloc (.cells zu8_32 38)).setCells w8.heap.size 0 (row .u8 32 hi)) = w9 at K hob ⊢
            generalize w8.heap.size = T at *
            show Exit.then _ _ _ _ _
            go_upto_region 15 with fail
            refine wp_region_list ?_
            refine pureL vb rfl (fun _ => by kernel_rfl) ?_
            simp only [aP, lI, l0, lS]
            refine pureL (.slice (some ⟨T, 0, none⟩) 32 32) rfl (fun _ => by kernel_rfl) ?_
            simp only [aP, lI, l0, lS]
            obtain ⟨v2, w10, hr, ho, hg, _⟩ := run_append_Own (P := Tryz.prog) (ty := 28) Tryz.underlying28 one8 hob (some ⟨T, 0, none⟩) 32 32 hi (fun j hj => ⟨_, rfl, by rw [Addr.add_mid, Nat.zero_add]; exact (K.get _ _ _ _ mS).cell j hj⟩) (fun e => by cases e) (by unfold maxLen; omega) (by omega) (by have := K.size; omega)
            replace K := (K.back [] Q (fun _ hp => by cases hp) (fun _ hp => by cases hp) (fun q hq => by obtain rfl := List.mem_singleton.1 hq; simp only; omega) (by omega) (by omega)).grown hg (fun b hb => (World.ownsRow.lt hob b hb).1)
            refine actL v2 rfl (appendOp _ _ 28 _ _ _ rfl rfl rfl hr) ?_
            simp only [aP, lI, l0, lS]
            obtain ⟨op, oc, rfl, hoc, hos⟩ := ho.bytes
            have hhi2 := hhi.out
            refine callL rfl (fun _ => by kernel_rfl) (refHash_any op 96 oc (by omega) ho.nilCap (app (bxx 92 (bkk kl key)) 64 hi) (app_in 64 32 _ _ (bxx_in 92 (by decide) _ 64 hk64) (by rw [hhi2]; exact bhash_in _ _ _)) _ hos) ?_
            rintro e w11 ⟨rfl, l⟩
            replace K := K.call l
            clear l ho hr hg hos hob
            refine ⟨_, rfl, ?_⟩
            simp only [aP, lI, l0, lS]
            have hz' := (K.room _ mS).1
            have hB := (K.fill _ _ mS (row .u8 32 (bhash 96 (app (bxx 92 (bkk kl key)) 64 hi)))).below
            have hres : bhash 96 (app (bxx 92 (bkk kl key)) 64 hi) = bmac kl key len z := by rw [hhi2]; rfl
            rw [hres] at hB ⊢
            clear K hhi2 hres
            generalize hj : bmac kl key len z = f at *
            refine storesL .u8 32 f (w.heap.size) 38 _ _ rfl rfl rfl rfl (room_of hz') (key_info' _) ?_
            simp only [Act.put]
            show Exit.then _ _ _ _ _
            go_wp2
            exact bodyPost_ret (v := (.agg (row .u8 32 (f)).toArray)) (results_row Tryz.results38 rfl (Has.all hz' .u8 f).range Tryz.underlying38 rfl (key_info f)) rfl ⟨rfl, hB⟩
  · have h1 : (64 : Int) < (kl : Int) := by omega
    have h2 : (65 : Int) ≤ (kl : Int) := by omega
    go_upto_region 3 with fail
    refine wp_region_list ?_
    refine pureL (.slice ts kl tc) rfl (fun _ => by kernel_rfl) ?_
    simp only [aP, lI, l0, lS]
    refine callL rfl (fun _ => by kernel_rfl) (refHash_any ts kl tc (by omega) hO.nilCap key hk _ hts) ?_
    rintro e w3 ⟨rfl, l⟩
    replace K := K.call l
    clear l hO hts
    refine ⟨_, rfl, ?_⟩
    simp only [aP, lI, l0, lS]
    refine allocL zu8_32 38 rfl (fun _ => by kernel_rfl) ?_
    simp only [aP, lI, l0, lS]
    refine storesL .u8 32 (bhash kl key) w3.heap.size 38 _ _ rfl rfl rfl rfl (room_of (key_zero _ _ _ rfl).there) (key_info' _) ?_
    simp only [Act.put]
    have zT := K.size
    replace K := K.fresh .u8 32 (bhash kl key) zu8_32 38 (key_zero _ _ _ rfl).there
    generalize ((w3.alloc (.cells zu8_32 38)).setCells w3.heap.size 0 (row .u8 32 (bhash kl key))) = w4 at K ⊢
    generalize w3.heap.size = T at *
    show Exit.then _ _ _ _ _
    go_upto_region 4 with fail
    refine wp_region_list ?_
    refine actL (w' := w4.alloc (.cells #[] 5)) (.slice (some ⟨w4.heap.size, 0, none⟩) 0 0) rfl (by kernel_rfl) ?_
    simp only [aP, lI, l0, lS]
    refine pureL (.slice (some ⟨T, 0, none⟩) 32 32) rfl (fun _ => by kernel_rfl) ?_
    simp only [aP, lI, l0, lS]
    have hO : Own (w4.alloc (.cells #[] 5)) (T + 1) 5 .u8 0 key (.slice (some ⟨w4.heap.size, 0, none⟩) 0 0) := Own.lit w4 (T + 1) 5 .u8 0 key K.size (by unfold maxLen; omega)
    replace K := K.call ((Below.refl w4.heap.size w4).alloc (Nat.le_refl _) (.cells #[] 5))
    generalize w4.alloc (.cells #[] 5) = w5 at K hO ⊢
    obtain ⟨v, w6, hr, ho, hg, _⟩ := run_append_Own (P := Tryz.prog) (ty := 28) Tryz.underlying28 one8 hO (some ⟨T, 0, none⟩) 32 32 (bhash kl key) (fun j hj => ⟨_, rfl, by rw [Addr.add_mid, Nat.zero_add]; exact (K.get _ _ _ _ mS).cell j hj⟩) (fun e => by cases e) (by unfold maxLen; omega) (by omega) K.size
    replace K := (K.sub [] (fun _ hp => by cases hp)).grown hg (fun b hb => (World.ownsRow.lt hO b hb).1)
    refine actL v rfl (appendOp _ _ 28 _ _ _ rfl rfl rfl hr) ?_
    simp only [aP, lI, l0, lS]
    refine pureL v rfl (fun _ => by kernel_rfl) ?_
    simp only [aP, lI, l0, lS]
    have HT : Own w6 (T + 1) 5 .u8 32 (bkk kl key) v := by
      rw [Nat.zero_add] at ho
      exact ho.congr fun j hj => by unfold app bkk; rw [if_neg (by omega), if_neg hl, if_pos hj, Nat.sub_zero]
    have hpad : ∀ n, 32 ≤ n → bkk kl key n = 0 := fun n hn => by unfold bkk; rw [if_neg hl, if_neg (by omega)]
    clear hr ho hg hO
    show Exit.then _ _ _ _ _
    go_wp2
    go_loopw [5] (fun tw w' => ∃ (n : Nat) (v : Value), v = tw ∧ 32 ≤ n ∧ n ≤ 64 ∧ Own w' (T + 1) 5 .u8 n (bkk kl key) v ∧ Kr w (T + 1) [] [(w.heap.size, 32)] w') (fun tw _ => 64 - slen tw)
    case atStart => exact ⟨_, _, rfl, Nat.le_refl _, by omega, HT, K⟩
    case round =>
      clear K HT
      obtain ⟨n, v, rfl, hn1, hn2, HT, K⟩ := hrel
      obtain ⟨us, uc, rfl, huc, hus⟩ := HT.bytes
      by_cases hlt : n < 64
      · have g1 : (n : Int) < 64 := by omega
        go_upto_region 6 with fail
        refine wp_region_list ?_
        refine pureL (.slice us n uc) rfl (fun _ => by kernel_rfl) ?_
        simp only [aP, lI, l0, lS]
        refine actL (w' := wr.alloc (.cells #[.int .u8 0] 5)) (.slice (some ⟨wr.heap.size, 0, none⟩) 1 1) rfl (by kernel_rfl) ?_
        simp only [aP, lI, l0, lS]
        obtain ⟨v, w5, hr, ho, hg⟩ := HT.more8 (by omega) 0 (hpad n hn1) 28 K.size
        replace K := (K.call ((Below.refl wr.heap.size wr).alloc (Nat.le_refl _) (.cells #[.int .u8 0] 5))).grown hg (fun b hb => (World.ownsRow.lt HT b hb).1)
        refine actL v rfl (appendOp _ _ 28 _ _ _ rfl rfl rfl hr) ?_
        simp only [aP, lI, l0, lS]
        refine pureL v rfl (fun _ => by kernel_rfl) ?_
        simp only [aP, lI, l0, lS]
        show Exit.inBlock _ _ _ _ _
        obtain ⟨ts2, tc2, rfl, _, _⟩ := ho.bytes
        have HS := show Hid _ from (And.intro ho K)
        clear HT K hr ho hg hus
        go_wp2
        go_roundw
        case rel => first | exact ⟨n + 1, _, rfl, by omega, by omega, HS.out⟩ | ((repeat apply Exists.intro); refine ⟨⟨n + 1, _, rfl, by omega, by omega, HS.out⟩, rfl⟩)
        case measure => simp [slen]; omega
      · obtain rfl : n = 64 := by omega
        obtain ⟨G, _, hve, hG1, hG2, HG⟩ := HT.has (by omega)
        injection hve with hve1 _ hve3
        subst hve1 hve3
        replace K := K.own hG1 hG2 HG
        clear HG HT hus hpad hlt hn1 hn2
        go_upto_region 7 with fail
        refine wp_region_list ?_
        refine actL (w' := wr.alloc (.cells #[] 5)) (.slice (some ⟨wr.heap.size, 0, none⟩) 0 0) rfl (by kernel_rfl) ?_
        simp only [aP, lI, l0, lS]
        refine pureL (.slice (some ⟨wr.heap.size, 0, none⟩) 0 0) rfl (fun _ => by kernel_rfl) ?_
        simp only [aP, lI, l0, lS]
        show Exit.then _ _ _ _ _
        go_upto_region 8 with fail
        refine wp_region_list ?_
        refine actL (w' := (wr.alloc (.cells #[] 5)).alloc (.cells #[] 5)) (.slice (some ⟨(wr.alloc (.cells #[] 5)).heap.size, 0, none⟩) 0 0) rfl (by kernel_rfl) ?_
        simp only [aP, lI, l0, lS]
        refine pureL (.slice (some ⟨(wr.alloc (.cells #[] 5)).heap.size, 0, none⟩) 0 0) rfl (fun _ => by kernel_rfl) ?_
        simp only [aP, lI, l0, lS]
        have H2 : Two8 ((wr.alloc (.cells #[] 5)).alloc (.cells #[] 5)) wr.heap.size 0 (bxx 54 (bkk kl key)) (.slice (some ⟨wr.heap.size, 0, none⟩) 0 0) 0 (bxx 92 (bkk kl key)) (.slice (some ⟨(wr.alloc (.cells #[] 5)).heap.size, 0, none⟩) 0 0) :=
          ⟨Own.alloc (Own.lit wr wr.heap.size 5 .u8 0 _ (Nat.le_refl _) (by unfold maxLen; omega)) _, Own.lit (wr.alloc (.cells #[] 5)) wr.heap.size 5 .u8 0 _ (by simp) (by unfold maxLen; omega), fun e => by injection e with e; simp at e⟩
        replace K := (K.call ((Below.refl wr.heap.size wr).alloc (Nat.le_refl _) (.cells #[] 5))).call ((Below.refl _ _).alloc (Nat.le_refl _) (.cells #[] 5))
        generalize (wr.alloc (.cells #[] 5)).alloc (.cells #[] 5) = w6 at K H2 ⊢
        generalize Value.slice (some ⟨(wr.alloc (.cells #[] 5)).heap.size, 0, none⟩) 0 0 = vb at H2 ⊢
        generalize Value.slice (some ⟨wr.heap.size, 0, none⟩) 0 0 = va at H2 ⊢
        generalize wr.heap.size = Q at K H2
        show Exit.then _ _ _ _ _
        go_wp2
        go_loopw [7, 8, 9] (fun aw bw i w' => ∃ (n : Nat) (va vb : Value), n ≤ 64 ∧ va = aw ∧ vb = bw ∧ i = .int .i64 (n : Int) ∧ Two8 w' Q n (bxx 54 (bkk kl key)) va n (bxx 92 (bkk kl key)) vb ∧ Kr w Q [(G, .u8, 64, bkk kl key)] [(w.heap.size, 32)] w') (fun _ _ i _ => 64 - (intOf i).toNat)
        case atStart => exact ⟨0, _, _, by omega, rfl, rfl, rfl, H2, K⟩
        case round =>
          clear K H2
          obtain ⟨n, va, vb, hn, rfl, rfl, rfl, H2, K⟩ := hrel
          have g1 : (0 : Int) ≤ (n : Int) := by omega
          by_cases hlt : n < 64
          · have g2 : (n : Int) < 64 := by omega
            go_upto_region 12 with fail
            refine wp_region_list ?_
            refine pureL va rfl (fun _ => by kernel_rfl) ?_
            simp only [aP, lI, l0, lS]
            refine pureL (.slice (some ⟨G, 0, none⟩) 64 uc) rfl (fun _ => by kernel_rfl) ?_
            simp only [aP, lI, l0, lS]
            refine pureL (.int .i64 (n : Int)) rfl (fun _ => by kernel_rfl) ?_
            simp only [aP, lI, l0, lS]
            refine pureL (.pointer (some ⟨G, n, none⟩)) rfl (fun w' => idxO G 64 uc n hlt w' _ _ rfl rfl rfl) ?_
            simp only [aP, lI, l0, lS]
            refine cellL .u8 (.int .u8 (bkk kl key n)) G n 5 _ rfl rfl rfl Tryz.underlying5 ((K.get _ _ _ _ mS).cell n hlt) ?_
            simp only [aP, lI, l0, lS]
            refine pureL (.int .u8 (bxx 54 (bkk kl key) n)) rfl (fun w => xorI .u8 _ _ _ _ _ _ _ rfl rfl rfl rfl w) ?_
            simp only [aP, lI, l0, lS]
            refine actL (w' := wr.alloc (.cells #[.int .u8 (bxx 54 (bkk kl key) n)] 5)) (.slice (some ⟨wr.heap.size, 0, none⟩) 1 1) rfl (by kernel_rfl) ?_
            simp only [aP, lI, l0, lS]
            obtain ⟨va1, w7, hr, h2, hg⟩ := H2.more (by omega) (bxx 54 (bkk kl key) n) rfl 28 K.size
            replace K := (K.call ((Below.refl wr.heap.size wr).alloc (Nat.le_refl _) (.cells #[.int .u8 (bxx 54 (bkk kl key) n)] 5))).grown hg (fun b hb => (World.ownsRow.lt H2.one b hb).1)
            refine actL va1 rfl (appendOp _ _ 28 _ _ _ rfl rfl rfl hr) ?_
            simp only [aP, lI, l0, lS]
            refine pureL va1 rfl (fun _ => by kernel_rfl) ?_
            simp only [aP, lI, l0, lS]
            replace H2 := h2.symm
            clear hr hg h2
            show Exit.then _ _ _ _ _
            go_upto_region 13 with fail
            refine wp_region_list ?_
            refine pureL vb rfl (fun _ => by kernel_rfl) ?_
            simp only [aP, lI, l0, lS]
            refine pureL (.slice (some ⟨G, 0, none⟩) 64 uc) rfl (fun _ => by kernel_rfl) ?_
            simp only [aP, lI, l0, lS]
            refine pureL (.int .i64 (n : Int)) rfl (fun _ => by kernel_rfl) ?_
            simp only [aP, lI, l0, lS]
            refine pureL (.pointer (some ⟨G, n, none⟩)) rfl (fun w' => idxO G 64 uc n hlt w' _ _ rfl rfl rfl) ?_
            simp only [aP, lI, l0, lS]
            refine cellL .u8 (.int .u8 (bkk kl key n)) G n 5 _ rfl rfl rfl Tryz.underlying5 ((K.get _ _ _ _ mS).cell n hlt) ?_
            simp only [aP, lI, l0, lS]
            refine pureL (.int .u8 (bxx 92 (bkk kl key) n)) rfl (fun w => xorI .u8 _ _ _ _ _ _ _ rfl rfl rfl rfl w) ?_
            simp only [aP, lI, l0, lS]
            refine actL (w' := w7.alloc (.cells #[.int .u8 (bxx 92 (bkk kl key) n)] 5)) (.slice (some ⟨w7.heap.size, 0, none⟩) 1 1) rfl (by kernel_rfl) ?_
            simp only [aP, lI, l0, lS]
            obtain ⟨vb1, w8, hr, h2, hg⟩ := H2.more (by omega) (bxx 92 (bkk kl key) n) rfl 28 K.size
            replace K := (K.call ((Below.refl w7.heap.size w7).alloc (Nat.le_refl _) (.cells #[.int .u8 (bxx 92 (bkk kl key) n)] 5))).grown hg (fun b hb => (World.ownsRow.lt H2.one b hb).1)
            refine actL vb1 rfl (appendOp _ _ 28 _ _ _ rfl rfl rfl hr) ?_
            simp only [aP, lI, l0, lS]
            refine pureL vb1 rfl (fun _ => by kernel_rfl) ?_
            simp only [aP, lI, l0, lS]
            replace H2 := h2.symm
            clear hr hg h2
            show Exit.inBlock _ _ _ _ _
            have HS := show Hid _ from (And.intro H2 K)
            clear H2 K
            go_wp2
            go_roundw
            case rel => first | exact ⟨n + 1, _, _, by omega, rfl, rfl, by go_num, HS.out⟩ | ((repeat apply Exists.intro); refine ⟨⟨n + 1, _, _, by omega, rfl, rfl, by go_num, HS.out⟩, rfl⟩)
            case measure => simp [intOf]; omega
          · obtain rfl : n = 64 := by omega
            clear hlt hn g1
            have hk64 := bkk_in kl key hk 64
            go_upto_region 14 with fail
            refine wp_region_list ?_
            refine pureL va rfl (fun _ => by kernel_rfl) ?_
            simp only [aP, lI, l0, lS]
            refine pureL (.slice sp len cap) rfl (fun _ => by kernel_rfl) ?_
            simp only [aP, lI, l0, lS]
            obtain ⟨v1, w7, hr, ho, hg, _⟩ := run_append_Own (P := Tryz.prog) (ty := 28) Tryz.underlying28 one8 H2.one sp len cap z (hs.below K.below (Nat.le_refl _)) hn0 (by unfold maxLen; omega) (by omega) K.size
            replace K := K.grown hg (fun b hb => (World.ownsRow.lt H2.one b hb).1)
            have hob : Own w7 Q 5 .u8 64 (bxx 92 (bkk kl key)) vb := World.ownsRow.kept H2.two hg (.inr fun e => H2.ne e.symm)
            refine actL v1 rfl (appendOp _ _ 28 _ _ _ rfl rfl rfl hr) ?_
            simp only [aP, lI, l0, lS]
            obtain ⟨ip, ic, rfl, hic, his⟩ := ho.bytes
            refine callL rfl (fun _ => by kernel_rfl) (refHash_any ip (64 + len) ic (by omega) ho.nilCap (app (bxx 54 (bkk kl key)) 64 z) (app_in 64 len _ _ (bxx_in 54 (by decide) _ 64 hk64) hz) _ his) ?_
            rintro e w8 ⟨rfl, l⟩
            replace K := K.call l
            replace hob := hob.below l
            clear l H2 ho hr hg his
            refine ⟨_, rfl, ?_⟩
            simp only [aP, lI, l0, lS]
            obtain ⟨hi, hhi⟩ : ∃ f, f = bhash (64 + len) (app (bxx 54 (bkk kl key)) 64 z) := ⟨_, rfl⟩
            rw [← hhi]
            replace hhi := show Hid _ from hhi
            refine allocL zu8_32 38 rfl (fun _ => by kernel_rfl) ?_
            simp only [aP, lI, l0, lS]
            refine storesL .u8 32 hi w8.heap.size 38 _ _ rfl rfl rfl rfl (room_of (key_zero _ _ _ rfl).there) (key_info' _) ?_
            simp only [Act.put]
            have zT := K.size
            have hQ1 : w.heap.size < Q := (K.room _ mS).2.1
            have hbl : Below w8.heap.size w8 ((w8.alloc (.cells zu8_32 38)).setCells w8.heap.size 0 (row .u8 32 hi)) := below_setAll ((Below.refl w8.heap.size w8).alloc (Nat.le_refl _) _) _ (Nat.le_refl _) 0 _
            replace hob := hob.below hbl
            replace K := K.fresh .u8 32 hi zu8_32 38 (key_zero _ _ _ rfl).there
            clear hbl
            generalize ((w8.alloc (.cells zu8_32 38)).setCells w8.heap.size 0 (row .u8 32 hi)) = w9 at K hob ⊢
            generalize w8.heap.size = T at *
            show Exit.then _ _ _ _ _
            go_upto_region 15 with fail
            refine wp_region_list ?_
            refine pureL vb rfl (fun _ => by kernel_rfl) ?_
            simp only [aP, lI, l0, lS]
            refine pureL (.slice (some ⟨T, 0, none⟩) 32 32) rfl (fun _ => by kernel_rfl) ?_
            simp only [aP, lI, l0, lS]
            obtain ⟨v2, w10, hr, ho, hg, _⟩ := run_append_Own (P := Tryz.prog) (ty := 28) Tryz.underlying28 one8 hob (some ⟨T, 0, none⟩) 32 32 hi (fun j hj => ⟨_, rfl, by rw [Addr.add_mid, Nat.zero_add]; exact (K.get _ _ _ _ mS).cell j hj⟩) (fun e => by cases e) (by unfold maxLen; omega) (by omega) (by have := K.size; omega)
            replace K := (K.back [] Q (fun _ hp => by cases hp) (fun _ hp => by cases hp) (fun q hq => by obtain rfl := List.mem_singleton.1 hq; simp only; omega) (by omega) (by omega)).grown hg (fun b hb => (World.ownsRow.lt hob b hb).1)
            refine actL v2 rfl (appendOp _ _ 28 _ _ _ rfl rfl rfl hr) ?_
            simp only [aP, lI, l0, lS]
            obtain ⟨op, oc, rfl, hoc, hos⟩ := ho.bytes
            have hhi2 := hhi.out
            refine callL rfl (fun _ => by kernel_rfl) (refHash_any op 96 oc (by omega) ho.nilCap (app (bxx 92 (bkk kl key)) 64 hi) (app_in 64 32 _ _ (bxx_in 92 (by decide) _ 64 hk64) (by rw [hhi2]; exact bhash_in _ _ _)) _ hos) ?_
            rintro e w11 ⟨rfl, l⟩
            replace K := K.call l
            clear l ho hr hg hos hob
            refine ⟨_, rfl, ?_⟩
            simp only [aP, lI, l0, lS]
            have hz' := (K.room _ mS).1
            have hB := (K.fill _ _ mS (row .u8 32 (bhash 96 (app (bxx 92 (bkk kl key)) 64 hi)))).below
            have hres : bhash 96 (app (bxx 92 (bkk kl key)) 64 hi) = bmac kl key len z := by rw [hhi2]; rfl
            rw [hres] at hB ⊢
            clear K hhi2 hres
            generalize hj : bmac kl key len z = f at *
            refine storesL .u8 32 f (w.heap.size) 38 _ _ rfl rfl rfl rfl (room_of hz') (key_info' _) ?_
            simp only [Act.put]
            show Exit.then _ _ _ _ _
            go_wp2
            exact bodyPost_ret (v := (.agg (row .u8 32 (f)).toArray)) (results_row Tryz.results38 rfl (Has.all hz' .u8 f).range Tryz.underlying38 rfl (key_info f)) rfl ⟨rfl, hB⟩
def bout (h : Nat → Int) : Nat → Int := fun j => b32 (h (j / 4)) (j % 4)
def nbt (n : Nat) : Nat := if n = 0 then 1 else (n + 63) / 64
def tH (h0 : Nat → Int) (n : Nat) (f : Nat → Int) : Nat → Nat → Int
  | 0 => h0
  | i + 1 => bpr (tH h0 n f i) (fun j => f (64 * i + j)) ((min (64 * i + 64) n : Nat) : Int) (decide (i + 1 = nbt n))
theorem tH_in (h0 : Nat → Int) (n : Nat) (f : Nat → Int) (h : In V 8 h0) : ∀ i, In V 8 (tH h0 n f i)
  | 0 => h
  | i + 1 => bpr_in _ _ _ _ (tH_in h0 n f h i)
theorem bH_tH (kl : Nat) (key : Nat → Int) (size len : Nat) (z : Nat → Int) : ∀ i, bH kl key size len z i = tH (bh0 kl size) (btl kl len) (btx kl key len z) i
  | 0 => rfl
  | i + 1 => by
    unfold bH tH
    rw [bH_tH kl key size len z i]
    rfl
theorem bsum_tH (kl : Nat) (key : Nat → Int) (size len : Nat) (z : Nat → Int) : bsum kl key size len z = bout (tH (bh0 kl size) (btl kl len) (btx kl key len z) (nbt (btl kl len))) := by
  funext j
  unfold bsum bout
  rw [bH_tH]
  rfl
theorem bN_congr (m m' : Nat → Int) (r : Nat) (h : ∀ i, i < 16 → m i = m' i) (v : Nat → Int) : ∀ k, bN m (sg r) v k = bN m' (sg r) v k
  | 0 => rfl
  | k + 1 => by
    unfold bN
    rw [bN_congr m m' r h v k]
    unfold bAt
    rw [h _ (sg_lt r _), h _ (sg_lt r _)]
theorem bR_congr (m m' : Nat → Int) (h : ∀ i, i < 16 → m i = m' i) (v : Nat → Int) : ∀ r, bR m v r = bR m' v r
  | 0 => rfl
  | r + 1 => by
    unfold bR
    rw [bR_congr m m' h v r, bN_congr m m' r h]
theorem bpr_congr (h z z' : Nat → Int) (t : Int) (last : Bool) (e : ∀ j, j < 64 → z j = z' j) : bpr h z t last = bpr h z' t last := by
  funext i
  unfold bpr
  rw [bR_congr (bpw z) (bpw z') (fun i hi => by unfold bpw w32; rw [e _ (by omega), e _ (by omega), e _ (by omega), e _ (by omega)])]
def tx2 (fl : Nat) (y : Nat → Int) (len : Nat) (z : Nat → Int) : Nat → Int := fun j => if j < fl then y j else padz len z (j - fl)
theorem tx2_none (y z : Nat → Int) (j : Nat) : tx2 64 y 0 z (64 * 0 + j) = padz 64 y j := by
  unfold tx2 padz
  rw [Nat.mul_zero, Nat.zero_add]
  by_cases e : j < 64
  · rw [if_pos e, if_pos e]
  · rw [if_neg e, if_neg e, if_neg (Nat.not_lt_zero _)]
theorem bhash_tx2 (fl : Nat) (y : Nat → Int) (len : Nat) (z : Nat → Int) : bhash (fl + len) (app y fl z) = bout (tH (bh0 0 32) (fl + len) (tx2 fl y len z) (nbt (fl + len))) := by
  have e1 : btl 0 (fl + len) = fl + len := Nat.zero_add _
  have e2 : btx 0 (fun _ => 0) (fl + len) (app y fl z) = tx2 fl y len z := by
    funext j
    unfold btx tx2 padz app
    rw [if_pos rfl]
    by_cases e : j < fl
    · rw [if_pos (by omega), if_pos e, if_pos e]
    · rw [if_neg e, if_neg e]
      by_cases e3 : j < fl + len
      · rw [if_pos e3, if_pos (by omega)]
      · rw [if_neg e3, if_neg (by omega)]
  unfold bhash
  rw [bsum_tH, e1, e2]
def z0 : Nat → Int := fun _ => 0
def zs (s : ByteArray) : Nat → Int := fun j => ((s.data.toList.getD j 0).toNat : Int)
theorem bmac_in (kl : Nat) (key : Nat → Int) (len : Nat) (z : Nat → Int) (n : Nat) : In 256 n (bmac kl key len z) := bhash_in _ _ n
theorem bmac_congr (kl : Nat) (key : Nat → Int) (len : Nat) (z y : Nat → Int) (h : ∀ j, j < len → z j = y j) : bmac kl key len z = bmac kl key len y := by
  unfold bmac
  rw [bhash_congr (64 + len) (app (bxx 54 (bkk kl key)) 64 z) (app (bxx 54 (bkk kl key)) 64 y) (fun j hj => by
    unfold app
    by_cases e : j < 64
    · rw [if_pos e, if_pos e]
    · rw [if_neg e, if_neg e]; exact h _ (by omega))]
def klen : Nat → Nat
  | 0 => 0
  | _ + 1 => 32
def ktx (il : Nat) (inf : Nat → Int) (i : Nat) (t : Nat → Int) : Nat → Int := app (app t (klen i) inf) (klen i + il) (fun _ => ((i + 1 : Nat) : Int))
def kT (k : Nat → Int) (il : Nat) (inf : Nat → Int) : Nat → Nat → Int
  | 0 => fun _ => 0
  | i + 1 => bmac 32 k (klen i + il + 1) (ktx il inf i (kT k il inf i))
theorem kT_in (k : Nat → Int) (il : Nat) (inf : Nat → Int) (n : Nat) : ∀ i, In 256 n (kT k il inf i)
  | 0 => fun _ _ => ⟨Int.le_refl 0, (by decide : (0 : Int) < 256)⟩
  | _ + 1 => bmac_in _ _ _ _ _
theorem kT_one (t : Nat → Int) (inf : Nat → Int) : bmac 32 t 1 (fun _ => 1) = kT t 0 inf 1 := bmac_congr _ _ _ _ _ (fun j hj => by
  unfold ktx app
  rw [if_neg (show ¬ j < klen 0 + 0 from Nat.not_lt_zero j)]
  rfl)
theorem kT_two (t : Nat → Int) (inf : Nat → Int) : bmac 32 t 33 (app (kT t 0 inf 1) 32 (fun _ => 2)) = kT t 0 inf 2 := bmac_congr _ _ _ _ _ (fun j hj => by
  unfold ktx app
  by_cases e : j < 32
  · rw [if_pos e, if_pos (show j < klen 1 + 0 from e), if_pos (show j < klen 1 from e)]
  · rw [if_neg e, if_neg (show ¬ j < klen 1 + 0 from e)]
    rfl)
end Go.Proofs.YtgfpflcoknpbdaaGreatDoor
