/- The walk of BlakeMade. -/
import Derived.Test.YtmchfdfmcobenaaDoorBw
import Derived.Test.YtmchfdfmcobenaaDoorBv
import Derived.Test.YtmchfdfmcobenaaDoorEr
namespace Go.Proofs.YtmchfdfmcobenaaDoor
open Go.RowKit

set_option maxRecDepth 10000 in
set_option maxHeartbeats 8000000 in
theorem law_BlakeMade (hS : BSumOK) (hH : BHashOK) (hM : BMacOK) (kp : Option Addr) (kl kc : Nat) (hlk : kl ≤ 140737488351232) (hck : kl ≤ kc) (hnk : kp = none → kc = 0) (key : Nat → Int) (hik : In 256 kl key) (sp : Option Addr) (len cap : Nat) (hlb : len ≤ 140737488351232) (hcb : len ≤ cap) (hnb : sp = none → cap = 0) (z : Nat → Int) (hib : In 256 len z) (w : World) (hg : BGlob w) (hsk : Src w kp kl key) (hsb : Src w sp len z) :
    Calls Tryd.prog 8 #[.slice kp kl kc, .slice sp len cap] w fun e w' => e = .returned (.bool true) ∧ Below w.heap.size w w' := by
  have K := Kr.init w
  go_enter Tryd.func8, Tryd.ntmps8
  go_upto_region 1 with fail
  refine wp_region_list ?_
  refine callL rfl (fun _ => by kernel_rfl) (bshown_any hS hH _ (hg.below K.below hg.size)) ?_
  rintro e w1 ⟨rfl, l⟩
  replace K := K.call l
  clear l
  refine ⟨_, rfl, ?_⟩
  simp only [Act.put, List.setIfInBounds_toArray, List.set_cons_zero, List.set_cons_succ]
  refine pureL (.bool true) rfl (fun _ => by kernel_rfl) ?_
  simp only [Act.put, List.setIfInBounds_toArray, List.set_cons_zero, List.set_cons_succ]
  show Exit.then _ _ _ _ _
  by_cases hk : 64 < kl
  · have g1 : (64 : Int) < (kl : Int) := by omega
    have g2 : (65 : Int) ≤ (kl : Int) := by omega
    have hB := K.below
    clear K
    go_wp2
    go_ret
    exact ⟨rfl, hB⟩
  · have g1 : ¬ (64 : Int) < (kl : Int) := by omega
    have g2 : ¬ (65 : Int) ≤ (kl : Int) := by omega
    go_upto_region 4 with fail
    refine wp_region_list ?_
    refine actL (w' := (w1.alloc (.cells #[] 5))) (.slice (some ⟨w1.heap.size, 0, none⟩) 0 0) rfl (by kernel_rfl) ?_
    simp only [Act.put, List.setIfInBounds_toArray, List.set_cons_zero, List.set_cons_succ]
    refine pureL (.slice (some ⟨w1.heap.size, 0, none⟩) 0 0) rfl (fun _ => by kernel_rfl) ?_
    simp only [Act.put, List.setIfInBounds_toArray, List.set_cons_zero, List.set_cons_succ]
    show Exit.then _ _ _ _ _
    go_upto_region 5 with fail
    refine wp_region_list ?_
    refine actL (w' := (w1.alloc (.cells #[] 5)).alloc (.cells #[] 5)) (.slice (some ⟨(w1.alloc (.cells #[] 5)).heap.size, 0, none⟩) 0 0) rfl (by kernel_rfl) ?_
    simp only [Act.put, List.setIfInBounds_toArray, List.set_cons_zero, List.set_cons_succ]
    refine pureL (.slice (some ⟨(w1.alloc (.cells #[] 5)).heap.size, 0, none⟩) 0 0) rfl (fun _ => by kernel_rfl) ?_
    simp only [Act.put, List.setIfInBounds_toArray, List.set_cons_zero, List.set_cons_succ]
    have H2 : Two8 ((w1.alloc (.cells #[] 5)).alloc (.cells #[] 5)) w.heap.size 0 (bxx 54 (bkk kl key)) (.slice (some ⟨w1.heap.size, 0, none⟩) 0 0) 0 (bxx 92 (bkk kl key)) (.slice (some ⟨(w1.alloc (.cells #[] 5)).heap.size, 0, none⟩) 0 0) :=
      ⟨Own.alloc (Own.lit w1 w.heap.size 5 .u8 0 _ K.size (by unfold maxLen; omega)) _, Own.lit (w1.alloc (.cells #[] 5)) w.heap.size 5 .u8 0 _ (by have := K.size; simp; omega) (by unfold maxLen; omega), fun e => by injection e with e; simp at e⟩
    replace K := (K.call ((Below.refl w1.heap.size w1).alloc (Nat.le_refl _) (.cells #[] 5))).call ((Below.refl _ _).alloc (Nat.le_refl _) (.cells #[] 5))
    generalize (w1.alloc (.cells #[] 5)).alloc (.cells #[] 5) = w2 at K H2 ⊢
    generalize Value.slice (some ⟨(w1.alloc (.cells #[] 5)).heap.size, 0, none⟩) 0 0 = vb at H2 ⊢
    generalize Value.slice (some ⟨w1.heap.size, 0, none⟩) 0 0 = va at H2 ⊢
    show Exit.then _ _ _ _ _
    go_wp2
    go_loopw [6, 7, 8] (fun aw bw i w' => ∃ (n : Nat) (va vb : Value), n ≤ 64 ∧ va = aw ∧ vb = bw ∧ i = .int .i64 (n : Int) ∧ Two8 w' w.heap.size n (bxx 54 (bkk kl key)) va n (bxx 92 (bkk kl key)) vb ∧ Kr w w.heap.size [] [] w') (fun _ _ i _ => 64 - (intOf i).toNat)
    case atStart => exact ⟨0, _, _, by omega, rfl, rfl, rfl, H2, K⟩
    case round =>
      clear K H2
      obtain ⟨n, va, vb, hn, rfl, rfl, rfl, H2, K⟩ := hrel
      have g3 : (0 : Int) ≤ (n : Int) := by omega
      by_cases hlt : n < 64
      · have g4 : (n : Int) < 64 := by omega
        by_cases hkn : n < kl
        · have g5 : (n : Int) < (kl : Int) := by omega
          have hx54 : bits .xor .u8 (key n) 54 = bxx 54 (bkk kl key) n := by unfold bxx bkk; rw [if_pos (by omega), if_pos hkn]
          have hx92 : bits .xor .u8 (key n) 92 = bxx 92 (bkk kl key) n := by unfold bxx bkk; rw [if_pos (by omega), if_pos hkn]
          obtain ⟨ad, rfl, hc⟩ := (hsk.below K.below (Nat.le_refl _)) n hkn
          go_upto_region 11 with fail
          refine wp_region_list ?_
          refine pureL (.slice (some ad) kl kc) rfl (fun _ => by kernel_rfl) ?_
          simp only [Act.put, List.setIfInBounds_toArray, List.set_cons_zero, List.set_cons_succ]
          refine pureL (.int .i64 (n : Int)) rfl (fun _ => by kernel_rfl) ?_
          simp only [Act.put, List.setIfInBounds_toArray, List.set_cons_zero, List.set_cons_succ]
          refine pureL (.pointer (some (ad.add n))) rfl (fun w => idxSl 22 5 kl kc .i64 ad n _ _ Tryd.underlying22 (fun _ => by kernel_rfl) hkn rfl rfl rfl w) ?_
          simp only [Act.put, List.setIfInBounds_toArray, List.set_cons_zero, List.set_cons_succ]
          refine readL (.int .u8 (key n)) rfl (loadAny 5 .u8 _ (ad.add n) _ rfl rfl Tryd.underlying5 hc) ?_
          simp only [Act.put, List.setIfInBounds_toArray, List.set_cons_zero, List.set_cons_succ]
          refine pureL (.int .u8 (key n)) rfl (fun _ => by kernel_rfl) ?_
          simp only [Act.put, List.setIfInBounds_toArray, List.set_cons_zero, List.set_cons_succ]
          show Exit.then _ _ _ _ _
          clear hc
          go_upto_region 12 with fail
          refine wp_region_list ?_
          refine pureL va rfl (fun _ => by kernel_rfl) ?_
          simp only [Act.put, List.setIfInBounds_toArray, List.set_cons_zero, List.set_cons_succ]
          refine pureL (.int .u8 (key n)) rfl (fun _ => by kernel_rfl) ?_
          simp only [Act.put, List.setIfInBounds_toArray, List.set_cons_zero, List.set_cons_succ]
          refine pureL (.int .u8 (bxx 54 (bkk kl key) n)) rfl (fun w => xorI .u8 _ _ _ _ _ _ _ rfl rfl rfl hx54 w) ?_
          simp only [Act.put, List.setIfInBounds_toArray, List.set_cons_zero, List.set_cons_succ]
          refine actL (w' := wr.alloc (.cells #[.int .u8 (bxx 54 (bkk kl key) n)] 5)) (.slice (some ⟨wr.heap.size, 0, none⟩) 1 1) rfl (by kernel_rfl) ?_
          simp only [Act.put, List.setIfInBounds_toArray, List.set_cons_zero, List.set_cons_succ]
          obtain ⟨va1, w7, hr, h2, hgr⟩ := H2.more (by omega) (bxx 54 (bkk kl key) n) rfl 22 K.size
          replace K := (K.call ((Below.refl wr.heap.size wr).alloc (Nat.le_refl _) (.cells #[.int .u8 (bxx 54 (bkk kl key) n)] 5))).grown hgr (fun b hb => (World.ownsRow.lt H2.one b hb).1)
          refine actL va1 rfl (appendOp _ _ 22 _ _ _ rfl rfl rfl hr) ?_
          simp only [Act.put, List.setIfInBounds_toArray, List.set_cons_zero, List.set_cons_succ]
          refine pureL va1 rfl (fun _ => by kernel_rfl) ?_
          simp only [Act.put, List.setIfInBounds_toArray, List.set_cons_zero, List.set_cons_succ]
          replace H2 := h2.symm
          clear hr hgr h2
          show Exit.then _ _ _ _ _
          go_upto_region 13 with fail
          refine wp_region_list ?_
          refine pureL vb rfl (fun _ => by kernel_rfl) ?_
          simp only [Act.put, List.setIfInBounds_toArray, List.set_cons_zero, List.set_cons_succ]
          refine pureL (.int .u8 (key n)) rfl (fun _ => by kernel_rfl) ?_
          simp only [Act.put, List.setIfInBounds_toArray, List.set_cons_zero, List.set_cons_succ]
          refine pureL (.int .u8 (bxx 92 (bkk kl key) n)) rfl (fun w => xorI .u8 _ _ _ _ _ _ _ rfl rfl rfl hx92 w) ?_
          simp only [Act.put, List.setIfInBounds_toArray, List.set_cons_zero, List.set_cons_succ]
          refine actL (w' := w7.alloc (.cells #[.int .u8 (bxx 92 (bkk kl key) n)] 5)) (.slice (some ⟨w7.heap.size, 0, none⟩) 1 1) rfl (by kernel_rfl) ?_
          simp only [Act.put, List.setIfInBounds_toArray, List.set_cons_zero, List.set_cons_succ]
          obtain ⟨vb1, w8, hr, h2, hgr⟩ := H2.more (by omega) (bxx 92 (bkk kl key) n) rfl 22 K.size
          replace K := (K.call ((Below.refl w7.heap.size w7).alloc (Nat.le_refl _) (.cells #[.int .u8 (bxx 92 (bkk kl key) n)] 5))).grown hgr (fun b hb => (World.ownsRow.lt H2.one b hb).1)
          refine actL vb1 rfl (appendOp _ _ 22 _ _ _ rfl rfl rfl hr) ?_
          simp only [Act.put, List.setIfInBounds_toArray, List.set_cons_zero, List.set_cons_succ]
          refine pureL vb1 rfl (fun _ => by kernel_rfl) ?_
          simp only [Act.put, List.setIfInBounds_toArray, List.set_cons_zero, List.set_cons_succ]
          replace H2 := h2.symm
          clear hr hgr h2
          show Exit.inBlock _ _ _ _ _
          have HS := show Hid _ from (And.intro H2 K)
          clear H2 K hx54 hx92
          go_wp2
          go_roundw
          case rel => first | exact ⟨n + 1, _, _, by omega, rfl, rfl, by go_num, HS.out⟩ | ((repeat apply Exists.intro); refine ⟨⟨n + 1, _, _, by omega, rfl, rfl, by go_num, HS.out⟩, rfl⟩)
          case measure => simp [intOf]; omega
        · have g5 : ¬ (n : Int) < (kl : Int) := by omega
          have hx54 : bits .xor .u8 0 54 = bxx 54 (bkk kl key) n := by unfold bxx bkk; rw [if_pos (by omega), if_neg hkn]
          have hx92 : bits .xor .u8 0 92 = bxx 92 (bkk kl key) n := by unfold bxx bkk; rw [if_pos (by omega), if_neg hkn]
          go_upto_region 12 with fail
          refine wp_region_list ?_
          refine pureL va rfl (fun _ => by kernel_rfl) ?_
          simp only [Act.put, List.setIfInBounds_toArray, List.set_cons_zero, List.set_cons_succ]
          refine pureL (.int .u8 0) rfl (fun _ => by kernel_rfl) ?_
          simp only [Act.put, List.setIfInBounds_toArray, List.set_cons_zero, List.set_cons_succ]
          refine pureL (.int .u8 (bxx 54 (bkk kl key) n)) rfl (fun w => xorI .u8 _ _ _ _ _ _ _ rfl rfl rfl hx54 w) ?_
          simp only [Act.put, List.setIfInBounds_toArray, List.set_cons_zero, List.set_cons_succ]
          refine actL (w' := wr.alloc (.cells #[.int .u8 (bxx 54 (bkk kl key) n)] 5)) (.slice (some ⟨wr.heap.size, 0, none⟩) 1 1) rfl (by kernel_rfl) ?_
          simp only [Act.put, List.setIfInBounds_toArray, List.set_cons_zero, List.set_cons_succ]
          obtain ⟨va1, w7, hr, h2, hgr⟩ := H2.more (by omega) (bxx 54 (bkk kl key) n) rfl 22 K.size
          replace K := (K.call ((Below.refl wr.heap.size wr).alloc (Nat.le_refl _) (.cells #[.int .u8 (bxx 54 (bkk kl key) n)] 5))).grown hgr (fun b hb => (World.ownsRow.lt H2.one b hb).1)
          refine actL va1 rfl (appendOp _ _ 22 _ _ _ rfl rfl rfl hr) ?_
          simp only [Act.put, List.setIfInBounds_toArray, List.set_cons_zero, List.set_cons_succ]
          refine pureL va1 rfl (fun _ => by kernel_rfl) ?_
          simp only [Act.put, List.setIfInBounds_toArray, List.set_cons_zero, List.set_cons_succ]
          replace H2 := h2.symm
          clear hr hgr h2
          show Exit.then _ _ _ _ _
          go_upto_region 13 with fail
          refine wp_region_list ?_
          refine pureL vb rfl (fun _ => by kernel_rfl) ?_
          simp only [Act.put, List.setIfInBounds_toArray, List.set_cons_zero, List.set_cons_succ]
          refine pureL (.int .u8 0) rfl (fun _ => by kernel_rfl) ?_
          simp only [Act.put, List.setIfInBounds_toArray, List.set_cons_zero, List.set_cons_succ]
          refine pureL (.int .u8 (bxx 92 (bkk kl key) n)) rfl (fun w => xorI .u8 _ _ _ _ _ _ _ rfl rfl rfl hx92 w) ?_
          simp only [Act.put, List.setIfInBounds_toArray, List.set_cons_zero, List.set_cons_succ]
          refine actL (w' := w7.alloc (.cells #[.int .u8 (bxx 92 (bkk kl key) n)] 5)) (.slice (some ⟨w7.heap.size, 0, none⟩) 1 1) rfl (by kernel_rfl) ?_
          simp only [Act.put, List.setIfInBounds_toArray, List.set_cons_zero, List.set_cons_succ]
          obtain ⟨vb1, w8, hr, h2, hgr⟩ := H2.more (by omega) (bxx 92 (bkk kl key) n) rfl 22 K.size
          replace K := (K.call ((Below.refl w7.heap.size w7).alloc (Nat.le_refl _) (.cells #[.int .u8 (bxx 92 (bkk kl key) n)] 5))).grown hgr (fun b hb => (World.ownsRow.lt H2.one b hb).1)
          refine actL vb1 rfl (appendOp _ _ 22 _ _ _ rfl rfl rfl hr) ?_
          simp only [Act.put, List.setIfInBounds_toArray, List.set_cons_zero, List.set_cons_succ]
          refine pureL vb1 rfl (fun _ => by kernel_rfl) ?_
          simp only [Act.put, List.setIfInBounds_toArray, List.set_cons_zero, List.set_cons_succ]
          replace H2 := h2.symm
          clear hr hgr h2
          show Exit.inBlock _ _ _ _ _
          have HS := show Hid _ from (And.intro H2 K)
          clear H2 K hx54 hx92
          go_wp2
          go_roundw
          case rel => first | exact ⟨n + 1, _, _, by omega, rfl, rfl, by go_num, HS.out⟩ | ((repeat apply Exists.intro); refine ⟨⟨n + 1, _, _, by omega, rfl, rfl, by go_num, HS.out⟩, rfl⟩)
          case measure => simp [intOf]; omega
      · obtain rfl : n = 64 := by omega
        clear hlt hn g3
        have hk64 := bkk_in kl key hik 64
        go_upto_region 14 with fail
        refine wp_region_list ?_
        refine pureL va rfl (fun _ => by kernel_rfl) ?_
        simp only [Act.put, List.setIfInBounds_toArray, List.set_cons_zero, List.set_cons_succ]
        refine pureL (.slice sp len cap) rfl (fun _ => by kernel_rfl) ?_
        simp only [Act.put, List.setIfInBounds_toArray, List.set_cons_zero, List.set_cons_succ]
        obtain ⟨v1, w7, hr, ho, hgr, _⟩ := run_append_Own (P := Tryd.prog) (ty := 22) Tryd.underlying22 one8 H2.one sp len cap z (hsb.below K.below (Nat.le_refl _)) hnb (by unfold maxLen; omega) (by omega) K.size
        replace K := K.grown hgr (fun b hb => (World.ownsRow.lt H2.one b hb).1)
        have hob : Own w7 w.heap.size 5 .u8 64 (bxx 92 (bkk kl key)) vb := World.ownsRow.kept H2.two hgr (.inr fun e => H2.ne e.symm)
        refine actL v1 rfl (appendOp _ _ 22 _ _ _ rfl rfl rfl hr) ?_
        simp only [Act.put, List.setIfInBounds_toArray, List.set_cons_zero, List.set_cons_succ]
        obtain ⟨ip, ic, rfl, hic, his⟩ := ho.bytes
        refine callL rfl (fun _ => by kernel_rfl) (hH ip (64 + len) ic (by omega) hic ho.nilCap (app (bxx 54 (bkk kl key)) 64 z) (app_in 64 len _ _ (bxx_in 54 (by decide) _ 64 hk64) hib) _ (hg.below K.below hg.size) his) ?_
        rintro e w8 ⟨rfl, l⟩
        replace K := K.call l
        replace hob := hob.below l
        clear l H2 ho hr hgr his
        refine ⟨_, rfl, ?_⟩
        simp only [Act.put, List.setIfInBounds_toArray, List.set_cons_zero, List.set_cons_succ]
        obtain ⟨hi, hhi⟩ : ∃ f, f = bhash (64 + len) (app (bxx 54 (bkk kl key)) 64 z) := ⟨_, rfl⟩
        rw [← hhi]
        replace hhi := show Hid _ from hhi
        refine allocL #[.int .u8 0, .int .u8 0, .int .u8 0, .int .u8 0, .int .u8 0, .int .u8 0, .int .u8 0, .int .u8 0, .int .u8 0, .int .u8 0, .int .u8 0, .int .u8 0, .int .u8 0, .int .u8 0, .int .u8 0, .int .u8 0, .int .u8 0, .int .u8 0, .int .u8 0, .int .u8 0, .int .u8 0, .int .u8 0, .int .u8 0, .int .u8 0, .int .u8 0, .int .u8 0, .int .u8 0, .int .u8 0, .int .u8 0, .int .u8 0, .int .u8 0, .int .u8 0] 29 rfl (fun _ => by kernel_rfl) ?_
        simp only [Act.put, List.setIfInBounds_toArray, List.set_cons_zero, List.set_cons_succ]
        refine storesL .u8 32 hi w8.heap.size 29 _ _ rfl rfl rfl rfl (room_of (key_zero _ _ _ rfl).there) (key_info' _) ?_
        simp only [Act.put]
        have hbl : Below w8.heap.size w8 ((w8.alloc (.cells #[.int .u8 0, .int .u8 0, .int .u8 0, .int .u8 0, .int .u8 0, .int .u8 0, .int .u8 0, .int .u8 0, .int .u8 0, .int .u8 0, .int .u8 0, .int .u8 0, .int .u8 0, .int .u8 0, .int .u8 0, .int .u8 0, .int .u8 0, .int .u8 0, .int .u8 0, .int .u8 0, .int .u8 0, .int .u8 0, .int .u8 0, .int .u8 0, .int .u8 0, .int .u8 0, .int .u8 0, .int .u8 0, .int .u8 0, .int .u8 0, .int .u8 0, .int .u8 0] 29)).setCells w8.heap.size 0 (row .u8 32 hi)) := below_setAll ((Below.refl w8.heap.size w8).alloc (Nat.le_refl _) _) _ (Nat.le_refl _) 0 _
        have HT := ((Kr.init w8).fresh .u8 32 hi #[.int .u8 0, .int .u8 0, .int .u8 0, .int .u8 0, .int .u8 0, .int .u8 0, .int .u8 0, .int .u8 0, .int .u8 0, .int .u8 0, .int .u8 0, .int .u8 0, .int .u8 0, .int .u8 0, .int .u8 0, .int .u8 0, .int .u8 0, .int .u8 0, .int .u8 0, .int .u8 0, .int .u8 0, .int .u8 0, .int .u8 0, .int .u8 0, .int .u8 0, .int .u8 0, .int .u8 0, .int .u8 0, .int .u8 0, .int .u8 0, .int .u8 0, .int .u8 0] 29 (key_zero _ _ _ rfl).there).get _ _ _ _ List.mem_cons_self
        replace hob := hob.below hbl
        replace K := K.call hbl
        clear hbl
        generalize ((w8.alloc (.cells #[.int .u8 0, .int .u8 0, .int .u8 0, .int .u8 0, .int .u8 0, .int .u8 0, .int .u8 0, .int .u8 0, .int .u8 0, .int .u8 0, .int .u8 0, .int .u8 0, .int .u8 0, .int .u8 0, .int .u8 0, .int .u8 0, .int .u8 0, .int .u8 0, .int .u8 0, .int .u8 0, .int .u8 0, .int .u8 0, .int .u8 0, .int .u8 0, .int .u8 0, .int .u8 0, .int .u8 0, .int .u8 0, .int .u8 0, .int .u8 0, .int .u8 0, .int .u8 0] 29)).setCells w8.heap.size 0 (row .u8 32 hi)) = w9 at K hob HT ⊢
        generalize w8.heap.size = T at HT ⊢
        show Exit.then _ _ _ _ _
        go_upto_region 15 with fail
        refine wp_region_held_drew (S := fun w' => Kr w w.heap.size [] [] w') (by kernel_rfl) K.drew ?_
        clear K
        intro K
        replace HT := HT.drew
        replace hob := hob.drew
        generalize w9.drew = wa at K HT hob ⊢
        have hTl := World.block_lt_of_cell? wa ⟨T, 0, none⟩ (HT.cell 0 (by decide))
        refine pureH (i := 0) (some 44) rfl (.bool true) rfl rfl (fun _ => by kernel_rfl) (by kernel_rfl) (by kernel_rfl) (by kernel_rfl) (fun _ _ _ h => h) K ?_
        simp only [Act.put, List.setIfInBounds_toArray, List.set_cons_zero, List.set_cons_succ]
        refine pureH (i := 1) (some 45) rfl (.bool true) rfl rfl (fun _ => by kernel_rfl) (by kernel_rfl) (by kernel_rfl) (by kernel_rfl) (fun _ _ _ h => h) K ?_
        simp only [Act.put, List.setIfInBounds_toArray, List.set_cons_zero, List.set_cons_succ]
        refine pureH (i := 2) (some 46) rfl (.slice kp kl kc) rfl rfl (fun _ => by kernel_rfl) (by kernel_rfl) (by kernel_rfl) (by kernel_rfl) (fun _ _ _ h => h) K ?_
        simp only [Act.put, List.setIfInBounds_toArray, List.set_cons_zero, List.set_cons_succ]
        refine pureH (i := 3) (some 47) rfl (.slice sp len cap) rfl rfl (fun _ => by kernel_rfl) (by kernel_rfl) (by kernel_rfl) (by kernel_rfl) (fun _ _ _ h => h) K ?_
        simp only [Act.put, List.setIfInBounds_toArray, List.set_cons_zero, List.set_cons_succ]
        refine pureH (i := 5) (some 49) rfl vb rfl rfl (fun _ => by kernel_rfl) (by kernel_rfl) (by kernel_rfl) (by kernel_rfl) (fun _ _ _ h => h) K ?_
        simp only [Act.put, List.setIfInBounds_toArray, List.set_cons_zero, List.set_cons_succ]
        refine pureH (i := 6) (some 50) rfl (.slice (some ⟨T, 0, none⟩) 32 32) rfl rfl (fun _ => by kernel_rfl) (by kernel_rfl) (by kernel_rfl) (by kernel_rfl) (fun _ _ _ h => h) K ?_
        simp only [Act.put, List.setIfInBounds_toArray, List.set_cons_zero, List.set_cons_succ]
        refine callH (i := 4) (some 48) rfl (by kernel_rfl) rfl rfl (fun _ => by kernel_rfl) (hM kp kl kc (by omega) hck hnk key hik sp len cap (by omega) hcb hnb z hib _ (hg.below K.below hg.size) (hsk.below K.below (Nat.le_refl _)) (hsb.below K.below (Nat.le_refl _))) ?_
        rintro e wb ⟨rfl, l⟩
        replace K := K.call l
        replace HT := HT.below l hTl
        replace hob := hob.below l
        clear l
        refine ⟨_, rfl, K, ?_⟩
        simp only [Act.put, List.setIfInBounds_toArray, List.set_cons_zero, List.set_cons_succ]
        obtain ⟨v2, wc, hr, ho, hgr, _⟩ := run_append_Own (P := Tryd.prog) (ty := 22) Tryd.underlying22 one8 hob (some ⟨T, 0, none⟩) 32 32 hi (fun j hj => ⟨_, rfl, by rw [Addr.add_mid, Nat.zero_add]; exact HT.cell j hj⟩) (fun e => by cases e) (by unfold maxLen; omega) (by omega) K.size
        replace K := K.grown hgr (fun b hb => (World.ownsRow.lt hob b hb).1)
        refine actH (i := 7) (some 51) rfl v2 (by kernel_rfl) rfl rfl (appendOp _ _ 22 _ _ _ rfl rfl rfl hr) K ?_
        simp only [Act.put, List.setIfInBounds_toArray, List.set_cons_zero, List.set_cons_succ]
        obtain ⟨op, oc, rfl, hoc, hos⟩ := ho.bytes
        have hhi2 := hhi.out
        refine callH (i := 8) (some 52) rfl (by kernel_rfl) rfl rfl (fun _ => by kernel_rfl) (hH op 96 oc (by omega) hoc ho.nilCap (app (bxx 92 (bkk kl key)) 64 hi) (app_in 64 32 _ _ (bxx_in 92 (by decide) _ 64 hk64) (by rw [hhi2]; exact bhash_in _ _ _)) _ (hg.below K.below hg.size) hos) ?_
        rintro e wd ⟨rfl, l⟩
        replace K := K.call l
        clear l
        refine ⟨_, rfl, K, ?_⟩
        simp only [Act.put, List.setIfInBounds_toArray, List.set_cons_zero, List.set_cons_succ]
        refine pureH (i := 9) (some 53) rfl (.bool true) rfl rfl (fun w => eqlV 32 (bmac kl key len z) (bhash 96 (app (bxx 92 (bkk kl key)) 64 hi)) 29 5 _ _ _ rfl rfl rfl Tryd.underlying29 Tryd.underlying5 (fun _ => by kernel_rfl) (by kernel_rfl) (bhash_in _ _ _) (bhash_in _ _ _) true (decide_eq_true (by rw [hhi2]; rfl)) w) (by kernel_rfl) (by kernel_rfl) (by kernel_rfl) (fun _ _ _ h => h) K ?_
        simp only [Act.put, List.setIfInBounds_toArray, List.set_cons_zero, List.set_cons_succ]
        refine pureH (i := 10) (some 54) rfl (.bool true) rfl rfl (fun _ => by kernel_rfl) (by kernel_rfl) (by kernel_rfl) (by kernel_rfl) (fun _ _ _ h => h) K ?_
        simp only [Act.put, List.setIfInBounds_toArray, List.set_cons_zero, List.set_cons_succ]
        refine pureH (i := 11) (some 4) rfl (.bool true) rfl rfl (fun _ => by kernel_rfl) (by kernel_rfl) (by kernel_rfl) (by kernel_rfl) (fun _ _ _ h => h) K ?_
        simp only [Act.put, List.setIfInBounds_toArray, List.set_cons_zero, List.set_cons_succ]
        refine wpAnyH_done (by kernel_rfl) ?_ _
        have hB := K.below
        clear K
        go_wp2
        go_ret
        exact ⟨rfl, hB⟩
end Go.Proofs.YtmchfdfmcobenaaDoor
