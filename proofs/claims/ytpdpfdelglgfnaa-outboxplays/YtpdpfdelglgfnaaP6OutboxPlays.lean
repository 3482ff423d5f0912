/- Texts of LawOutboxPlays Sl Ln, joined. -/
import Derived.Test.YtpdpfdelglgfnaaP5OutboxPlays
import Derived.Lib.AppendZerosOnto
import Derived.Deep.DeepAppendWide
import Derived.Deep.CutBlock
import Derived.Deep.DeepCutAuto
set_option maxRecDepth 20000
set_option maxHeartbeats 64000000
namespace Go.Proofs.Ytpdpfdelglgfnaa
open Go.RowKit
theorem onB_le6 {o:Obx} (hW:ObxW o) (n:Int) (h:o.b.length≤1000000):(onB o n).length≤1000000:=by
 have h1_:=(onN_le hW n).1
 unfold onB
 rw [List.length_take]
 omega
theorem law_OutboxPlays {I:OutI} (hK:OutOK I) (hC:OutCl I) (z:Int) (hz:i64 z) (sp:Option Addr) (cap:Nat) (l:List Opv) (_maxl:l.length≤140737488351232) (w0:World) (hin:OpsIn w0 140737488351232 sp l) :
 Calls Try.prog 3 #[.int .i64 z,.slice sp l.length cap] w0 fun e w'=>e=.returned (.bool true)∧Below w0.heap.size w0 w':=by
 have M:=Mm.init w0
 go_enter Try.func3,Try.ntmps3
 go_upto_region 0 with fail; refine wp_region_list ?_; refine xpL (.bool false) ?_; refine xT ?_; go_upto_region 1 with fail; refine wp_region_list ?_; have key:=shown18_any hK w0; refine xcL key ?_; clear key; rintro e w1 ⟨rfl,l_⟩; replace M:=M.call l_; clear l_; refine xeL ?_; refine xpL (.bool true) ?_; refine xT ?_; go_upto_region 2 with fail; refine wp_region_list ?_
 refine xpL (.int .i64 z) ?_; have key:=hK.new w0 _ _ z hz M; refine xcL key ?_; clear key; rintro e w2 ⟨v_,ba0,rfl,hIa,M',l_⟩
 obtain ⟨Ra,rfl⟩:=hK.ptr _ _ _ _ hIa
 clear M; have M:=M'.perm (pull0 ([]:List (Nat × List Value)) ba0 ([]:List (Nat × List Value))).symm; clear M'; clear l_
 replace M:Mm w0 ((ba0++([]:List (Nat × List Value)))) w2:=M
 refine xeL ?_; refine xpL (.pointer (some ⟨Ra,0,none⟩)) ?_; refine xT ?_; go_upto_region 3 with fail; refine wp_region_list ?_; refine xpL (.int .i64 z) ?_; have key:=dnew_any w0 _ _ z M; refine xcL key ?_; clear key; rintro e w3 ⟨Ry,rfl,M',l_⟩
 obtain ⟨by0,hby,hIy⟩:∃ b_,b_=[(Ry,dcs (onew z) none none none 0 0 0)]∧DI18 w0 w3 (.pointer (some ⟨Ry,0,none⟩)) (onew z) b_:=⟨_,rfl,di18_new z M'⟩
 have M2:Mm w0 (by0++((ba0++([]:List (Nat × List Value))))) w3:=by rw [hby]; exact M'
 clear M M' hby; have M:=M2.perm (pull0 ([]:List (Nat × List Value)) by0 (ba0++([]:List (Nat × List Value)))).symm; clear M2; replace hIa:=hK.bel hIa l_; clear l_
 replace M:Mm w0 ((by0++(ba0++([]:List (Nat × List Value))))) w3:=M
 refine xeL ?_; refine xpL (.pointer (some ⟨Ry,0,none⟩)) ?_; refine xT ?_; go_upto_region 4 with fail; refine wp_region_list ?_; refine xpL (.bool true) ?_; refine xpL (.bool false) ?_; refine xpL (.bool false) ?_; refine xpL (.pointer (some ⟨Ra,0,none⟩)) ?_; refine xpL (.bool false) ?_; refine xpL (.bool false) ?_; refine xT ?_; go_upto_region 6 with fail; refine wp_region_list ?_
 refine xpL (.int .i64 0) ?_; refine xT ?_; have HI:=show Hid _ from (show ObxW (onew z)∧(onew z:Obx).b.length≤1000*0∧I w3 (.pointer (some ⟨Ra,0,none⟩)) (onew z) ba0∧DI18 w0 w3 (.pointer (some ⟨Ry,0,none⟩)) (onew z) by0∧Mm w0 (by0++(ba0++([]:List (Nat × List Value)))) w3 from ⟨onew_w z,xnR _,hIa,hIy,M⟩); clear M hIa hIy; go_wp2
 go_loopw [6,8] (fun r_ i w'=>∃ (q:Nat) (o:Obx) (gy ga:List (Nat × List Value)),q≤60∧q≤l.length∧i=.int .i64 (q:Int)∧ObxW o∧(o:Obx).b.length≤1000*q∧I w' r_ o ga∧DI18 w0 w' (.pointer (some ⟨Ry,0,none⟩)) o gy∧Mm w0 (gy++(ga++([]:List (Nat × List Value)))) w') (fun _ i _=>l.length-(intOf i).toNat)
 case atStart=>exact ⟨0,_,_,_,by omega,by omega,rfl,HI.out⟩
 case round =>
  clear HI
  obtain ⟨q,o,gy,ga,hq,hq2,rfl,hW,hln,hIa,hIy,M⟩:=hrel
  obtain ⟨Ra,rfl⟩:=hK.ptr _ _ _ _ hIa
  go_upto_region 7 with fail; refine wp_region_list ?_; refine xpL (.int .i64 (q:Int)) ?_; refine xpL (.slice sp l.length cap) ?_; refine xaL (.int .i64 ((l.length:Nat):Int)) (lenS _ 22 31 sp l.length cap rfl Try.underlying22 rfl _) ?_
  obtain ⟨b1,hb1⟩:∃ y_,y_=(decide ((q:Int)<((l.length:Nat):Int))):=⟨_,rfl⟩
  refine xaL (.bool b1) (lssI .i64 _ _ _ _ _ _ rfl rfl rfl b1 hb1.symm _) ?_; refine xpL (.bool b1) ?_
  refine mayL (b1) (.int .i64 (q:Int)) ((bif b1 then (.int .i64 (q:Int)) else undef)) (by cases b1 <;> rfl) (by cases b1 <;> rfl) (fun hc=>by cases b1 <;> first | (cases hc; done) | kernel_rfl) ?_
  simp only [aP,lI,l0,lS]
  obtain ⟨b2,hb2⟩:∃ y_,y_=(decide ((q:Int)<60)):=⟨_,rfl⟩
  refine mayL (b1) (.bool b2) ((bif b1 then (.bool b2) else undef)) (by cases b1 <;> rfl) (by cases b1 <;> rfl) (fun hc=>by cases b1 <;> first | (cases hc; done) | exact (lssI .i64 _ _ _ _ _ _ rfl rfl rfl b2 hb2.symm _)) ?_
  simp only [aP,lI,l0,lS]
  obtain ⟨b3,hb3⟩:∃ y_,y_=(b1&&b2):=⟨_,rfl⟩
  refine xaL (.bool b3) (by subst hb3; cases b1 <;> rfl) ?_; refine xT ?_
  cases b3 with
  | true =>
    have hlt_l:q<l.length∧q<60:=by
     simp only [hb1,hb2] at hb3
     simp at hb3
     omega
    try clear hb1
    try clear hb2
    try clear hb3
    obtain ⟨hlt_l,hlt2⟩:=hlt_l
    obtain ⟨v,hv⟩:∃ v,l[q]?=some v:=⟨_,List.getElem?_eq_getElem hlt_l⟩
    obtain ⟨ad,bp,bc,rp,rc,rfl,hoc,hov⟩:=hin q v hv
    go_upto_region 9 with fail; refine wp_region_list ?_; refine xpL (.slice (some ad) l.length cap) ?_; refine xpL (.int .i64 (q:Int)) ?_; refine readL (.pointer (some (ad.add (q*5)))) rfl (idxO18 ad _ _ q hlt_l _ _ rfl rfl rfl _) ?_; simp only [aP,lI,l0,lS]
    refine xaL (.agg #[.int .i64 v.k,.int .i64 v.n,.int .i64 v.m,.slice bp v.b.length bc,.slice rp v.r.length rc]) (loadN 31 _ (ad.add (q*5)) [.int .i64 v.k,.int .i64 v.n,.int .i64 v.m,.slice bp v.b.length bc,.slice rp v.r.length rc] rfl rfl (fun _=>by kernel_rfl) (fun _=>by kernel_rfl) (fun k_ x_ hx_=>cellS18 M.below (hoc k_ x_ hx_))) ?_
    have hlb:=(Below.refl wr.heap.size wr).alloc (xnR _) (.cells #[.int .i64 0,.int .i64 0,.int .i64 0,.slice none 0 0,.slice none 0 0] 31); refine actL (w':=wr.alloc (.cells #[.int .i64 0,.int .i64 0,.int .i64 0,.slice none 0 0,.slice none 0 0] 31)) (.pointer (some ⟨wr.heap.size,0,none⟩)) rfl (by kernel_rfl) ?_; simp only [aP,lI,l0,lS]; replace hIa:=hK.bel hIa hlb
    replace hIy:=(dok18 w0).bel hIy hlb; replace M:=M.box #[.int .i64 0,.int .i64 0,.int .i64 0,.slice none 0 0,.slice none 0 0] 31 wr.heap.size rfl; clear hlb; generalize wr.alloc (.cells #[.int .i64 0,.int .i64 0,.int .i64 0,.slice none 0 0,.slice none 0 0] 31)=w4 at M hIa hIy ⊢; generalize wr.heap.size=B4 at M ⊢
    replace M:Mm w0 ((B4,[.int .i64 0,.int .i64 0,.int .i64 0,.slice none 0 0,.slice none 0 0])::(gy++(ga++([]:List (Nat × List Value))))) w4:=M
    refine skipOpL rfl (storeP [.int .i64 v.k,.int .i64 v.n,.int .i64 v.m,.slice bp v.b.length bc,.slice rp v.r.length rc] B4 0 31 _ _ rfl rfl rfl (M.thereP mS 0 5 (Nat.le_of_ble_eq_true rfl)) (by kernel_rfl) (List.all_eq_true.1 (rfl:([.int .i64 v.k,.int .i64 v.n,.int .i64 v.m,.slice bp v.b.length bc,.slice rp v.r.length rc]:List Value).all (fun u=>u.oneCell')=true))) ?_
    simp only [Act.put]; replace M:=M.setPart [.int .i64 v.k,.int .i64 v.n,.int .i64 v.m,.slice bp v.b.length bc,.slice rp v.r.length rc] 0 (Nat.le_of_ble_eq_true rfl)
    replace hIa:=hK.off _ _ _ _ _ _ hIa ((Off.refl [B4] _).setAll (b:=B4) mS 0 [.int .i64 v.k,.int .i64 v.n,.int .i64 v.m,.slice bp v.b.length bc,.slice rp v.r.length rc]) (fun b_ hb_=>by obtain rfl:=xm1 hb_; exact M.awayC (fun p_ hp_=>by simp [hp_]))
    replace hIy:=(dok18 w0).off _ _ _ _ _ _ hIy ((Off.refl [B4] _).setAll (b:=B4) mS 0 [.int .i64 v.k,.int .i64 v.n,.int .i64 v.m,.slice bp v.b.length bc,.slice rp v.r.length rc]) (fun b_ hb_=>by obtain rfl:=xm1 hb_; exact M.awayC (fun p_ hp_=>by simp [hp_]))
    generalize w4.setCells B4 0 [.int .i64 v.k,.int .i64 v.n,.int .i64 v.m,.slice bp v.b.length bc,.slice rp v.r.length rc]=w5 at M hIa hIy ⊢
    replace M:Mm w0 ((B4,[.int .i64 v.k,.int .i64 v.n,.int .i64 v.m,.slice bp v.b.length bc,.slice rp v.r.length rc])::(gy++(ga++([]:List (Nat × List Value))))) w5:=M
    refine xT ?_; go_upto_region 10 with fail; refine wp_region_list ?_; refine xpL (.pointer (some ⟨B4,0,none⟩)) ?_; refine xaL (.int .i64 v.k) (load1 3 _ ⟨B4,0,none⟩ _ rfl rfl (fun _=>by kernel_rfl) (M.get mS 0 _ rfl)) ?_; have key:=kind18_any v.k 8 (by decide) hov.k_i w5; refine xcL key ?_; clear key; rintro e w6 ⟨rfl,l_⟩; replace M:=M.call l_; replace hIa:=hK.bel hIa l_
    replace hIy:=(dok18 w0).bel hIy l_; clear l_; refine xeL ?_; have hkd:=kdn_lt v.k 8 (by decide); generalize kdn v.k 8=kz at hkd ⊢; refine xT ?_
    go_upto_block 2 with fail
    go_cut [6] (fun r_ wx=>∃ (o2:Obx) (gy2 ga2:List (Nat × List Value)),(∃ Rx_,r_=.pointer (some ⟨Rx_,0,none⟩))∧ObxW o2∧(o2:Obx).b.length≤1000*(q+1)∧I wx r_ o2 ga2∧DI18 w0 wx (.pointer (some ⟨Ry,0,none⟩)) o2 gy2∧Mm w0 (gy2++(ga2++([]:List (Nat × List Value)))) wx)
    case first =>
     go_upto_region 11 with fail; refine wp_region_list ?_; refine xaL (.bool (decide (kz=0))) (eqlI .i64 _ _ _ _ _ _ rfl rfl rfl (decide (kz=0)) (by rw [Bool.eq_iff_iff,beq_iff_eq,decide_eq_true_iff]; omega) _) ?_; refine xpL (.bool (decide (kz=0))) ?_; refine xT ?_
     go_upto_if 48 with fail
     go_cut [48] (fun b_ wx=>b_=.bool (decide (kz<2))∧w6=wx)
     case first =>
      by_cases c_:kz=0
      · rw [decide_eq_true c_]
        go_wp2
        go_meet
        exact ⟨by rw [decide_eq_true (show kz<2 by omega)],rfl⟩
      · rw [decide_eq_false c_]
        go_upto_region 12 with fail; refine wp_region_list ?_; refine xaL (.bool (decide (kz<2))) (eqlI .i64 _ _ _ _ _ _ rfl rfl rfl (decide (kz<2)) (by rw [Bool.eq_iff_iff,beq_iff_eq,decide_eq_true_iff]; omega) _) ?_; refine xpL (.bool (decide (kz<2))) ?_; refine xT ?_; go_wp2
        go_meet
        exact ⟨rfl,rfl⟩
     case rest =>
      obtain ⟨rfl,rfl⟩:=hcut
      by_cases c48:kz<2
      · rw [decide_eq_true c48]
        as_aux_lemma =>
         clear c48 hkd; go_upto_region 13 with fail; refine wp_region_list ?_; refine xpL (.pointer (some ⟨B4,3,none⟩)) ?_; refine xaL (.slice bp v.b.length bc) (load1 28 _ ⟨B4,3,none⟩ _ rfl rfl (fun _=>by kernel_rfl) (M.get mS 3 _ rfl)) ?_; refine xpL (.slice bp v.b.length bc) ?_; refine xT ?_; go_upto_region 14 with fail; refine wp_region_list ?_
         refine xpL (.slice bp v.b.length bc) ?_; refine xaL (.int .i64 ((v.b.length:Nat):Int)) (lenS _ 28 5 bp v.b.length bc rfl Try.underlying28 rfl _) ?_; refine xaL (.bool (decide (1000<v.b.length))) (gtrI .i64 _ _ _ _ _ _ rfl rfl rfl (decide (1000<v.b.length)) (by rw [Bool.eq_iff_iff,decide_eq_true_iff,decide_eq_true_iff]; omega) _) ?_; refine xT ?_
         go_upto_if 55 with fail
         go_cut [10] (fun v_ wx=>∃ (spB:Option Addr) (B:List Int) (capB:Nat),v_=.slice spB B.length capB∧B.length≤1000∧Byts B∧Src w0 spB B.length (bl B)∧B.length≤capB∧(spB=none→capB=0)∧w6=wx)
         case first =>
          by_cases hlong:1000<v.b.length
          · rw [decide_eq_true hlong]
            have hBl0:(v.b.take 1000).length=1000:=by rw [List.length_take]; omega
            have hble:=hov.b_le
            obtain ⟨spc,hcut,hsrc,hnil2⟩:=cut_hiN (P:=Try.prog) (t:=28) Try.underlying28 (fun w=>by kernel_rfl) bp v.b.length bc 1000 (by omega) hov.b_le hov.b_nil
            have srcB:Src w0 spc (v.b.take 1000).length (bl (v.b.take 1000)):=fun j hj=>by
             have h_:=hsrc _ _ hov.b_src j (by omega)
             rw [bl_takeK (show j<1000 by omega)]
             exact h_
            go_upto_region 15 with fail; refine wp_region_list ?_; refine xpL (.slice bp v.b.length bc) ?_; refine xaL (.slice spc 1000 bc) (cutHi 28 _ _ _ _ _ rfl rfl rfl (hcut _)) ?_; refine xpL (.slice spc 1000 bc) ?_; refine xT ?_; have HS:=show Hid _ from (And.intro hBl0 (And.intro srcB hnil2)); clear hcut hsrc hBl0 srcB hnil2; go_wp2
            go_meet
            exact ⟨spc,v.b.take 1000,bc,by rw [HS.out.1],by rw [HS.out.1]; exact xnR _,take_byts hov.b_byts _,HS.out.2.1,by rw [HS.out.1]; omega,HS.out.2.2,rfl⟩
          · rw [decide_eq_false hlong]
            go_wp2
            go_meet
            exact ⟨bp,v.b,bc,rfl,by omega,hov.b_byts,hov.b_src,hov.b_le,hov.b_nil,rfl⟩
         case rest =>
          obtain ⟨spB,B,capB,rfl,hBl,hB,srcB,hble,hnilB,rfl⟩:=hcut
          have hnw:=owN_le o B.length; go_upto_region 16 with fail; refine wp_region_list ?_; have V_A:=World.ownsRow_lit (base:=w0.heap.size) (e:=5) (size:=1) w6 #[] 0 M.below.size (Nat.zero_le _) rfl; have hlb:=(Below.refl w6.heap.size w6).alloc (xnR _) (.cells #[] 5); refine actL (w':=w6.alloc (.cells #[] 5)) (.slice (some ⟨w6.heap.size,0,none⟩) 0 0) rfl (by kernel_rfl) ?_
          simp only [aP,lI,l0,lS]; replace hIa:=hK.bel hIa hlb; replace hIy:=(dok18 w0).bel hIy hlb
          have M':=M.rowNil #[] 5
          clear M hlb
          obtain ⟨sA0,hsu⟩:∃ su,su=(some ⟨w6.heap.size,0,none⟩:Option Addr):=⟨_,rfl⟩
          rw [← hsu] at M' V_A ⊢
          generalize w6.alloc (.cells #[] 5)=w7 at M' V_A hIa hIy ⊢; have M:=M'.perm (pull0 ([(B4,[.int .i64 v.k,.int .i64 v.n,.int .i64 v.m,.slice bp v.b.length bc,.slice rp v.r.length rc])]:List (Nat × List Value)) (obs sA0) (gy++(ga++([]:List (Nat × List Value))))).symm; clear M' hsu
          replace M:Mm w0 ((B4,[.int .i64 v.k,.int .i64 v.n,.int .i64 v.m,.slice bp v.b.length bc,.slice rp v.r.length rc])::((obs sA0)++(gy++(ga++([]:List (Nat × List Value)))))) w7:=M
          refine xpL (.slice spB B.length capB) ?_
          obtain ⟨v2,w8,hr,V2,hgr,hg2⟩:=run_append_Own (P:=Try.prog) (ty:=28) Try.underlying28 one8 (show Own _ w0.heap.size 5 .u8 0 (fun _=>0) _ from V_A) spB B.length capB (bl B) (srcB.below M.below (xnR _)) hnilB (by unfold maxLen; omega) (by omega) M.below.size
          have Mp:=M.perm (pull0 ([(B4,[.int .i64 v.k,.int .i64 v.n,.int .i64 v.m,.slice bp v.b.length bc,.slice rp v.r.length rc])]:List (Nat × List Value)) (obs sA0) (gy++(ga++([]:List (Nat × List Value)))))
          obtain ⟨sA8,cA8,rfl,_,_⟩:=row_form16 V2
          have M':=Mp.rowApp V_A hgr V2 hg2 (xnR _)
          have oS:Off (ob sA0) w7 w8:=(Off.refl (ob sA0) w7).grown hgr (fun b_ hb_=>.inl ((ob_own _ _ _ _).1 hb_))
          replace hIa:=hK.off _ _ _ _ _ _ hIa oS (fun b_ hb_=>Mp.awayG (fun p_ hp_=>by simp [hp_]) b_ (by rw [obs_fst]; exact hb_)); replace hIy:=(dok18 w0).off _ _ _ _ _ _ hIy oS (fun b_ hb_=>Mp.awayG (fun p_ hp_=>by simp [hp_]) b_ (by rw [obs_fst]; exact hb_)); refine xaL _ (appendOp _ _ 28 _ _ _ rfl rfl rfl hr) ?_; clear hr hgr hg2 V_A oS Mp M
          rw [Nat.zero_add] at V2 ⊢
          replace V2:=Own.congr V2 (fun j _=>app_zero _ (bl B) j)
          have V_A:w8.ownsRow w0.heap.size 5 1 (.slice sA8 B.length cA8) B.length (row .u8 B.length (bl B)):=V2
          clear V2
          have M:Mm w0 ((B4,[.int .i64 v.k,.int .i64 v.n,.int .i64 v.m,.slice bp v.b.length bc,.slice rp v.r.length rc])::((obs sA8)++(gy++(ga++([]:List (Nat × List Value)))))) w8:=M'.perm (pull0 ([(B4,[.int .i64 v.k,.int .i64 v.n,.int .i64 v.m,.slice bp v.b.length bc,.slice rp v.r.length rc])]:List (Nat × List Value)) (obs sA8) (gy++(ga++([]:List (Nat × List Value))))).symm
          clear M'; refine xpL (.slice sA8 B.length cA8) ?_; refine xT ?_; go_upto_region 17 with fail; refine wp_region_list ?_; refine xpL (.pointer (some ⟨Ra,0,none⟩)) ?_; refine xpL (.slice sA8 B.length cA8) ?_
          have Mp:=M.perm (pull2 ([(B4,[.int .i64 v.k,.int .i64 v.n,.int .i64 v.m,.slice bp v.b.length bc,.slice rp v.r.length rc])]:List (Nat × List Value)) (obs sA8) gy ga ([]:List (Nat × List Value)))
          have key:=hK.wrt w0 _ _ o ga _ sA8 cA8 B hW (by omega) (by omega) (Own.le (show Own _ w0.heap.size 5 .u8 B.length (bl B) _ from V_A)) (Own.nilCap (show Own _ w0.heap.size 5 .u8 B.length (bl B) _ from V_A)) hB hIa Mp (Own.srcB (show Own _ w0.heap.size 5 .u8 B.length (bl B) _ from V_A) (Mp.awayS (fun p_ hp_=>by simp [hp_]))); refine xcL key ?_; clear key
          rintro e w9 ⟨ba1,rfl,hI_,M',o1⟩; replace hIy:=(dok18 w0).off _ _ _ _ _ _ hIy o1 (Mp.awayG (fun p_ hp_=>by simp [hp_])); replace V_A:=ownsRow_away V_A o1 (Mp.awayS (fun p_ hp_=>by simp [hp_])); clear o1 Mp M hIa; have hIa:=hI_; clear hI_
          have M:Mm w0 ((B4,[.int .i64 v.k,.int .i64 v.n,.int .i64 v.m,.slice bp v.b.length bc,.slice rp v.r.length rc])::(ba1++((obs sA8)++(gy++([]:List (Nat × List Value)))))) w9:=M'.perm (pull0 ([(B4,[.int .i64 v.k,.int .i64 v.n,.int .i64 v.m,.slice bp v.b.length bc,.slice rp v.r.length rc])]:List (Nat × List Value)) ba1 ((obs sA8)++(gy++([]:List (Nat × List Value))))).symm
          clear M'; refine xeL ?_; refine xpL (.pointer (some ⟨Ry,0,none⟩)) ?_; refine xpL (.slice spB B.length capB) ?_; have Mp:=M.perm (pull2 ([(B4,[.int .i64 v.k,.int .i64 v.n,.int .i64 v.m,.slice bp v.b.length bc,.slice rp v.r.length rc])]:List (Nat × List Value)) ba1 (obs sA8) gy ([]:List (Nat × List Value)))
          have key:=(dok18 w0).wrt w0 _ _ o gy _ spB capB B hW (by omega) (by omega) hble hnilB hB hIy Mp ((SrcA.of_old srcB Mp.los).off (Off.of_below Mp.below)); refine xcL key ?_; clear key; rintro e w10 ⟨by1,rfl,hI_,M',o1⟩; replace hIa:=hK.off _ _ _ _ _ _ hIa o1 (Mp.awayG (fun p_ hp_=>by simp [hp_])); replace V_A:=ownsRow_away V_A o1 (Mp.awayS (fun p_ hp_=>by simp [hp_]))
          clear o1 Mp M hIy; have hIy:=hI_; clear hI_
          have M:Mm w0 ((B4,[.int .i64 v.k,.int .i64 v.n,.int .i64 v.m,.slice bp v.b.length bc,.slice rp v.r.length rc])::(by1++(ba1++((obs sA8)++([]:List (Nat × List Value)))))) w10:=M'.perm (pull0 ([(B4,[.int .i64 v.k,.int .i64 v.n,.int .i64 v.m,.slice bp v.b.length bc,.slice rp v.r.length rc])]:List (Nat × List Value)) by1 (ba1++((obs sA8)++([]:List (Nat × List Value))))).symm
          clear M'; refine xeL ?_; refine xaL (.bool false) (neqI .i64 _ _ _ _ _ _ rfl rfl rfl false (bne_self_eq_false _) _) ?_; refine xT ?_; go_upto_region 19 with fail; refine wp_region_list ?_; refine xpL (.int .i64 0) ?_; refine xT ?_
          have HI:=show Hid _ from (show Mm w0 ((B4,[.int .i64 v.k,.int .i64 v.n,.int .i64 v.m,.slice bp v.b.length bc,.slice rp v.r.length rc])::(by1++(ba1++((obs sA8)++([]:List (Nat × List Value)))))) w10∧I w10 (.pointer (some ⟨Ra,0,none⟩)) (owr o B) ba1∧DI18 w0 w10 (.pointer (some ⟨Ry,0,none⟩)) (owr o B) by1∧w10.ownsRow w0.heap.size 5 1 (.slice sA8 B.length cA8) B.length (row .u8 B.length (bl B)) from ⟨M,hIa,hIy,V_A⟩)
          clear M hIa hIy V_A; go_wp2
          go_loopw [12] (fun i w'=>∃ (k:Nat) (xs:List Value),k≤B.length∧i=.int .i64 (k:Int)∧xs.length=B.length∧Mm w0 ((B4,[.int .i64 v.k,.int .i64 v.n,.int .i64 v.m,.slice bp v.b.length bc,.slice rp v.r.length rc])::(by1++(ba1++((obs sA8)++([]:List (Nat × List Value)))))) w'∧I w' (.pointer (some ⟨Ra,0,none⟩)) (owr o B) ba1∧DI18 w0 w' (.pointer (some ⟨Ry,0,none⟩)) (owr o B) by1∧w'.ownsRow w0.heap.size 5 1 (.slice sA8 B.length cA8) B.length xs) (fun i _=>B.length-(intOf i).toNat)
          case atStart=>exact ⟨0,_,Nat.zero_le _,rfl,row_length _ _ _,HI.out⟩
          case round =>
           clear HI
           obtain ⟨k,xs,hk,rfl,hxl,M,hIa,hIy,V_A⟩:=hrel
           by_cases hkl:k<B.length
           · go_upto_region 20 with fail
             refine wp_region_list ?_; refine xpL (.int .i64 (k:Int)) ?_; refine xpL (.slice sA8 B.length cA8) ?_; refine xaL (.int .i64 ((B.length:Nat):Int)) (lenS _ 28 5 sA8 B.length cA8 rfl Try.underlying28 rfl _) ?_; refine xaL (.bool true) (lssI .i64 _ _ _ _ _ _ rfl rfl rfl true (decide_eq_true (by omega)) _) ?_; refine xT ?_
             have hjx:k<B.length:=hkl
             obtain ⟨gA,hg_A⟩:=row_some16 V_A (by omega)
             go_upto_region 22 with fail; refine wp_region_list ?_; refine xpL (.slice sA8 B.length cA8) ?_; refine xpL (.int .i64 (k:Int)) ?_; refine xaL (.pointer (some ⟨gA,k,none⟩)) (idxRowE 28 5 sA8 gA _ _ k hg_A _ _ Try.underlying28 (fun _=>by kernel_rfl) hjx rfl rfl rfl _) ?_
             have Mp:=M.perm (pull2 ([(B4,[.int .i64 v.k,.int .i64 v.n,.int .i64 v.m,.slice bp v.b.length bc,.slice rp v.r.length rc])]:List (Nat × List Value)) by1 ba1 (obs sA8) ([]:List (Nat × List Value)))
             obtain ⟨hsf,M',V2,oS⟩:=Mp.putRow V_A hg_A (xnR _) k (by rw [hxl]; exact hjx) (.int .u8 99)
             refine skipOpL rfl (storeAny (.int .u8 99) gA k 5 _ _ rfl rfl rfl rfl rfl hsf.1 hsf.2 (by kernel_rfl)) ?_; simp only [Act.put]; replace hIa:=hK.off _ _ _ _ _ _ hIa oS (fun b_ hb_=>Mp.awayG (fun p_ hp_=>by simp [hp_]) b_ (by rw [obs_fst]; exact hb_))
             replace hIy:=(dok18 w0).off _ _ _ _ _ _ hIy oS (fun b_ hb_=>Mp.awayG (fun p_ hp_=>by simp [hp_]) b_ (by rw [obs_fst]; exact hb_)); clear M Mp oS hsf V_A; have V_A:=V2; clear V2; generalize wr.setCell ⟨gA,k,none⟩ (.int .u8 99)=w11 at M' hIa hIy V_A ⊢
             have M:Mm w0 ((B4,[.int .i64 v.k,.int .i64 v.n,.int .i64 v.m,.slice bp v.b.length bc,.slice rp v.r.length rc])::((obs sA8)++(by1++(ba1++([]:List (Nat × List Value)))))) w11:=M'.perm (pull0 ([(B4,[.int .i64 v.k,.int .i64 v.n,.int .i64 v.m,.slice bp v.b.length bc,.slice rp v.r.length rc])]:List (Nat × List Value)) (obs sA8) (by1++(ba1++([]:List (Nat × List Value))))).symm
             clear M'; refine xT ?_
             replace M:Mm w0 ((B4,[.int .i64 v.k,.int .i64 v.n,.int .i64 v.m,.slice bp v.b.length bc,.slice rp v.r.length rc])::(ba1++((obs sA8)++(by1++([]:List (Nat × List Value)))))) w11:=(M.perm (pull2 ([(B4,[.int .i64 v.k,.int .i64 v.n,.int .i64 v.m,.slice bp v.b.length bc,.slice rp v.r.length rc])]:List (Nat × List Value)) (obs sA8) by1 ba1 ([]:List (Nat × List Value)))).perm (pull0 ([(B4,[.int .i64 v.k,.int .i64 v.n,.int .i64 v.m,.slice bp v.b.length bc,.slice rp v.r.length rc])]:List (Nat × List Value)) ba1 ((obs sA8)++(by1++([]:List (Nat × List Value))))).symm
             replace M:Mm w0 ((B4,[.int .i64 v.k,.int .i64 v.n,.int .i64 v.m,.slice bp v.b.length bc,.slice rp v.r.length rc])::(by1++(ba1++((obs sA8)++([]:List (Nat × List Value)))))) w11:=(M.perm (pull2 ([(B4,[.int .i64 v.k,.int .i64 v.n,.int .i64 v.m,.slice bp v.b.length bc,.slice rp v.r.length rc])]:List (Nat × List Value)) ba1 (obs sA8) by1 ([]:List (Nat × List Value)))).perm (pull0 ([(B4,[.int .i64 v.k,.int .i64 v.n,.int .i64 v.m,.slice bp v.b.length bc,.slice rp v.r.length rc])]:List (Nat × List Value)) by1 (ba1++((obs sA8)++([]:List (Nat × List Value))))).symm
             have HS:=show Hid _ from (show Mm w0 ((B4,[.int .i64 v.k,.int .i64 v.n,.int .i64 v.m,.slice bp v.b.length bc,.slice rp v.r.length rc])::(by1++(ba1++((obs sA8)++([]:List (Nat × List Value)))))) w11∧I w11 (.pointer (some ⟨Ra,0,none⟩)) (owr o B) ba1∧DI18 w0 w11 (.pointer (some ⟨Ry,0,none⟩)) (owr o B) by1∧w11.ownsRow w0.heap.size 5 1 (.slice sA8 B.length cA8) B.length (xs.set k (.int .u8 99)) from ⟨M,hIa,hIy,V_A⟩)
             clear M hIa hIy V_A; go_wp2
             go_roundw
             case rel=>first | exact ⟨k+1,_,by omega,by go_num,by rw [List.length_set]; exact hxl,HS.out⟩ | ((repeat apply Exists.intro); exact ⟨⟨k+1,_,by omega,by go_num,by rw [List.length_set]; exact hxl,HS.out⟩,rfl⟩)
             case measure=>simp [intOf]; omega
           · go_upto_region 20 with fail
             refine wp_region_list ?_; refine xpL (.int .i64 (k:Int)) ?_; refine xpL (.slice sA8 B.length cA8) ?_; refine xaL (.int .i64 ((B.length:Nat):Int)) (lenS _ 28 5 sA8 B.length cA8 rfl Try.underlying28 rfl _) ?_; refine xaL (.bool false) (lssI .i64 _ _ _ _ _ _ rfl rfl rfl false (decide_eq_false (by omega)) _) ?_; refine xT ?_
             replace M:Mm w0 ((B4,[.int .i64 v.k,.int .i64 v.n,.int .i64 v.m,.slice bp v.b.length bc,.slice rp v.r.length rc])::(ba1++(by1++((obs sA8)++([]:List (Nat × List Value)))))) wr:=(M.perm (pull1 ([(B4,[.int .i64 v.k,.int .i64 v.n,.int .i64 v.m,.slice bp v.b.length bc,.slice rp v.r.length rc])]:List (Nat × List Value)) by1 ba1 ((obs sA8)++([]:List (Nat × List Value))))).perm (pull0 ([(B4,[.int .i64 v.k,.int .i64 v.n,.int .i64 v.m,.slice bp v.b.length bc,.slice rp v.r.length rc])]:List (Nat × List Value)) ba1 (by1++((obs sA8)++([]:List (Nat × List Value))))).symm
             replace M:Mm w0 ((B4,[.int .i64 v.k,.int .i64 v.n,.int .i64 v.m,.slice bp v.b.length bc,.slice rp v.r.length rc])::(by1++(ba1++((obs sA8)++([]:List (Nat × List Value)))))) wr:=(M.perm (pull1 ([(B4,[.int .i64 v.k,.int .i64 v.n,.int .i64 v.m,.slice bp v.b.length bc,.slice rp v.r.length rc])]:List (Nat × List Value)) ba1 by1 ((obs sA8)++([]:List (Nat × List Value))))).perm (pull0 ([(B4,[.int .i64 v.k,.int .i64 v.n,.int .i64 v.m,.slice bp v.b.length bc,.slice rp v.r.length rc])]:List (Nat × List Value)) by1 (ba1++((obs sA8)++([]:List (Nat × List Value))))).symm
             have M2:Mm w0 (by1++(ba1++([]:List (Nat × List Value)))) wr:=(M.tail).sub _ ((List.Sublist.refl _).append ((List.Sublist.refl _).append (List.nil_sublist _)))
             have HS:=show Hid _ from (show (∃ Rx_,(.pointer (some ⟨Ra,0,none⟩):Value)=.pointer (some ⟨Rx_,0,none⟩))∧ObxW (owr o B)∧(owr o B:Obx).b.length≤1000*(q+1)∧I wr (.pointer (some ⟨Ra,0,none⟩)) (owr o B) ba1∧DI18 w0 wr (.pointer (some ⟨Ry,0,none⟩)) (owr o B) by1∧Mm w0 (by1++(ba1++([]:List (Nat × List Value)))) wr from ⟨⟨_,rfl⟩,owr_w hW hB,(by rw [owr_len]; omega),hIa,hIy,M2⟩)
             clear M M2 hIa hIy V_A; go_wp2
             go_meet
             exact ⟨owr o B,_,_,HS.out⟩
      · rw [decide_eq_false c48]
        go_upto_region 23 with fail; refine wp_region_list ?_; refine xaL (.bool (decide (kz=2))) (eqlI .i64 _ _ _ _ _ _ rfl rfl rfl (decide (kz=2)) (by rw [Bool.eq_iff_iff,beq_iff_eq,decide_eq_true_iff]; omega) _) ?_; refine xpL (.bool (decide (kz=2))) ?_; refine xT ?_
        go_upto_if 77 with fail
        go_cut [77] (fun b_ wx=>b_=.bool (decide (kz<4))∧w6=wx)
        case first =>
         by_cases c_:kz=2
         · rw [decide_eq_true c_]
           go_wp2
           go_meet
           exact ⟨by rw [decide_eq_true (show kz<4 by omega)],rfl⟩
         · rw [decide_eq_false c_]
           go_upto_region 24 with fail; refine wp_region_list ?_; refine xaL (.bool (decide (kz<4))) (eqlI .i64 _ _ _ _ _ _ rfl rfl rfl (decide (kz<4)) (by rw [Bool.eq_iff_iff,beq_iff_eq,decide_eq_true_iff]; omega) _) ?_; refine xpL (.bool (decide (kz<4))) ?_; refine xT ?_; go_wp2
           go_meet
           exact ⟨rfl,rfl⟩
        case rest =>
         obtain ⟨rfl,rfl⟩:=hcut
         by_cases c77:kz<4
         · rw [decide_eq_true c77]
           as_aux_lemma =>
            clear c48 c77 hkd; go_upto_region 25 with fail; refine wp_region_list ?_; refine xpL (.pointer (some ⟨Ra,0,none⟩)) ?_; refine xpL (.pointer (some ⟨B4,1,none⟩)) ?_; refine xaL (.int .i64 v.n) (load1 3 _ ⟨B4,1,none⟩ _ rfl rfl (fun _=>by kernel_rfl) (M.get mS 1 _ rfl)) ?_
            have Mp:=M.perm (pull1 ([(B4,[.int .i64 v.k,.int .i64 v.n,.int .i64 v.m,.slice bp v.b.length bc,.slice rp v.r.length rc])]:List (Nat × List Value)) gy ga ([]:List (Nat × List Value))); have key:=hK.nxt w0 _ _ o ga _ v.n hW (by omega) hov.n_i hIa Mp; refine xcL key ?_; clear key; rintro e w12 ⟨p12,c12,ba1,rfl,N_12,T_12,hI_,M',o1⟩
            replace hIy:=(dok18 w0).off _ _ _ _ _ _ hIy o1 (Mp.awayG (fun p_ hp_=>by simp [hp_])); clear o1 Mp M hIa; have hIa:=hI_; clear hI_
            have M:Mm w0 ((B4,[.int .i64 v.k,.int .i64 v.n,.int .i64 v.m,.slice bp v.b.length bc,.slice rp v.r.length rc])::(ba1++((obs p12)++(gy++([]:List (Nat × List Value)))))) w12:=M'.perm (pullY ([(B4,[.int .i64 v.k,.int .i64 v.n,.int .i64 v.m,.slice bp v.b.length bc,.slice rp v.r.length rc])]:List (Nat × List Value)) ba1 (obs p12) (gy++([]:List (Nat × List Value))))
            clear M'; refine xeL ?_
            obtain ⟨bs12,N_12⟩:∃ b_,NewF w12 b_ (onB o v.n:List Int).length (bl (onB o v.n)) (.slice p12 (onB o v.n:List Int).length c12):=⟨_,N_12⟩
            refine xpL (.tuple #[.agg #[.int .i64 ((onF o v.n:Nat):Int),.slice p12 ((onB o v.n:List Int).length) c12],.bool (decide (0<onN o v.n))]) ?_; refine xpL (.agg #[.int .i64 ((onF o v.n:Nat):Int),.slice p12 ((onB o v.n:List Int).length) c12]) ?_; refine xpL (.bool (decide (0<onN o v.n))) ?_
            have hlb:=(Below.refl w12.heap.size w12).alloc (xnR _) (.cells #[.int .i64 0,.slice none 0 0] 35); refine actL (w':=w12.alloc (.cells #[.int .i64 0,.slice none 0 0] 35)) (.pointer (some ⟨w12.heap.size,0,none⟩)) rfl (by kernel_rfl) ?_; simp only [aP,lI,l0,lS]; replace hIa:=hK.bel hIa hlb; replace hIy:=(dok18 w0).bel hIy hlb; replace N_12:=NewF.below N_12 hlb
            replace T_12:=Wrt.below T_12 hlb; replace M:=M.box #[.int .i64 0,.slice none 0 0] 35 w12.heap.size rfl; clear hlb; generalize w12.alloc (.cells #[.int .i64 0,.slice none 0 0] 35)=w13 at M hIa hIy N_12 T_12 ⊢; generalize w12.heap.size=B13 at M ⊢
            replace M:Mm w0 ((B13,[.int .i64 0,.slice none 0 0])::(B4,[.int .i64 v.k,.int .i64 v.n,.int .i64 v.m,.slice bp v.b.length bc,.slice rp v.r.length rc])::(ba1++((obs p12)++(gy++([]:List (Nat × List Value)))))) w13:=M
            refine skipOpL rfl (storeP [.int .i64 ((onF o v.n:Nat):Int),.slice p12 ((onB o v.n:List Int).length) c12] B13 0 35 _ _ rfl rfl rfl (M.thereP mS 0 2 (Nat.le_of_ble_eq_true rfl)) (by kernel_rfl) (List.all_eq_true.1 (rfl:([.int .i64 ((onF o v.n:Nat):Int),.slice p12 ((onB o v.n:List Int).length) c12]:List Value).all (fun u=>u.oneCell')=true))) ?_
            simp only [Act.put]; replace M:=M.setPart [.int .i64 ((onF o v.n:Nat):Int),.slice p12 ((onB o v.n:List Int).length) c12] 0 (Nat.le_of_ble_eq_true rfl)
            replace hIa:=hK.off _ _ _ _ _ _ hIa ((Off.refl [B13] _).setAll (b:=B13) mS 0 [.int .i64 ((onF o v.n:Nat):Int),.slice p12 ((onB o v.n:List Int).length) c12]) (fun b_ hb_=>by obtain rfl:=xm1 hb_; exact M.awayC (fun p_ hp_=>by simp [hp_]))
            replace hIy:=(dok18 w0).off _ _ _ _ _ _ hIy ((Off.refl [B13] _).setAll (b:=B13) mS 0 [.int .i64 ((onF o v.n:Nat):Int),.slice p12 ((onB o v.n:List Int).length) c12]) (fun b_ hb_=>by obtain rfl:=xm1 hb_; exact M.awayC (fun p_ hp_=>by simp [hp_]))
            replace N_12:=NewF.offB N_12 ((Off.refl [B13] _).setAll (b:=B13) mS 0 [.int .i64 ((onF o v.n:Nat):Int),.slice p12 ((onB o v.n:List Int).length) c12]) (fun b_ hb_=>by obtain rfl:=xm1 hb_; exact M.awayB (fun p_ hp_=>by simp [hp_]))
            replace T_12:=Wrt.offB T_12 ((Off.refl [B13] _).setAll (b:=B13) mS 0 [.int .i64 ((onF o v.n:Nat):Int),.slice p12 ((onB o v.n:List Int).length) c12]) (fun b_ hb_=>by obtain rfl:=xm1 hb_; exact M.awayB (fun p_ hp_=>by simp [hp_]))
            generalize w13.setCells B13 0 [.int .i64 ((onF o v.n:Nat):Int),.slice p12 ((onB o v.n:List Int).length) c12]=w14 at M hIa hIy N_12 T_12 ⊢
            replace M:Mm w0 ((B13,[.int .i64 ((onF o v.n:Nat):Int),.slice p12 ((onB o v.n:List Int).length) c12])::(B4,[.int .i64 v.k,.int .i64 v.n,.int .i64 v.m,.slice bp v.b.length bc,.slice rp v.r.length rc])::(ba1++((obs p12)++(gy++([]:List (Nat × List Value)))))) w14:=M
            refine xpL (.bool (decide (0<onN o v.n))) ?_; refine xT ?_; go_upto_region 26 with fail; refine wp_region_list ?_; refine xpL (.pointer (some ⟨Ry,0,none⟩)) ?_; refine xpL (.pointer (some ⟨B4,1,none⟩)) ?_; refine xaL (.int .i64 v.n) (load1 3 _ ⟨B4,1,none⟩ _ rfl rfl (fun _=>by kernel_rfl) (M.get (mT _ mS) 1 _ rfl)) ?_
            have Mp:=M.perm (pull2 ([(B13,[.int .i64 ((onF o v.n:Nat):Int),.slice p12 ((onB o v.n:List Int).length) c12]),(B4,[.int .i64 v.k,.int .i64 v.n,.int .i64 v.m,.slice bp v.b.length bc,.slice rp v.r.length rc])]:List (Nat × List Value)) ba1 (obs p12) gy ([]:List (Nat × List Value))); have key:=(dok18 w0).nxt w0 _ _ o gy _ v.n hW (by omega) hov.n_i hIy Mp
            refine xcL key ?_; clear key; rintro e w15 ⟨p15,c15,by1,rfl,N_15,T_15,hI_,M',o1⟩; replace hIa:=hK.off _ _ _ _ _ _ hIa o1 (Mp.awayG (fun p_ hp_=>by simp [hp_])); replace N_12:=NewF.offB N_12 o1 (Mp.awayS (fun p_ hp_=>by simp [hp_])); replace T_12:=Wrt.offB T_12 o1 (Mp.awayS (fun p_ hp_=>by simp [hp_])); clear o1 Mp M hIy; have hIy:=hI_; clear hI_
            have M:Mm w0 ((B13,[.int .i64 ((onF o v.n:Nat):Int),.slice p12 ((onB o v.n:List Int).length) c12])::(B4,[.int .i64 v.k,.int .i64 v.n,.int .i64 v.m,.slice bp v.b.length bc,.slice rp v.r.length rc])::(by1++((obs p15)++(ba1++((obs p12)++([]:List (Nat × List Value))))))) w15:=M'.perm (pullY ([(B13,[.int .i64 ((onF o v.n:Nat):Int),.slice p12 ((onB o v.n:List Int).length) c12]),(B4,[.int .i64 v.k,.int .i64 v.n,.int .i64 v.m,.slice bp v.b.length bc,.slice rp v.r.length rc])]:List (Nat × List Value)) by1 (obs p15) (ba1++((obs p12)++([]:List (Nat × List Value)))))
            clear M'; refine xeL ?_
            obtain ⟨bs15,N_15⟩:∃ b_,NewF w15 b_ (onB o v.n:List Int).length (bl (onB o v.n)) (.slice p15 (onB o v.n:List Int).length c15):=⟨_,N_15⟩
            refine xpL (.tuple #[.agg #[.int .i64 ((onF o v.n:Nat):Int),.slice p15 ((onB o v.n:List Int).length) c15],.bool (decide (0<onN o v.n))]) ?_; refine xpL (.agg #[.int .i64 ((onF o v.n:Nat):Int),.slice p15 ((onB o v.n:List Int).length) c15]) ?_; refine xpL (.bool (decide (0<onN o v.n))) ?_
            have hlb:=(Below.refl w15.heap.size w15).alloc (xnR _) (.cells #[.int .i64 0,.slice none 0 0] 35); refine actL (w':=w15.alloc (.cells #[.int .i64 0,.slice none 0 0] 35)) (.pointer (some ⟨w15.heap.size,0,none⟩)) rfl (by kernel_rfl) ?_; simp only [aP,lI,l0,lS]; replace hIa:=hK.bel hIa hlb; replace hIy:=(dok18 w0).bel hIy hlb; replace N_12:=NewF.below N_12 hlb
            replace T_12:=Wrt.below T_12 hlb; replace N_15:=NewF.below N_15 hlb; replace T_15:=Wrt.below T_15 hlb; replace M:=M.box #[.int .i64 0,.slice none 0 0] 35 w15.heap.size rfl; clear hlb; generalize w15.alloc (.cells #[.int .i64 0,.slice none 0 0] 35)=w16 at M hIa hIy N_12 T_12 N_15 T_15 ⊢; generalize w15.heap.size=B16 at M ⊢
            replace M:Mm w0 ((B16,[.int .i64 0,.slice none 0 0])::(B13,[.int .i64 ((onF o v.n:Nat):Int),.slice p12 ((onB o v.n:List Int).length) c12])::(B4,[.int .i64 v.k,.int .i64 v.n,.int .i64 v.m,.slice bp v.b.length bc,.slice rp v.r.length rc])::(by1++((obs p15)++(ba1++((obs p12)++([]:List (Nat × List Value))))))) w16:=M
            refine skipOpL rfl (storeP [.int .i64 ((onF o v.n:Nat):Int),.slice p15 ((onB o v.n:List Int).length) c15] B16 0 35 _ _ rfl rfl rfl (M.thereP mS 0 2 (Nat.le_of_ble_eq_true rfl)) (by kernel_rfl) (List.all_eq_true.1 (rfl:([.int .i64 ((onF o v.n:Nat):Int),.slice p15 ((onB o v.n:List Int).length) c15]:List Value).all (fun u=>u.oneCell')=true))) ?_
            simp only [Act.put]; replace M:=M.setPart [.int .i64 ((onF o v.n:Nat):Int),.slice p15 ((onB o v.n:List Int).length) c15] 0 (Nat.le_of_ble_eq_true rfl)
            replace hIa:=hK.off _ _ _ _ _ _ hIa ((Off.refl [B16] _).setAll (b:=B16) mS 0 [.int .i64 ((onF o v.n:Nat):Int),.slice p15 ((onB o v.n:List Int).length) c15]) (fun b_ hb_=>by obtain rfl:=xm1 hb_; exact M.awayC (fun p_ hp_=>by simp [hp_]))
            replace hIy:=(dok18 w0).off _ _ _ _ _ _ hIy ((Off.refl [B16] _).setAll (b:=B16) mS 0 [.int .i64 ((onF o v.n:Nat):Int),.slice p15 ((onB o v.n:List Int).length) c15]) (fun b_ hb_=>by obtain rfl:=xm1 hb_; exact M.awayC (fun p_ hp_=>by simp [hp_]))
            replace N_12:=NewF.offB N_12 ((Off.refl [B16] _).setAll (b:=B16) mS 0 [.int .i64 ((onF o v.n:Nat):Int),.slice p15 ((onB o v.n:List Int).length) c15]) (fun b_ hb_=>by obtain rfl:=xm1 hb_; exact M.awayB (fun p_ hp_=>by simp [hp_]))
            replace T_12:=Wrt.offB T_12 ((Off.refl [B16] _).setAll (b:=B16) mS 0 [.int .i64 ((onF o v.n:Nat):Int),.slice p15 ((onB o v.n:List Int).length) c15]) (fun b_ hb_=>by obtain rfl:=xm1 hb_; exact M.awayB (fun p_ hp_=>by simp [hp_]))
            replace N_15:=NewF.offB N_15 ((Off.refl [B16] _).setAll (b:=B16) mS 0 [.int .i64 ((onF o v.n:Nat):Int),.slice p15 ((onB o v.n:List Int).length) c15]) (fun b_ hb_=>by obtain rfl:=xm1 hb_; exact M.awayB (fun p_ hp_=>by simp [hp_]))
            replace T_15:=Wrt.offB T_15 ((Off.refl [B16] _).setAll (b:=B16) mS 0 [.int .i64 ((onF o v.n:Nat):Int),.slice p15 ((onB o v.n:List Int).length) c15]) (fun b_ hb_=>by obtain rfl:=xm1 hb_; exact M.awayB (fun p_ hp_=>by simp [hp_]))
            generalize w16.setCells B16 0 [.int .i64 ((onF o v.n:Nat):Int),.slice p15 ((onB o v.n:List Int).length) c15]=w17 at M hIa hIy N_12 T_12 N_15 T_15 ⊢
            replace M:Mm w0 ((B16,[.int .i64 ((onF o v.n:Nat):Int),.slice p15 ((onB o v.n:List Int).length) c15])::(B13,[.int .i64 ((onF o v.n:Nat):Int),.slice p12 ((onB o v.n:List Int).length) c12])::(B4,[.int .i64 v.k,.int .i64 v.n,.int .i64 v.m,.slice bp v.b.length bc,.slice rp v.r.length rc])::(by1++((obs p15)++(ba1++((obs p12)++([]:List (Nat × List Value))))))) w17:=M
            refine xpL (.bool (decide (0<onN o v.n))) ?_; refine xT ?_; go_upto_region 27 with fail; refine wp_region_list ?_; refine xpL (.pointer (some ⟨B13,0,none⟩)) ?_; refine xaL (.int .i64 ((onF o v.n:Nat):Int)) (load1 3 _ ⟨B13,0,none⟩ _ rfl rfl (fun _=>by kernel_rfl) (M.get (mT _ mS) 0 _ rfl)) ?_; refine xpL (.pointer (some ⟨B16,0,none⟩)) ?_
            refine xaL (.int .i64 ((onF o v.n:Nat):Int)) (load1 3 _ ⟨B16,0,none⟩ _ rfl rfl (fun _=>by kernel_rfl) (M.get mS 0 _ rfl)) ?_; refine xaL (.bool false) (neqI .i64 _ _ _ _ _ _ rfl rfl rfl false (bne_self_eq_false _) _) ?_; refine xpL (.bool false) ?_; refine xpL (.pointer (some ⟨B13,1,none⟩)) ?_
            refine xaL (.slice p12 ((onB o v.n:List Int).length) c12) (load1 28 _ ⟨B13,1,none⟩ _ rfl rfl (fun _=>by kernel_rfl) (M.get (mT _ mS) 1 _ rfl)) ?_
            refine readL (.string (txt ((onB o v.n:List Int).length) (bl (onB o v.n)))) rfl (conv_txt 28 5 9 _ rfl Try.underlying28 Try.underlying5 Try.underlying9 p12 ((onB o v.n:List Int).length) c12 (bl (onB o v.n)) rfl _ (NewF.src N_12) (fun e=>by have h1:=(NewF.nilCap N_12) e; have h2:=(NewF.le N_12); omega)) ?_
            simp only [aP,lI,l0,lS]; refine xpL (.pointer (some ⟨B16,1,none⟩)) ?_; refine xaL (.slice p15 ((onB o v.n:List Int).length) c15) (load1 28 _ ⟨B16,1,none⟩ _ rfl rfl (fun _=>by kernel_rfl) (M.get mS 1 _ rfl)) ?_
            refine readL (.string (txt ((onB o v.n:List Int).length) (bl (onB o v.n)))) rfl (conv_txt 28 5 9 _ rfl Try.underlying28 Try.underlying5 Try.underlying9 p15 ((onB o v.n:List Int).length) c15 (bl (onB o v.n)) rfl _ (NewF.src N_15) (fun e=>by have h1:=(NewF.nilCap N_15) e; have h2:=(NewF.le N_15); omega)) ?_
            simp only [aP,lI,l0,lS]; refine xaL (.bool false) (neqS _ _ _ _ _ _ rfl rfl rfl rfl _) ?_; refine xpL (.bool false) ?_; refine xpL (.bool false) ?_; refine xpL (.bool (decide (0<onN o v.n))) ?_; refine xpL (.bool (decide (0<onN o v.n))) ?_; refine xaL (.bool false) (neqBo _ _ _ _ _ _ rfl rfl rfl (by kernel_rfl) false (by rw [beq_self_eq_true]; rfl) _) ?_
            refine xpL (.bool false) ?_; refine xT ?_; go_upto_region 29 with fail; refine wp_region_list ?_; refine xpL (.int .i64 0) ?_; refine xT ?_; clear N_12 N_15 T_15
            have hBm:(onB o v.n).length≤1000000:=onB_le6 hW v.n (by omega)
            generalize onB o v.n=LB at hBm M T_12 ⊢; generalize onF o v.n=nF at M ⊢
            have HI:=show Hid _ from (show Mm w0 ((B16,[.int .i64 ((nF:Nat):Int),.slice p15 ((LB:List Int).length) c15])::(B13,[.int .i64 ((nF:Nat):Int),.slice p12 ((LB:List Int).length) c12])::(B4,[.int .i64 v.k,.int .i64 v.n,.int .i64 v.m,.slice bp v.b.length bc,.slice rp v.r.length rc])::(by1++((obs p15)++(ba1++((obs p12)++([]:List (Nat × List Value))))))) w17∧I w17 (.pointer (some ⟨Ra,0,none⟩)) (onx o v.n) ba1∧DI18 w0 w17 (.pointer (some ⟨Ry,0,none⟩)) (onx o v.n) by1∧Wrt w17 p12 (LB).length from ⟨M,hIa,hIy,T_12⟩)
            clear M hIa hIy T_12; go_wp2
            go_loopw [17] (fun i w'=>∃ (k:Nat),k≤(LB).length∧i=.int .i64 (k:Int)∧Mm w0 ((B16,[.int .i64 ((nF:Nat):Int),.slice p15 ((LB:List Int).length) c15])::(B13,[.int .i64 ((nF:Nat):Int),.slice p12 ((LB:List Int).length) c12])::(B4,[.int .i64 v.k,.int .i64 v.n,.int .i64 v.m,.slice bp v.b.length bc,.slice rp v.r.length rc])::(by1++((obs p15)++(ba1++((obs p12)++([]:List (Nat × List Value))))))) w'∧I w' (.pointer (some ⟨Ra,0,none⟩)) (onx o v.n) ba1∧DI18 w0 w' (.pointer (some ⟨Ry,0,none⟩)) (onx o v.n) by1∧Wrt w' p12 (LB).length) (fun i _=>(LB).length-(intOf i).toNat)
            case atStart=>exact ⟨0,Nat.zero_le _,rfl,HI.out⟩
            case round =>
             clear HI
             obtain ⟨k,hk,rfl,M,hIa,hIy,T_12⟩:=hrel
             by_cases hkl:k<(LB).length
             · go_upto_region 30 with fail
               refine wp_region_list ?_; refine xpL (.int .i64 (k:Int)) ?_; refine xpL (.pointer (some ⟨B13,1,none⟩)) ?_; refine xaL (.slice p12 ((LB:List Int).length) c12) (load1 28 _ ⟨B13,1,none⟩ _ rfl rfl (fun _=>by kernel_rfl) (M.get (mT _ mS) 1 _ rfl)) ?_
               refine readL (.int .i64 (((LB:List Int).length:Nat):Int)) rfl (lenS _ 28 5 p12 ((LB:List Int).length) c12 rfl Try.underlying28 rfl _) ?_; simp only [aP,lI,l0,lS]; refine xaL (.bool true) (lssI .i64 _ _ _ _ _ _ rfl rfl rfl true (decide_eq_true (by omega)) _) ?_; refine xT ?_
               obtain ⟨adq,hadq,hs1_,hs2_⟩:=T_12 k hkl
               obtain ⟨oq,hoq⟩:∃ oq,adq.add k=⟨adq.block,oq,none⟩:=⟨_,by have h_:=cell_form hs1_; rw [add_block] at h_; exact h_⟩
               go_upto_region 32 with fail; refine wp_region_list ?_; refine xpL (.pointer (some ⟨B13,1,none⟩)) ?_; refine xaL (.slice p12 ((LB:List Int).length) c12) (load1 28 _ ⟨B13,1,none⟩ _ rfl rfl (fun _=>by kernel_rfl) (M.get (mT _ mS) 1 _ rfl)) ?_; refine xpL (.int .i64 (k:Int)) ?_
               refine xaL (.pointer (some ⟨adq.block,oq,none⟩)) (by rw [← hoq]; exact idxSlE 28 5 _ _ .i64 p12 adq hadq k _ _ Try.underlying28 (fun _=>by kernel_rfl) hkl rfl rfl rfl _) ?_
               have Mp:=M.perm (pull3 ([(B16,[.int .i64 ((nF:Nat):Int),.slice p15 ((LB:List Int).length) c15]),(B13,[.int .i64 ((nF:Nat):Int),.slice p12 ((LB:List Int).length) c12]),(B4,[.int .i64 v.k,.int .i64 v.n,.int .i64 v.m,.slice bp v.b.length bc,.slice rp v.r.length rc])]:List (Nat × List Value)) by1 (obs p15) ba1 (obs p12) ([]:List (Nat × List Value)))
               obtain ⟨M',oS⟩:=Mp.putObs hadq oq (.int .u8 98)
               refine skipOpL rfl (storeAny (.int .u8 98) adq.block oq 5 _ _ rfl rfl rfl rfl rfl (by rw [← hoq]; exact hs1_) (by rw [← hoq]; exact hs2_) (by kernel_rfl)) ?_; simp only [Act.put]; replace hIa:=hK.off _ _ _ _ _ _ hIa oS (fun b_ hb_=>Mp.awayG (fun p_ hp_=>by simp [hp_]) b_ (by rw [obs_fst]; exact hb_))
               replace hIy:=(dok18 w0).off _ _ _ _ _ _ hIy oS (fun b_ hb_=>Mp.awayG (fun p_ hp_=>by simp [hp_]) b_ (by rw [obs_fst]; exact hb_)); replace T_12:=Wrt.put T_12 adq.block oq (.int .u8 98); clear M Mp oS; generalize wr.setCell ⟨adq.block,oq,none⟩ (.int .u8 98)=w18 at M' hIa hIy T_12 ⊢
               have M:Mm w0 ((B16,[.int .i64 ((nF:Nat):Int),.slice p15 ((LB:List Int).length) c15])::(B13,[.int .i64 ((nF:Nat):Int),.slice p12 ((LB:List Int).length) c12])::(B4,[.int .i64 v.k,.int .i64 v.n,.int .i64 v.m,.slice bp v.b.length bc,.slice rp v.r.length rc])::((obs p12)++(by1++((obs p15)++(ba1++([]:List (Nat × List Value))))))) w18:=M'.perm (pull0 ([(B16,[.int .i64 ((nF:Nat):Int),.slice p15 ((LB:List Int).length) c15]),(B13,[.int .i64 ((nF:Nat):Int),.slice p12 ((LB:List Int).length) c12]),(B4,[.int .i64 v.k,.int .i64 v.n,.int .i64 v.m,.slice bp v.b.length bc,.slice rp v.r.length rc])]:List (Nat × List Value)) (obs p12) (by1++((obs p15)++(ba1++([]:List (Nat × List Value)))))).symm
               clear M'; refine xT ?_
               replace M:Mm w0 ((B16,[.int .i64 ((nF:Nat):Int),.slice p15 ((LB:List Int).length) c15])::(B13,[.int .i64 ((nF:Nat):Int),.slice p12 ((LB:List Int).length) c12])::(B4,[.int .i64 v.k,.int .i64 v.n,.int .i64 v.m,.slice bp v.b.length bc,.slice rp v.r.length rc])::(ba1++((obs p12)++(by1++((obs p15)++([]:List (Nat × List Value))))))) w18:=(M.perm (pull3 ([(B16,[.int .i64 ((nF:Nat):Int),.slice p15 ((LB:List Int).length) c15]),(B13,[.int .i64 ((nF:Nat):Int),.slice p12 ((LB:List Int).length) c12]),(B4,[.int .i64 v.k,.int .i64 v.n,.int .i64 v.m,.slice bp v.b.length bc,.slice rp v.r.length rc])]:List (Nat × List Value)) (obs p12) by1 (obs p15) ba1 ([]:List (Nat × List Value)))).perm (pull0 ([(B16,[.int .i64 ((nF:Nat):Int),.slice p15 ((LB:List Int).length) c15]),(B13,[.int .i64 ((nF:Nat):Int),.slice p12 ((LB:List Int).length) c12]),(B4,[.int .i64 v.k,.int .i64 v.n,.int .i64 v.m,.slice bp v.b.length bc,.slice rp v.r.length rc])]:List (Nat × List Value)) ba1 ((obs p12)++(by1++((obs p15)++([]:List (Nat × List Value)))))).symm
               replace M:Mm w0 ((B16,[.int .i64 ((nF:Nat):Int),.slice p15 ((LB:List Int).length) c15])::(B13,[.int .i64 ((nF:Nat):Int),.slice p12 ((LB:List Int).length) c12])::(B4,[.int .i64 v.k,.int .i64 v.n,.int .i64 v.m,.slice bp v.b.length bc,.slice rp v.r.length rc])::((obs p15)++(ba1++((obs p12)++(by1++([]:List (Nat × List Value))))))) w18:=(M.perm (pull3 ([(B16,[.int .i64 ((nF:Nat):Int),.slice p15 ((LB:List Int).length) c15]),(B13,[.int .i64 ((nF:Nat):Int),.slice p12 ((LB:List Int).length) c12]),(B4,[.int .i64 v.k,.int .i64 v.n,.int .i64 v.m,.slice bp v.b.length bc,.slice rp v.r.length rc])]:List (Nat × List Value)) ba1 (obs p12) by1 (obs p15) ([]:List (Nat × List Value)))).perm (pull0 ([(B16,[.int .i64 ((nF:Nat):Int),.slice p15 ((LB:List Int).length) c15]),(B13,[.int .i64 ((nF:Nat):Int),.slice p12 ((LB:List Int).length) c12]),(B4,[.int .i64 v.k,.int .i64 v.n,.int .i64 v.m,.slice bp v.b.length bc,.slice rp v.r.length rc])]:List (Nat × List Value)) (obs p15) (ba1++((obs p12)++(by1++([]:List (Nat × List Value)))))).symm
               replace M:Mm w0 ((B16,[.int .i64 ((nF:Nat):Int),.slice p15 ((LB:List Int).length) c15])::(B13,[.int .i64 ((nF:Nat):Int),.slice p12 ((LB:List Int).length) c12])::(B4,[.int .i64 v.k,.int .i64 v.n,.int .i64 v.m,.slice bp v.b.length bc,.slice rp v.r.length rc])::(by1++((obs p15)++(ba1++((obs p12)++([]:List (Nat × List Value))))))) w18:=(M.perm (pull3 ([(B16,[.int .i64 ((nF:Nat):Int),.slice p15 ((LB:List Int).length) c15]),(B13,[.int .i64 ((nF:Nat):Int),.slice p12 ((LB:List Int).length) c12]),(B4,[.int .i64 v.k,.int .i64 v.n,.int .i64 v.m,.slice bp v.b.length bc,.slice rp v.r.length rc])]:List (Nat × List Value)) (obs p15) ba1 (obs p12) by1 ([]:List (Nat × List Value)))).perm (pull0 ([(B16,[.int .i64 ((nF:Nat):Int),.slice p15 ((LB:List Int).length) c15]),(B13,[.int .i64 ((nF:Nat):Int),.slice p12 ((LB:List Int).length) c12]),(B4,[.int .i64 v.k,.int .i64 v.n,.int .i64 v.m,.slice bp v.b.length bc,.slice rp v.r.length rc])]:List (Nat × List Value)) by1 ((obs p15)++(ba1++((obs p12)++([]:List (Nat × List Value)))))).symm
               have HS:=show Hid _ from (show Mm w0 ((B16,[.int .i64 ((nF:Nat):Int),.slice p15 ((LB:List Int).length) c15])::(B13,[.int .i64 ((nF:Nat):Int),.slice p12 ((LB:List Int).length) c12])::(B4,[.int .i64 v.k,.int .i64 v.n,.int .i64 v.m,.slice bp v.b.length bc,.slice rp v.r.length rc])::(by1++((obs p15)++(ba1++((obs p12)++([]:List (Nat × List Value))))))) w18∧I w18 (.pointer (some ⟨Ra,0,none⟩)) (onx o v.n) ba1∧DI18 w0 w18 (.pointer (some ⟨Ry,0,none⟩)) (onx o v.n) by1∧Wrt w18 p12 (LB).length from ⟨M,hIa,hIy,T_12⟩)
               clear M hIa hIy T_12; go_wp2
               go_roundw
               case rel=>first | exact ⟨k+1,by omega,by go_num,HS.out⟩ | ((repeat apply Exists.intro); exact ⟨⟨k+1,by omega,by go_num,HS.out⟩,rfl⟩)
               case measure=>simp [intOf]; omega
             · go_upto_region 30 with fail
               refine wp_region_list ?_; refine xpL (.int .i64 (k:Int)) ?_; refine xpL (.pointer (some ⟨B13,1,none⟩)) ?_; refine xaL (.slice p12 ((LB:List Int).length) c12) (load1 28 _ ⟨B13,1,none⟩ _ rfl rfl (fun _=>by kernel_rfl) (M.get (mT _ mS) 1 _ rfl)) ?_
               refine readL (.int .i64 (((LB:List Int).length:Nat):Int)) rfl (lenS _ 28 5 p12 ((LB:List Int).length) c12 rfl Try.underlying28 rfl _) ?_; simp only [aP,lI,l0,lS]; refine xaL (.bool false) (lssI .i64 _ _ _ _ _ _ rfl rfl rfl false (decide_eq_false (by omega)) _) ?_; refine xT ?_
               replace M:Mm w0 ((B16,[.int .i64 ((nF:Nat):Int),.slice p15 ((LB:List Int).length) c15])::(B13,[.int .i64 ((nF:Nat):Int),.slice p12 ((LB:List Int).length) c12])::(B4,[.int .i64 v.k,.int .i64 v.n,.int .i64 v.m,.slice bp v.b.length bc,.slice rp v.r.length rc])::(ba1++(by1++((obs p15)++((obs p12)++([]:List (Nat × List Value))))))) wr:=(M.perm (pull2 ([(B16,[.int .i64 ((nF:Nat):Int),.slice p15 ((LB:List Int).length) c15]),(B13,[.int .i64 ((nF:Nat):Int),.slice p12 ((LB:List Int).length) c12]),(B4,[.int .i64 v.k,.int .i64 v.n,.int .i64 v.m,.slice bp v.b.length bc,.slice rp v.r.length rc])]:List (Nat × List Value)) by1 (obs p15) ba1 ((obs p12)++([]:List (Nat × List Value))))).perm (pull0 ([(B16,[.int .i64 ((nF:Nat):Int),.slice p15 ((LB:List Int).length) c15]),(B13,[.int .i64 ((nF:Nat):Int),.slice p12 ((LB:List Int).length) c12]),(B4,[.int .i64 v.k,.int .i64 v.n,.int .i64 v.m,.slice bp v.b.length bc,.slice rp v.r.length rc])]:List (Nat × List Value)) ba1 (by1++((obs p15)++((obs p12)++([]:List (Nat × List Value)))))).symm
               replace M:Mm w0 ((B16,[.int .i64 ((nF:Nat):Int),.slice p15 ((LB:List Int).length) c15])::(B13,[.int .i64 ((nF:Nat):Int),.slice p12 ((LB:List Int).length) c12])::(B4,[.int .i64 v.k,.int .i64 v.n,.int .i64 v.m,.slice bp v.b.length bc,.slice rp v.r.length rc])::(by1++(ba1++((obs p15)++((obs p12)++([]:List (Nat × List Value))))))) wr:=(M.perm (pull1 ([(B16,[.int .i64 ((nF:Nat):Int),.slice p15 ((LB:List Int).length) c15]),(B13,[.int .i64 ((nF:Nat):Int),.slice p12 ((LB:List Int).length) c12]),(B4,[.int .i64 v.k,.int .i64 v.n,.int .i64 v.m,.slice bp v.b.length bc,.slice rp v.r.length rc])]:List (Nat × List Value)) ba1 by1 ((obs p15)++((obs p12)++([]:List (Nat × List Value)))))).perm (pull0 ([(B16,[.int .i64 ((nF:Nat):Int),.slice p15 ((LB:List Int).length) c15]),(B13,[.int .i64 ((nF:Nat):Int),.slice p12 ((LB:List Int).length) c12]),(B4,[.int .i64 v.k,.int .i64 v.n,.int .i64 v.m,.slice bp v.b.length bc,.slice rp v.r.length rc])]:List (Nat × List Value)) by1 (ba1++((obs p15)++((obs p12)++([]:List (Nat × List Value)))))).symm
               have M2:Mm w0 (by1++(ba1++([]:List (Nat × List Value)))) wr:=(M.tail.tail.tail).sub _ ((List.Sublist.refl _).append ((List.Sublist.refl _).append (List.nil_sublist _)))
               have HS:=show Hid _ from (show (∃ Rx_,(.pointer (some ⟨Ra,0,none⟩):Value)=.pointer (some ⟨Rx_,0,none⟩))∧ObxW (onx o v.n)∧(onx o v.n:Obx).b.length≤1000*(q+1)∧I wr (.pointer (some ⟨Ra,0,none⟩)) (onx o v.n) ba1∧DI18 w0 wr (.pointer (some ⟨Ry,0,none⟩)) (onx o v.n) by1∧Mm w0 (by1++(ba1++([]:List (Nat × List Value)))) wr from ⟨⟨_,rfl⟩,onx_w hW _,(by rw [onx_b]; omega),hIa,hIy,M2⟩)
               clear M M2 hIa hIy T_12; go_wp2
               go_meet
               exact ⟨onx o v.n,_,_,HS.out⟩
         · rw [decide_eq_false c77]
           by_cases c_4:kz=4
           · go_upto_region 33 with fail
             refine wp_region_list ?_; refine xaL (.bool true) (eqlI .i64 _ _ _ _ _ _ rfl rfl rfl true (beq_iff_eq.2 (by omega)) _) ?_; refine xpL (.bool true) ?_; refine xT ?_
             as_aux_lemma =>
              clear c48 c77 c_4 hkd; go_upto_region 34 with fail; refine wp_region_list ?_; refine xpL (.pointer (some ⟨Ra,0,none⟩)) ?_; refine xpL (.pointer (some ⟨B4,1,none⟩)) ?_; refine xaL (.int .i64 v.n) (load1 3 _ ⟨B4,1,none⟩ _ rfl rfl (fun _=>by kernel_rfl) (M.get mS 1 _ rfl)) ?_; refine xpL (.pointer (some ⟨B4,2,none⟩)) ?_
              refine xaL (.int .i64 v.m) (load1 3 _ ⟨B4,2,none⟩ _ rfl rfl (fun _=>by kernel_rfl) (M.get mS 2 _ rfl)) ?_; have Mp:=M.perm (pull1 ([(B4,[.int .i64 v.k,.int .i64 v.n,.int .i64 v.m,.slice bp v.b.length bc,.slice rp v.r.length rc])]:List (Nat × List Value)) gy ga ([]:List (Nat × List Value)))
              have key:=hK.lst w0 _ _ o ga _ v.n v.m hW (by omega) hov.n_i hov.m_i hIa Mp; refine xcL key ?_; clear key; rintro e w19 ⟨ba1,rfl,hI_,M',o1⟩; replace hIy:=(dok18 w0).off _ _ _ _ _ _ hIy o1 (Mp.awayG (fun p_ hp_=>by simp [hp_])); clear o1 Mp M hIa; have hIa:=hI_; clear hI_
              have M:Mm w0 ((B4,[.int .i64 v.k,.int .i64 v.n,.int .i64 v.m,.slice bp v.b.length bc,.slice rp v.r.length rc])::(ba1++(gy++([]:List (Nat × List Value))))) w19:=M'.perm (pull0 ([(B4,[.int .i64 v.k,.int .i64 v.n,.int .i64 v.m,.slice bp v.b.length bc,.slice rp v.r.length rc])]:List (Nat × List Value)) ba1 (gy++([]:List (Nat × List Value)))).symm
              clear M'; refine xeL ?_; refine xT ?_; go_upto_region 35 with fail; refine wp_region_list ?_; refine xpL (.pointer (some ⟨Ry,0,none⟩)) ?_; refine xpL (.pointer (some ⟨B4,1,none⟩)) ?_; refine xaL (.int .i64 v.n) (load1 3 _ ⟨B4,1,none⟩ _ rfl rfl (fun _=>by kernel_rfl) (M.get mS 1 _ rfl)) ?_; refine xpL (.pointer (some ⟨B4,2,none⟩)) ?_
              refine xaL (.int .i64 v.m) (load1 3 _ ⟨B4,2,none⟩ _ rfl rfl (fun _=>by kernel_rfl) (M.get mS 2 _ rfl)) ?_; have Mp:=M.perm (pull1 ([(B4,[.int .i64 v.k,.int .i64 v.n,.int .i64 v.m,.slice bp v.b.length bc,.slice rp v.r.length rc])]:List (Nat × List Value)) ba1 gy ([]:List (Nat × List Value)))
              have key:=(dok18 w0).lst w0 _ _ o gy _ v.n v.m hW (by omega) hov.n_i hov.m_i hIy Mp; refine xcL key ?_; clear key; rintro e w20 ⟨by1,rfl,hI_,M',o1⟩; replace hIa:=hK.off _ _ _ _ _ _ hIa o1 (Mp.awayG (fun p_ hp_=>by simp [hp_])); clear o1 Mp M hIy; have hIy:=hI_; clear hI_
              have M:Mm w0 ((B4,[.int .i64 v.k,.int .i64 v.n,.int .i64 v.m,.slice bp v.b.length bc,.slice rp v.r.length rc])::(by1++(ba1++([]:List (Nat × List Value))))) w20:=M'.perm (pull0 ([(B4,[.int .i64 v.k,.int .i64 v.n,.int .i64 v.m,.slice bp v.b.length bc,.slice rp v.r.length rc])]:List (Nat × List Value)) by1 (ba1++([]:List (Nat × List Value)))).symm
              clear M'; refine xeL ?_; refine xT ?_
              replace M:Mm w0 ((B4,[.int .i64 v.k,.int .i64 v.n,.int .i64 v.m,.slice bp v.b.length bc,.slice rp v.r.length rc])::(ba1++(by1++([]:List (Nat × List Value))))) w20:=(M.perm (pull1 ([(B4,[.int .i64 v.k,.int .i64 v.n,.int .i64 v.m,.slice bp v.b.length bc,.slice rp v.r.length rc])]:List (Nat × List Value)) by1 ba1 ([]:List (Nat × List Value)))).perm (pull0 ([(B4,[.int .i64 v.k,.int .i64 v.n,.int .i64 v.m,.slice bp v.b.length bc,.slice rp v.r.length rc])]:List (Nat × List Value)) ba1 (by1++([]:List (Nat × List Value)))).symm
              replace M:Mm w0 ((B4,[.int .i64 v.k,.int .i64 v.n,.int .i64 v.m,.slice bp v.b.length bc,.slice rp v.r.length rc])::(by1++(ba1++([]:List (Nat × List Value))))) w20:=(M.perm (pull1 ([(B4,[.int .i64 v.k,.int .i64 v.n,.int .i64 v.m,.slice bp v.b.length bc,.slice rp v.r.length rc])]:List (Nat × List Value)) ba1 by1 ([]:List (Nat × List Value)))).perm (pull0 ([(B4,[.int .i64 v.k,.int .i64 v.n,.int .i64 v.m,.slice bp v.b.length bc,.slice rp v.r.length rc])]:List (Nat × List Value)) by1 (ba1++([]:List (Nat × List Value)))).symm
              have M2:Mm w0 (by1++(ba1++([]:List (Nat × List Value)))) w20:=(M.tail).sub _ ((List.Sublist.refl _).append ((List.Sublist.refl _).append (List.nil_sublist _)))
              have HS:=show Hid _ from (show (∃ Rx_,(.pointer (some ⟨Ra,0,none⟩):Value)=.pointer (some ⟨Rx_,0,none⟩))∧ObxW (olo o v.n v.m)∧(olo o v.n v.m:Obx).b.length≤1000*(q+1)∧I w20 (.pointer (some ⟨Ra,0,none⟩)) (olo o v.n v.m) ba1∧DI18 w0 w20 (.pointer (some ⟨Ry,0,none⟩)) (olo o v.n v.m) by1∧Mm w0 (by1++(ba1++([]:List (Nat × List Value)))) w20 from ⟨⟨_,rfl⟩,olo_w hW _ _,(show o.b.length≤_ by omega),hIa,hIy,M2⟩)
              clear M M2 hIa hIy; go_wp2
              go_meet
              exact ⟨olo o v.n v.m,_,_,HS.out⟩
           · go_upto_region 33 with fail
             refine wp_region_list ?_; refine xaL (.bool false) (eqlI .i64 _ _ _ _ _ _ rfl rfl rfl false (beq_eq_false_iff_ne.2 (by omega)) _) ?_; refine xpL (.bool false) ?_; refine xT ?_
             by_cases c_5:kz=5
             · go_upto_region 36 with fail
               refine wp_region_list ?_; refine xaL (.bool true) (eqlI .i64 _ _ _ _ _ _ rfl rfl rfl true (beq_iff_eq.2 (by omega)) _) ?_; refine xpL (.bool true) ?_; refine xT ?_
               as_aux_lemma =>
                clear c48 c77 c_4 c_5 hkd; go_upto_region 37 with fail; refine wp_region_list ?_; refine xpL (.pointer (some ⟨B4,4,none⟩)) ?_; refine xaL (.slice rp v.r.length rc) (load1 29 _ ⟨B4,4,none⟩ _ rfl rfl (fun _=>by kernel_rfl) (M.get mS 4 _ rfl)) ?_; refine xpL (.slice rp v.r.length rc) ?_; refine xT ?_; go_upto_region 38 with fail; refine wp_region_list ?_
                refine xpL (.slice rp v.r.length rc) ?_; refine xaL (.int .i64 ((v.r.length:Nat):Int)) (lenS _ 29 49 rp v.r.length rc rfl Try.underlying29 rfl _) ?_; refine xaL (.bool (decide (20<v.r.length))) (gtrI .i64 _ _ _ _ _ _ rfl rfl rfl (decide (20<v.r.length)) (by rw [Bool.eq_iff_iff,decide_eq_true_iff,decide_eq_true_iff]; omega) _) ?_; refine xT ?_
                go_upto_if 144 with fail
                go_cut [18] (fun v_ wx=>∃ (spr:Option Addr) (RL:List (Int × Int)) (cr:Nat),v_=.slice spr RL.length cr∧RL.length≤20∧(∀ x∈RL,i64 x.1∧i64 x.2)∧RgW w0 RL (.slice spr RL.length cr)∧w6=wx)
                case first =>
                 by_cases hlong:20<v.r.length
                 · rw [decide_eq_true hlong]
                   obtain ⟨_,_,hse,hlr,_⟩:=id hov.r_in
                   injection hse with _ _ hse
                   subst hse
                   obtain ⟨spr,hcut,hNW,_⟩:=cut_rg (P:=Try.prog) (t:=29) Try.underlying29 (fun w=>by kernel_rfl) rp v.r rc 20 (by omega) hlr
                   have hNr:=hNW _ hov.r_in
                   obtain ⟨RL,hRL0⟩:∃ RL,RL=v.r.take 20:=⟨_,rfl⟩
                   rw [← hRL0] at hcut hNr
                   have hRL:=show Hid _ from hRL0; clear hRL0 hNW; go_upto_region 39 with fail; refine wp_region_list ?_; refine xpL (.slice rp v.r.length rc) ?_; refine xaL (.slice spr RL.length rc) (cutHi 29 _ _ _ _ _ rfl rfl rfl (hcut _)) ?_; refine xpL (.slice spr RL.length rc) ?_; refine xT ?_; have HS:=show Hid _ from hNr; clear hcut hlr hNr; go_wp2
                   go_meet
                   exact ⟨spr,RL,rc,rfl,by rw [hRL.out,List.length_take]; omega,by rw [hRL.out]; exact take_r hov.r_i,HS.out,rfl⟩
                 · rw [decide_eq_false hlong]
                   go_wp2
                   go_meet
                   exact ⟨rp,v.r,rc,rfl,by omega,hov.r_i,hov.r_in,rfl⟩
                case rest =>
                 obtain ⟨spr,RL,cr,rfl,hRl,hRi,hNr,rfl⟩:=hcut
                 go_upto_region 40 with fail; refine wp_region_list ?_; refine xpL (.pointer (some ⟨Ra,0,none⟩)) ?_; refine xpL (.pointer (some ⟨B4,1,none⟩)) ?_; refine xaL (.int .i64 v.n) (load1 3 _ ⟨B4,1,none⟩ _ rfl rfl (fun _=>by kernel_rfl) (M.get mS 1 _ rfl)) ?_; refine xpL (.slice spr RL.length cr) ?_
                 have Mp:=M.perm (pull1 ([(B4,[.int .i64 v.k,.int .i64 v.n,.int .i64 v.m,.slice bp v.b.length bc,.slice rp v.r.length rc])]:List (Nat × List Value)) gy ga ([]:List (Nat × List Value))); have key:=hK.ack w0 _ _ o ga _ v.n RL spr cr hW (by omega) hov.n_i (by omega) hRi (RgW.below hNr Mp.below) (fun b_ hb_ hne_=>RgW.away hNr (Mp.los b_ hb_) hne_) hIa Mp
                 refine xcL key ?_; clear key; rintro e w21 ⟨ba1,rfl,hI_,M',o1⟩; replace hIy:=(dok18 w0).off _ _ _ _ _ _ hIy o1 (Mp.awayG (fun p_ hp_=>by simp [hp_])); clear o1 Mp M hIa; have hIa:=hI_; clear hI_
                 have M:Mm w0 ((B4,[.int .i64 v.k,.int .i64 v.n,.int .i64 v.m,.slice bp v.b.length bc,.slice rp v.r.length rc])::(ba1++(gy++([]:List (Nat × List Value))))) w21:=M'.perm (pull0 ([(B4,[.int .i64 v.k,.int .i64 v.n,.int .i64 v.m,.slice bp v.b.length bc,.slice rp v.r.length rc])]:List (Nat × List Value)) ba1 (gy++([]:List (Nat × List Value)))).symm
                 clear M'; refine xeL ?_; refine xT ?_; go_upto_region 41 with fail; refine wp_region_list ?_; refine xpL (.pointer (some ⟨Ry,0,none⟩)) ?_; refine xpL (.pointer (some ⟨B4,1,none⟩)) ?_; refine xaL (.int .i64 v.n) (load1 3 _ ⟨B4,1,none⟩ _ rfl rfl (fun _=>by kernel_rfl) (M.get mS 1 _ rfl)) ?_; refine xpL (.slice spr RL.length cr) ?_
                 have Mp:=M.perm (pull1 ([(B4,[.int .i64 v.k,.int .i64 v.n,.int .i64 v.m,.slice bp v.b.length bc,.slice rp v.r.length rc])]:List (Nat × List Value)) ba1 gy ([]:List (Nat × List Value))); have key:=(dok18 w0).ack w0 _ _ o gy _ v.n RL spr cr hW (by omega) hov.n_i (by omega) hRi (RgW.below hNr Mp.below) (fun b_ hb_ hne_=>RgW.away hNr (Mp.los b_ hb_) hne_) hIy Mp
                 refine xcL key ?_; clear key; rintro e w22 ⟨by1,rfl,hI_,M',o1⟩; replace hIa:=hK.off _ _ _ _ _ _ hIa o1 (Mp.awayG (fun p_ hp_=>by simp [hp_])); clear o1 Mp M hIy; have hIy:=hI_; clear hI_
                 have M:Mm w0 ((B4,[.int .i64 v.k,.int .i64 v.n,.int .i64 v.m,.slice bp v.b.length bc,.slice rp v.r.length rc])::(by1++(ba1++([]:List (Nat × List Value))))) w22:=M'.perm (pull0 ([(B4,[.int .i64 v.k,.int .i64 v.n,.int .i64 v.m,.slice bp v.b.length bc,.slice rp v.r.length rc])]:List (Nat × List Value)) by1 (ba1++([]:List (Nat × List Value)))).symm
                 clear M'; refine xeL ?_; refine xT ?_
                 replace M:Mm w0 ((B4,[.int .i64 v.k,.int .i64 v.n,.int .i64 v.m,.slice bp v.b.length bc,.slice rp v.r.length rc])::(ba1++(by1++([]:List (Nat × List Value))))) w22:=(M.perm (pull1 ([(B4,[.int .i64 v.k,.int .i64 v.n,.int .i64 v.m,.slice bp v.b.length bc,.slice rp v.r.length rc])]:List (Nat × List Value)) by1 ba1 ([]:List (Nat × List Value)))).perm (pull0 ([(B4,[.int .i64 v.k,.int .i64 v.n,.int .i64 v.m,.slice bp v.b.length bc,.slice rp v.r.length rc])]:List (Nat × List Value)) ba1 (by1++([]:List (Nat × List Value)))).symm
                 replace M:Mm w0 ((B4,[.int .i64 v.k,.int .i64 v.n,.int .i64 v.m,.slice bp v.b.length bc,.slice rp v.r.length rc])::(by1++(ba1++([]:List (Nat × List Value))))) w22:=(M.perm (pull1 ([(B4,[.int .i64 v.k,.int .i64 v.n,.int .i64 v.m,.slice bp v.b.length bc,.slice rp v.r.length rc])]:List (Nat × List Value)) ba1 by1 ([]:List (Nat × List Value)))).perm (pull0 ([(B4,[.int .i64 v.k,.int .i64 v.n,.int .i64 v.m,.slice bp v.b.length bc,.slice rp v.r.length rc])]:List (Nat × List Value)) by1 (ba1++([]:List (Nat × List Value)))).symm
                 have M2:Mm w0 (by1++(ba1++([]:List (Nat × List Value)))) w22:=(M.tail).sub _ ((List.Sublist.refl _).append ((List.Sublist.refl _).append (List.nil_sublist _)))
                 have HS:=show Hid _ from (show (∃ Rx_,(.pointer (some ⟨Ra,0,none⟩):Value)=.pointer (some ⟨Rx_,0,none⟩))∧ObxW (oac o v.n RL)∧(oac o v.n RL:Obx).b.length≤1000*(q+1)∧I w22 (.pointer (some ⟨Ra,0,none⟩)) (oac o v.n RL) ba1∧DI18 w0 w22 (.pointer (some ⟨Ry,0,none⟩)) (oac o v.n RL) by1∧Mm w0 (by1++(ba1++([]:List (Nat × List Value)))) w22 from ⟨⟨_,rfl⟩,oac_w hW _ _,(show o.b.length≤_ by omega),hIa,hIy,M2⟩)
                 clear M M2 hIa hIy; go_wp2
                 go_meet
                 exact ⟨oac o v.n RL,_,_,HS.out⟩
             · go_upto_region 36 with fail
               refine wp_region_list ?_; refine xaL (.bool false) (eqlI .i64 _ _ _ _ _ _ rfl rfl rfl false (beq_eq_false_iff_ne.2 (by omega)) _) ?_; refine xpL (.bool false) ?_; refine xT ?_
               by_cases c_6:kz=6
               · go_upto_region 42 with fail
                 refine wp_region_list ?_; refine xaL (.bool true) (eqlI .i64 _ _ _ _ _ _ rfl rfl rfl true (beq_iff_eq.2 (by omega)) _) ?_; refine xpL (.bool true) ?_; refine xT ?_
                 as_aux_lemma =>
                  clear c48 c77 c_4 c_5 c_6 hkd; go_upto_region 43 with fail; refine wp_region_list ?_; refine xpL (.pointer (some ⟨Ra,0,none⟩)) ?_; refine xpL (.pointer (some ⟨B4,1,none⟩)) ?_; refine xaL (.int .i64 v.n) (load1 3 _ ⟨B4,1,none⟩ _ rfl rfl (fun _=>by kernel_rfl) (M.get mS 1 _ rfl)) ?_
                  have Mp:=M.perm (pull1 ([(B4,[.int .i64 v.k,.int .i64 v.n,.int .i64 v.m,.slice bp v.b.length bc,.slice rp v.r.length rc])]:List (Nat × List Value)) gy ga ([]:List (Nat × List Value))); have key:=hK.alw w0 _ _ o ga _ v.n hW (by omega) hov.n_i hIa Mp; refine xcL key ?_; clear key; rintro e w23 ⟨ba1,rfl,hI_,M',o1⟩
                  replace hIy:=(dok18 w0).off _ _ _ _ _ _ hIy o1 (Mp.awayG (fun p_ hp_=>by simp [hp_])); clear o1 Mp M hIa; have hIa:=hI_; clear hI_
                  have M:Mm w0 ((B4,[.int .i64 v.k,.int .i64 v.n,.int .i64 v.m,.slice bp v.b.length bc,.slice rp v.r.length rc])::(ba1++(gy++([]:List (Nat × List Value))))) w23:=M'.perm (pull0 ([(B4,[.int .i64 v.k,.int .i64 v.n,.int .i64 v.m,.slice bp v.b.length bc,.slice rp v.r.length rc])]:List (Nat × List Value)) ba1 (gy++([]:List (Nat × List Value)))).symm
                  clear M'; refine xeL ?_; refine xT ?_; go_upto_region 44 with fail; refine wp_region_list ?_; refine xpL (.pointer (some ⟨Ry,0,none⟩)) ?_; refine xpL (.pointer (some ⟨B4,1,none⟩)) ?_; refine xaL (.int .i64 v.n) (load1 3 _ ⟨B4,1,none⟩ _ rfl rfl (fun _=>by kernel_rfl) (M.get mS 1 _ rfl)) ?_
                  have Mp:=M.perm (pull1 ([(B4,[.int .i64 v.k,.int .i64 v.n,.int .i64 v.m,.slice bp v.b.length bc,.slice rp v.r.length rc])]:List (Nat × List Value)) ba1 gy ([]:List (Nat × List Value))); have key:=(dok18 w0).alw w0 _ _ o gy _ v.n hW (by omega) hov.n_i hIy Mp; refine xcL key ?_; clear key; rintro e w24 ⟨by1,rfl,hI_,M',o1⟩
                  replace hIa:=hK.off _ _ _ _ _ _ hIa o1 (Mp.awayG (fun p_ hp_=>by simp [hp_])); clear o1 Mp M hIy; have hIy:=hI_; clear hI_
                  have M:Mm w0 ((B4,[.int .i64 v.k,.int .i64 v.n,.int .i64 v.m,.slice bp v.b.length bc,.slice rp v.r.length rc])::(by1++(ba1++([]:List (Nat × List Value))))) w24:=M'.perm (pull0 ([(B4,[.int .i64 v.k,.int .i64 v.n,.int .i64 v.m,.slice bp v.b.length bc,.slice rp v.r.length rc])]:List (Nat × List Value)) by1 (ba1++([]:List (Nat × List Value)))).symm
                  clear M'; refine xeL ?_; refine xT ?_
                  replace M:Mm w0 ((B4,[.int .i64 v.k,.int .i64 v.n,.int .i64 v.m,.slice bp v.b.length bc,.slice rp v.r.length rc])::(ba1++(by1++([]:List (Nat × List Value))))) w24:=(M.perm (pull1 ([(B4,[.int .i64 v.k,.int .i64 v.n,.int .i64 v.m,.slice bp v.b.length bc,.slice rp v.r.length rc])]:List (Nat × List Value)) by1 ba1 ([]:List (Nat × List Value)))).perm (pull0 ([(B4,[.int .i64 v.k,.int .i64 v.n,.int .i64 v.m,.slice bp v.b.length bc,.slice rp v.r.length rc])]:List (Nat × List Value)) ba1 (by1++([]:List (Nat × List Value)))).symm
                  replace M:Mm w0 ((B4,[.int .i64 v.k,.int .i64 v.n,.int .i64 v.m,.slice bp v.b.length bc,.slice rp v.r.length rc])::(by1++(ba1++([]:List (Nat × List Value))))) w24:=(M.perm (pull1 ([(B4,[.int .i64 v.k,.int .i64 v.n,.int .i64 v.m,.slice bp v.b.length bc,.slice rp v.r.length rc])]:List (Nat × List Value)) ba1 by1 ([]:List (Nat × List Value)))).perm (pull0 ([(B4,[.int .i64 v.k,.int .i64 v.n,.int .i64 v.m,.slice bp v.b.length bc,.slice rp v.r.length rc])]:List (Nat × List Value)) by1 (ba1++([]:List (Nat × List Value)))).symm
                  have M2:Mm w0 (by1++(ba1++([]:List (Nat × List Value)))) w24:=(M.tail).sub _ ((List.Sublist.refl _).append ((List.Sublist.refl _).append (List.nil_sublist _)))
                  have HS:=show Hid _ from (show (∃ Rx_,(.pointer (some ⟨Ra,0,none⟩):Value)=.pointer (some ⟨Rx_,0,none⟩))∧ObxW (oal o v.n)∧(oal o v.n:Obx).b.length≤1000*(q+1)∧I w24 (.pointer (some ⟨Ra,0,none⟩)) (oal o v.n) ba1∧DI18 w0 w24 (.pointer (some ⟨Ry,0,none⟩)) (oal o v.n) by1∧Mm w0 (by1++(ba1++([]:List (Nat × List Value)))) w24 from ⟨⟨_,rfl⟩,oal_w hW hov.n_i,(show o.b.length≤_ by omega),hIa,hIy,M2⟩)
                  clear M M2 hIa hIy; go_wp2
                  go_meet
                  exact ⟨oal o v.n,_,_,HS.out⟩
               · go_upto_region 42 with fail
                 refine wp_region_list ?_; refine xaL (.bool false) (eqlI .i64 _ _ _ _ _ _ rfl rfl rfl false (beq_eq_false_iff_ne.2 (by omega)) _) ?_; refine xpL (.bool false) ?_; refine xT ?_
                 as_aux_lemma =>
                  go_upto_region 45 with fail; refine wp_region_list ?_; refine xaL (.bool true) (eqlI .i64 _ _ _ _ _ _ rfl rfl rfl true (beq_iff_eq.2 (by omega)) _) ?_; refine xpL (.bool true) ?_; refine xT ?_; clear c48 c77 c_4 c_5 c_6 hkd; go_upto_region 46 with fail; refine wp_region_list ?_; refine xpL (.pointer (some ⟨Ra,0,none⟩)) ?_; refine xpL (.pointer (some ⟨Ra,0,none⟩)) ?_
                  refine xT ?_; go_upto_region 47 with fail; refine wp_region_list ?_; refine xpL (.pointer (some ⟨Ra,0,none⟩)) ?_; have Mp:=M.perm (pull1 ([(B4,[.int .i64 v.k,.int .i64 v.n,.int .i64 v.m,.slice bp v.b.length bc,.slice rp v.r.length rc])]:List (Nat × List Value)) gy ga ([]:List (Nat × List Value))); have key:=hC w0 _ _ o ga _ hW (by omega) hIa Mp; clear Mp
                  refine xcL key ?_; clear key; rintro e w25 ⟨v_,bc0,rfl,hIc,M',l_⟩
                  obtain ⟨Rc,rfl⟩:=hK.ptr _ _ _ _ hIc
                  replace hIa:=hK.bel hIa l_; replace hIy:=(dok18 w0).bel hIy l_; clear l_ M
                  have M:Mm w0 ((B4,[.int .i64 v.k,.int .i64 v.n,.int .i64 v.m,.slice bp v.b.length bc,.slice rp v.r.length rc])::(bc0++(ga++(gy++([]:List (Nat × List Value)))))) w25:=M'.perm (pullZ18 bc0 ga ([(B4,[.int .i64 v.k,.int .i64 v.n,.int .i64 v.m,.slice bp v.b.length bc,.slice rp v.r.length rc])]:List (Nat × List Value)) (gy++([]:List (Nat × List Value)))).symm
                  clear M'; refine xeL ?_; refine xpL (.pointer (some ⟨Rc,0,none⟩)) ?_; refine xT ?_; go_upto_region 48 with fail; refine wp_region_list ?_; refine xpL (.pointer (some ⟨Rc,0,none⟩)) ?_; refine xpL (.bool false) ?_; refine xT ?_; go_upto_region 50 with fail; refine wp_region_list ?_; refine xpL (.pointer (some ⟨Ra,0,none⟩)) ?_
                  have Mp:=M.perm (pull1 ([(B4,[.int .i64 v.k,.int .i64 v.n,.int .i64 v.m,.slice bp v.b.length bc,.slice rp v.r.length rc])]:List (Nat × List Value)) bc0 ga (gy++([]:List (Nat × List Value)))); have key:=hK.alw w0 _ _ o ga _ 1073741824 hW (by omega) (by unfold i64; decide) hIa Mp; refine xcL key ?_; clear key; rintro e w26 ⟨ba1,rfl,hI_,M',o1⟩
                  replace hIy:=(dok18 w0).off _ _ _ _ _ _ hIy o1 (Mp.awayG (fun p_ hp_=>by simp [hp_])); replace hIc:=hK.off _ _ _ _ _ _ hIc o1 (Mp.awayG (fun p_ hp_=>by simp [hp_])); clear o1 Mp M hIa; have hIa:=hI_; clear hI_
                  have M:Mm w0 ((B4,[.int .i64 v.k,.int .i64 v.n,.int .i64 v.m,.slice bp v.b.length bc,.slice rp v.r.length rc])::(ba1++(bc0++(gy++([]:List (Nat × List Value)))))) w26:=M'.perm (pull0 ([(B4,[.int .i64 v.k,.int .i64 v.n,.int .i64 v.m,.slice bp v.b.length bc,.slice rp v.r.length rc])]:List (Nat × List Value)) ba1 (bc0++(gy++([]:List (Nat × List Value))))).symm
                  clear M'; refine xeL ?_; refine xT ?_; go_upto_region 51 with fail; refine wp_region_list ?_; refine xpL (.pointer (some ⟨Ra,0,none⟩)) ?_; have Mp:=M.perm (pull0 ([(B4,[.int .i64 v.k,.int .i64 v.n,.int .i64 v.m,.slice bp v.b.length bc,.slice rp v.r.length rc])]:List (Nat × List Value)) ba1 (bc0++(gy++([]:List (Nat × List Value)))))
                  have key:=hK.nxt w0 _ _ (oal o 1073741824) ba1 _ 1073741824 (oal_w hW (by unfold i64; decide)) (show o.b.length<1000000 by omega) (by unfold i64; decide) hIa Mp; refine xcL key ?_; clear key; rintro e w27 ⟨p27,c27,ba2,rfl,N_27,T_27,hI_,M',o1⟩; replace hIy:=(dok18 w0).off _ _ _ _ _ _ hIy o1 (Mp.awayG (fun p_ hp_=>by simp [hp_]))
                  replace hIc:=hK.off _ _ _ _ _ _ hIc o1 (Mp.awayG (fun p_ hp_=>by simp [hp_])); clear o1 Mp M hIa; have hIa:=hI_; clear hI_
                  have M:Mm w0 ((B4,[.int .i64 v.k,.int .i64 v.n,.int .i64 v.m,.slice bp v.b.length bc,.slice rp v.r.length rc])::(ba2++((obs p27)++(bc0++(gy++([]:List (Nat × List Value))))))) w27:=M'.perm (pullY ([(B4,[.int .i64 v.k,.int .i64 v.n,.int .i64 v.m,.slice bp v.b.length bc,.slice rp v.r.length rc])]:List (Nat × List Value)) ba2 (obs p27) (bc0++(gy++([]:List (Nat × List Value)))))
                  clear M'; refine xeL ?_
                  obtain ⟨bs27,N_27⟩:∃ b_,NewF w27 b_ (onB (oal o 1073741824) 1073741824:List Int).length (bl (onB (oal o 1073741824) 1073741824)) (.slice p27 (onB (oal o 1073741824) 1073741824:List Int).length c27):=⟨_,N_27⟩
                  refine xT ?_; generalize onB (oal o 1073741824) 1073741824=LB at M N_27 T_27 ⊢; go_upto_region 52 with fail; refine wp_region_list ?_; refine xpL (.pointer (some ⟨Ra,0,none⟩)) ?_
                  have Mp:=M.perm (pull0 ([(B4,[.int .i64 v.k,.int .i64 v.n,.int .i64 v.m,.slice bp v.b.length bc,.slice rp v.r.length rc])]:List (Nat × List Value)) ba2 ((obs p27)++(bc0++(gy++([]:List (Nat × List Value))))))
                  have key:=hK.ack w0 _ _ (onx (oal o 1073741824) 1073741824) ba2 _ 1073741824 ([]) none 0 (onx_w (oal_w hW (by unfold i64; decide)) 1073741824) (by rw [onx_b]; first | omega | exact (show o.b.length<1000000 by omega)) (by unfold i64; decide) (by decide) (fun _ h_=>by cases h_) (RgW.nil0 _) (fun _ _ h_=>absurd rfl h_) hIa Mp; refine xcL key ?_; clear key
                  rintro e w28 ⟨ba3,rfl,hI_,M',o1⟩; replace hIy:=(dok18 w0).off _ _ _ _ _ _ hIy o1 (Mp.awayG (fun p_ hp_=>by simp [hp_])); replace hIc:=hK.off _ _ _ _ _ _ hIc o1 (Mp.awayG (fun p_ hp_=>by simp [hp_])); replace N_27:=NewF.offB N_27 o1 (Mp.awayS (fun p_ hp_=>by simp [hp_])); replace T_27:=Wrt.offB T_27 o1 (Mp.awayS (fun p_ hp_=>by simp [hp_]))
                  clear o1 Mp M hIa; have hIa:=hI_; clear hI_
                  have M:Mm w0 ((B4,[.int .i64 v.k,.int .i64 v.n,.int .i64 v.m,.slice bp v.b.length bc,.slice rp v.r.length rc])::(ba3++((obs p27)++(bc0++(gy++([]:List (Nat × List Value))))))) w28:=M'.perm (pull0 ([(B4,[.int .i64 v.k,.int .i64 v.n,.int .i64 v.m,.slice bp v.b.length bc,.slice rp v.r.length rc])]:List (Nat × List Value)) ba3 ((obs p27)++(bc0++(gy++([]:List (Nat × List Value)))))).symm
                  clear M'; refine xeL ?_; refine xT ?_
                  replace M:Mm w0 ((B4,[.int .i64 v.k,.int .i64 v.n,.int .i64 v.m,.slice bp v.b.length bc,.slice rp v.r.length rc])::(bc0++(ba3++((obs p27)++(gy++([]:List (Nat × List Value))))))) w28:=(M.perm (pull2 ([(B4,[.int .i64 v.k,.int .i64 v.n,.int .i64 v.m,.slice bp v.b.length bc,.slice rp v.r.length rc])]:List (Nat × List Value)) ba3 (obs p27) bc0 (gy++([]:List (Nat × List Value))))).perm (pull0 ([(B4,[.int .i64 v.k,.int .i64 v.n,.int .i64 v.m,.slice bp v.b.length bc,.slice rp v.r.length rc])]:List (Nat × List Value)) bc0 (ba3++((obs p27)++(gy++([]:List (Nat × List Value)))))).symm
                  replace M:Mm w0 ((B4,[.int .i64 v.k,.int .i64 v.n,.int .i64 v.m,.slice bp v.b.length bc,.slice rp v.r.length rc])::(gy++(bc0++(ba3++((obs p27)++([]:List (Nat × List Value))))))) w28:=(M.perm (pull3 ([(B4,[.int .i64 v.k,.int .i64 v.n,.int .i64 v.m,.slice bp v.b.length bc,.slice rp v.r.length rc])]:List (Nat × List Value)) bc0 ba3 (obs p27) gy ([]:List (Nat × List Value)))).perm (pull0 ([(B4,[.int .i64 v.k,.int .i64 v.n,.int .i64 v.m,.slice bp v.b.length bc,.slice rp v.r.length rc])]:List (Nat × List Value)) gy (bc0++(ba3++((obs p27)++([]:List (Nat × List Value)))))).symm
                  have M2:Mm w0 (gy++(bc0++([]:List (Nat × List Value)))) w28:=(M.tail).sub _ ((List.Sublist.refl _).append ((List.Sublist.refl _).append (List.nil_sublist _)))
                  have HS:=show Hid _ from (show (∃ Rx_,(.pointer (some ⟨Rc,0,none⟩):Value)=.pointer (some ⟨Rx_,0,none⟩))∧ObxW o∧(o:Obx).b.length≤1000*(q+1)∧I w28 (.pointer (some ⟨Rc,0,none⟩)) o bc0∧DI18 w0 w28 (.pointer (some ⟨Ry,0,none⟩)) o gy∧Mm w0 (gy++(bc0++([]:List (Nat × List Value)))) w28 from ⟨⟨_,rfl⟩,hW,(by omega),hIc,hIy,M2⟩)
                  clear M M2 hIa hIy hIc N_27 T_27; go_wp2
                  go_meet
                  exact ⟨o,_,_,HS.out⟩
    case rest =>
     as_aux_lemma =>
      clear hW hln hIa hIy M
      obtain ⟨o2,gy2,ga2,⟨Rc,rfl⟩,hW2,hln2,hIa,hIy,M⟩:=hcut
      obtain ⟨sb,sa,sh,cb,ca,ch,c_y⟩:=hIy.row
      go_upto_region 53 with fail; have hdr:=(Below.refl wc.heap.size wc).drew; replace M:=M.drew; replace hIa:=hK.bel hIa hdr; replace hIy:=(dok18 w0).bel hIy hdr; replace c_y:=fun j_ u_ h_=>cellS18 hdr (c_y j_ u_ h_); clear hdr; refine wp_region_held_drew (S:=fun w'=>∀ j_ u_,(dcs o2 sb sa sh cb ca ch)[j_]?=some u_→w'.cell? ⟨Ry,j_,none⟩=some u_) (by kernel_rfl) c_y ?_
      intro _; generalize wc.drew=w29 at M hIa hIy c_y ⊢; refine xrH 0 180 rfl (.pointer (some ⟨Rc,0,none⟩)) (fun _ hS=>(by kernel_rfl)) c_y ?_; refine xrH 2 182 rfl (.pointer (some ⟨Ry,0,none⟩)) (fun _ hS=>(by kernel_rfl)) c_y ?_; have Mp:=M.perm (pull1 ([]:List (Nat × List Value)) gy2 ga2 ([]:List (Nat × List Value))); have key:=hK.bas w0 _ _ o2 ga2 _ hW2 (by omega) hIa Mp
      clear Mp; refine callH (i:=1) (some 181) rfl (by kernel_rfl) rfl rfl (fun _=>by kernel_rfl) key ?_; clear key; rintro e w30 ⟨rfl,l_⟩; replace M:=M.call l_; replace hIa:=hK.bel hIa l_; replace hIy:=(dok18 w0).bel hIy l_; replace c_y:=fun j_ u_ h_=>cellS18 l_ (c_y j_ u_ h_); clear l_
      refine ⟨_,rfl,c_y,?_⟩
      simp only [aP,lI,l0,lS]; have Mp:=M.perm (pull0 ([]:List (Nat × List Value)) gy2 (ga2++([]:List (Nat × List Value)))); have key:=(dok18 w0).bas w0 _ _ o2 gy2 _ hW2 (by omega) hIy Mp; clear Mp; refine callH (i:=3) (some 183) rfl (by kernel_rfl) rfl rfl (fun _=>by kernel_rfl) key ?_; clear key; rintro e w31 ⟨rfl,l_⟩; replace M:=M.call l_; replace hIa:=hK.bel hIa l_
      replace hIy:=(dok18 w0).bel hIy l_; replace c_y:=fun j_ u_ h_=>cellS18 l_ (c_y j_ u_ h_); clear l_
      refine ⟨_,rfl,c_y,?_⟩
      simp only [aP,lI,l0,lS]; refine xrH 4 184 rfl (.bool false) (fun _ hS=>neqI .i64 _ _ _ _ _ _ rfl rfl rfl false (bne_self_eq_false _) _) c_y ?_; refine xrH 5 185 rfl (.bool false) (fun _ hS=>(by kernel_rfl)) c_y ?_; refine xrH 6 186 rfl (.pointer (some ⟨Rc,0,none⟩)) (fun _ hS=>(by kernel_rfl)) c_y ?_
      refine xrH 8 188 rfl (.pointer (some ⟨Ry,0,none⟩)) (fun _ hS=>(by kernel_rfl)) c_y ?_; refine xrH 9 189 rfl (.pointer (some ⟨Ry,0,none⟩)) (fun _ hS=>(by kernel_rfl)) c_y ?_; refine xrH 10 190 rfl (.pointer (some ⟨Ry,3,none⟩)) (fun _ hS=>(by kernel_rfl)) c_y ?_
      refine xrH 11 191 rfl (.slice sb o2.b.length cb) (fun _ hS=>load1 28 _ ⟨Ry,3,none⟩ _ rfl rfl (fun _=>by kernel_rfl) ((hS 3 _ rfl))) c_y ?_; refine xrH 12 192 rfl (.int .i64 ((o2.b.length:Nat):Int)) (fun _ hS=>lenS _ 28 5 sb o2.b.length cb rfl Try.underlying28 rfl _) c_y ?_; have Mp:=M.perm (pull1 ([]:List (Nat × List Value)) gy2 ga2 ([]:List (Nat × List Value)))
      have key:=hK.end_ w0 _ _ o2 ga2 _ hW2 (by omega) hIa Mp; clear Mp; refine callH (i:=7) (some 187) rfl (by kernel_rfl) rfl rfl (fun _=>by kernel_rfl) key ?_; clear key; rintro e w32 ⟨rfl,l_⟩; replace M:=M.call l_; replace hIa:=hK.bel hIa l_; replace hIy:=(dok18 w0).bel hIy l_; replace c_y:=fun j_ u_ h_=>cellS18 l_ (c_y j_ u_ h_); clear l_
      refine ⟨_,rfl,c_y,?_⟩
      simp only [aP,lI,l0,lS]; refine xrH 13 193 rfl (.bool false) (fun _ hS=>neqI .i64 _ _ _ _ _ _ rfl rfl rfl false (bne_self_eq_false _) _) c_y ?_; refine xrH 14 194 rfl (.bool false) (fun _ hS=>(by kernel_rfl)) c_y ?_; refine xrH 15 195 rfl (.bool false) (fun _ hS=>(by kernel_rfl)) c_y ?_; refine xrH 16 196 rfl (.pointer (some ⟨Rc,0,none⟩)) (fun _ hS=>(by kernel_rfl)) c_y ?_
      refine xrH 18 198 rfl (.pointer (some ⟨Ry,0,none⟩)) (fun _ hS=>(by kernel_rfl)) c_y ?_; refine xrH 19 199 rfl (.pointer (some ⟨Ry,0,none⟩)) (fun _ hS=>(by kernel_rfl)) c_y ?_; refine xrH 20 200 rfl (.pointer (some ⟨Ry,2,none⟩)) (fun _ hS=>(by kernel_rfl)) c_y ?_
      refine xrH 21 201 rfl (.int .i64 ((o2.sent:Nat):Int)) (fun _ hS=>load1 3 _ ⟨Ry,2,none⟩ _ rfl rfl (fun _=>by kernel_rfl) ((hS 2 _ rfl))) c_y ?_; have Mp:=M.perm (pull1 ([]:List (Nat × List Value)) gy2 ga2 ([]:List (Nat × List Value))); have key:=hK.snt w0 _ _ o2 ga2 _ hW2 (by omega) hIa Mp; clear Mp
      refine callH (i:=17) (some 197) rfl (by kernel_rfl) rfl rfl (fun _=>by kernel_rfl) key ?_; clear key; rintro e w33 ⟨rfl,l_⟩; replace M:=M.call l_; replace hIa:=hK.bel hIa l_; replace hIy:=(dok18 w0).bel hIy l_; replace c_y:=fun j_ u_ h_=>cellS18 l_ (c_y j_ u_ h_); clear l_
      refine ⟨_,rfl,c_y,?_⟩
      simp only [aP,lI,l0,lS]; refine xrH 22 202 rfl (.bool false) (fun _ hS=>neqI .i64 _ _ _ _ _ _ rfl rfl rfl false (bne_self_eq_false _) _) c_y ?_; refine xrH 23 203 rfl (.bool false) (fun _ hS=>(by kernel_rfl)) c_y ?_; refine xrH 24 204 rfl (.bool false) (fun _ hS=>(by kernel_rfl)) c_y ?_; refine xrH 25 205 rfl (.pointer (some ⟨Rc,0,none⟩)) (fun _ hS=>(by kernel_rfl)) c_y ?_
      refine xrH 27 207 rfl (.pointer (some ⟨Ry,0,none⟩)) (fun _ hS=>(by kernel_rfl)) c_y ?_; have Mp:=M.perm (pull1 ([]:List (Nat × List Value)) gy2 ga2 ([]:List (Nat × List Value))); have key:=hK.idl w0 _ _ o2 ga2 _ hW2 (by omega) hIa Mp; clear Mp; refine callH (i:=26) (some 206) rfl (by kernel_rfl) rfl rfl (fun _=>by kernel_rfl) key ?_; clear key; rintro e w34 ⟨rfl,l_⟩
      replace M:=M.call l_; replace hIa:=hK.bel hIa l_; replace hIy:=(dok18 w0).bel hIy l_; replace c_y:=fun j_ u_ h_=>cellS18 l_ (c_y j_ u_ h_); clear l_
      refine ⟨_,rfl,c_y,?_⟩
      simp only [aP,lI,l0,lS]; have Mp:=M.perm (pull0 ([]:List (Nat × List Value)) gy2 (ga2++([]:List (Nat × List Value)))); have key:=(dok18 w0).idl w0 _ _ o2 gy2 _ hW2 (by omega) hIy Mp; clear Mp; refine callH (i:=28) (some 208) rfl (by kernel_rfl) rfl rfl (fun _=>by kernel_rfl) key ?_; clear key; rintro e w35 ⟨rfl,l_⟩; replace M:=M.call l_; replace hIa:=hK.bel hIa l_
      replace hIy:=(dok18 w0).bel hIy l_; replace c_y:=fun j_ u_ h_=>cellS18 l_ (c_y j_ u_ h_); clear l_
      refine ⟨_,rfl,c_y,?_⟩
      simp only [aP,lI,l0,lS]; refine xrH 29 209 rfl (.bool false) (fun _ hS=>neqBo _ _ _ _ _ _ rfl rfl rfl (by kernel_rfl) false (by rw [beq_self_eq_true]; rfl) _) c_y ?_; refine xrH 30 210 rfl (.bool false) (fun _ hS=>(by kernel_rfl)) c_y ?_; refine xrH 31 211 rfl (.bool false) (fun _ hS=>(by kernel_rfl)) c_y ?_
      refine xrH 32 212 rfl (.pointer (some ⟨Rc,0,none⟩)) (fun _ hS=>(by kernel_rfl)) c_y ?_; refine xrH 34 214 rfl (.pointer (some ⟨Ry,0,none⟩)) (fun _ hS=>(by kernel_rfl)) c_y ?_; have Mp:=M.perm (pull1 ([]:List (Nat × List Value)) gy2 ga2 ([]:List (Nat × List Value))); have key:=hK.blk w0 _ _ o2 ga2 _ hW2 (by omega) hIa Mp; clear Mp
      refine callH (i:=33) (some 213) rfl (by kernel_rfl) rfl rfl (fun _=>by kernel_rfl) key ?_; clear key; rintro e w36 ⟨rfl,l_⟩; replace M:=M.call l_; replace hIa:=hK.bel hIa l_; replace hIy:=(dok18 w0).bel hIy l_; replace c_y:=fun j_ u_ h_=>cellS18 l_ (c_y j_ u_ h_); clear l_
      refine ⟨_,rfl,c_y,?_⟩
      simp only [aP,lI,l0,lS]; have Mp:=M.perm (pull0 ([]:List (Nat × List Value)) gy2 (ga2++([]:List (Nat × List Value)))); have key:=(dok18 w0).blk w0 _ _ o2 gy2 _ hW2 (by omega) hIy Mp; clear Mp; refine callH (i:=35) (some 215) rfl (by kernel_rfl) rfl rfl (fun _=>by kernel_rfl) key ?_; clear key; rintro e w37 ⟨rfl,l_⟩; replace M:=M.call l_; replace hIa:=hK.bel hIa l_
      replace hIy:=(dok18 w0).bel hIy l_; replace c_y:=fun j_ u_ h_=>cellS18 l_ (c_y j_ u_ h_); clear l_
      refine ⟨_,rfl,c_y,?_⟩
      simp only [aP,lI,l0,lS]; refine xrH 36 216 rfl (.bool false) (fun _ hS=>neqBo _ _ _ _ _ _ rfl rfl rfl (by kernel_rfl) false (by rw [beq_self_eq_true]; rfl) _) c_y ?_; refine xrH 37 217 rfl (.bool false) (fun _ hS=>(by kernel_rfl)) c_y ?_
      refine wpAnyH_done (by kernel_rfl) ?_ _
      first | show Exit.then _ _ _ _ _ | show Exit.inBlock _ _ _ _ _
      have HS:=show Hid _ from (show ObxW o2∧(o2:Obx).b.length≤1000*(q+1)∧I w37 (.pointer (some ⟨Rc,0,none⟩)) o2 ga2∧DI18 w0 w37 (.pointer (some ⟨Ry,0,none⟩)) o2 gy2∧Mm w0 (gy2++(ga2++([]:List (Nat × List Value)))) w37 from ⟨hW2,hln2,hIa,hIy,M⟩); clear M hIa hIy c_y; go_wp2
      go_roundw
      case rel=>first | exact ⟨q+1,_,_,_,by omega,by omega,by go_num,HS.out⟩ | ((repeat apply Exists.intro); exact ⟨⟨q+1,_,_,_,by omega,by omega,by go_num,HS.out⟩,rfl⟩)
      case measure=>simp [intOf]; omega
  | false =>
    try clear hb1
    try clear hb2
    try clear hb3
    go_upto_region 55 with fail; refine wp_region_list ?_; refine xpL (.bool true) ?_; refine xT ?_; have hbel:=M.below; clear M hIa hIy; go_wp2; go_ret
    exact ⟨rfl,hbel⟩
section
section
variable {P:Program} {ops:Array Oper} {Q:Exit→Act→World→Prop} {md:Region.Mode} {S:World→Prop}
def Flt (P:Program) (ops:Array Oper) (Q:Exit→Act→World→Prop) (md:Region.Mode) (S:World→Prop) (z:Nat) (t:Tmp) (n w0 fuel:Nat):Nat→Array Bool→Act→Prop
 | 0,L,a=>Region.ready md ops L=[z]∧∀ B w,S w→Fb n w0 B w→wpAnyH P md ops Q S fuel (L.setIfInBounds z true) (a.put (some t) (.pointer (some ⟨B,0,none⟩))) w
 | k+1,L,a=>(∃ (c:Nat) (r:Tmp) (x:Oper) (f:FuncId) (g:Array Value) (V:Value→Prop),Region.ready md ops L=[c,z]∧Region.ready md ops (L.setIfInBounds z true)=[c]∧ops[c]?=some x∧x.guard=none∧x.dst=some r∧z≠c∧t≠r∧(∀ cs b,x.op≠.select cs b)∧t∉x.looksAt ops∧(∀ w,(execOp a.eval x).run P w=.ok (.enter f g) w) ∧
    (∀ w,S w→Calls P f g w fun e w'=>∃ v,e=.returned v∧V v∧Below w.heap.size w w')∧∀ v,V v→Flt P ops Q md S z t n w0 fuel k (L.setIfInBounds c true) (a.put (some r) v)) ∨
   ∃ (q:Nat) (r:Tmp) (x:Oper) (v:Value),ops[q]?=some x∧x.guard=none∧x.dst=some r∧z≠q∧t≠r∧(∀ cs b,x.op≠.select cs b)∧t∉x.looksAt ops∧(∀ w,(execOp a.eval x).run P w=.ok (.value v) w)∧Region.noSelect ops=true∧(Region.free md ops L q=true∧(Region.ready md ops L).contains q=true)∧(Region.free md ops (L.setIfInBounds z true) q=true∧(Region.ready md ops (L.setIfInBounds z true)).contains q=true) ∧
    (∀ c a w,Q (.panic c) (a.put (some r) v) w→Q (.panic c) a w)∧Flt P ops Q md S z t n w0 fuel k (L.setIfInBounds q true) (a.put (some r) v)
theorem Flt.last {z:Nat} {t:Tmp} {n w0 fuel:Nat} {L:Array Bool} {a:Act} (hr:Region.ready md ops L=[z]) (h:∀ B w,S w→Fb n w0 B w→wpAnyH P md ops Q S fuel (L.setIfInBounds z true) (a.put (some t) (.pointer (some ⟨B,0,none⟩))) w):Flt P ops Q md S z t n w0 fuel 0 L a:=⟨hr,h⟩
theorem Flt.call {z:Nat} {t:Tmp} {n w0 fuel k:Nat} {L:Array Bool} {a:Act} (c:Nat) (r:Tmp) {x:Oper} {f:FuncId} {g:Array Value} (V:Value→Prop) (hr:Region.ready md ops L=[c,z]) (hr':Region.ready md ops (L.setIfInBounds z true)=[c]) (hx:ops[c]?=some x) (hg:x.guard=none) (hd:x.dst=some r)
 (hz:z≠c) (ht:t≠r) (hs:∀ cs b,x.op≠.select cs b) (hl:t∉x.looksAt ops) (he:∀ w,(execOp a.eval x).run P w=.ok (.enter f g) w)
 (hc:∀ w,S w→Calls P f g w fun e w'=>∃ v,e=.returned v∧V v∧Below w.heap.size w w') (h:∀ v,V v→Flt P ops Q md S z t n w0 fuel k (L.setIfInBounds c true) (a.put (some r) v)):Flt P ops Q md S z t n w0 fuel (k+1) L a :=
 .inl ⟨c,r,x,f,g,V,hr,hr',hx,hg,hd,hz,ht,hs,hl,he,hc,h⟩
theorem Flt.read {z:Nat} {t:Tmp} {n w0 fuel k:Nat} {L:Array Bool} {a:Act} (q:Nat) (r:Tmp) {x:Oper} (v:Value) (hx:ops[q]?=some x) (hg:x.guard=none) (hd:x.dst=some r) (hz:z≠q) (ht:t≠r) (hs:∀ cs b,x.op≠.select cs b) (hl:t∉x.looksAt ops) (he:∀ w,(execOp a.eval x).run P w=.ok (.value v) w)
 (hn:Region.noSelect ops=true) (h1:Region.free md ops L q=true) (h2:(Region.ready md ops L).contains q=true) (h3:Region.free md ops (L.setIfInBounds z true) q=true) (h4:(Region.ready md ops (L.setIfInBounds z true)).contains q=true)
 (hQ:∀ c a w,Q (.panic c) (a.put (some r) v) w→Q (.panic c) a w) (h:Flt P ops Q md S z t n w0 fuel k (L.setIfInBounds q true) (a.put (some r) v)):Flt P ops Q md S z t n w0 fuel (k+1) L a :=
 .inr ⟨q,r,x,v,hx,hg,hd,hz,ht,hs,hl,he,hn,⟨h1,h2⟩,⟨h3,h4⟩,hQ,h⟩
theorem Flt.made {z:Nat} {t:Tmp} {n w0 fuel k:Nat} {L:Array Bool} {a:Act} (h:Flt P ops Q md S z t n w0 fuel k L a) (hSc:∀ w w',S w→Below w.heap.size w w'→S w') :
 ∀ B w,S w→Fb n w0 B w→wpAnyH P md ops Q S (fuel+k) (L.setIfInBounds z true) (a.put (some t) (.pointer (some ⟨B,0,none⟩))) w:=by
 induction k generalizing L a with
 | zero=>exact fun B w hS hB=>h.2 B w hS hB
 | succ k ih =>
   rcases h with ⟨c,r,x,f,g,V,_,hr',hx,hg,hd,hz,ht,hs,hl,he,hc,h'⟩ | ⟨q,r,x,v,hx,hg,hd,hz,ht,hs,hl,he,hn,_,⟨h3,h4⟩,hQ,h'⟩
   · intro B w hS hB
     refine wpAnyH_all hr' (by simp) fun j hj=>?_
     obtain rfl:=xm1 hj
     refine callOp hx hg (by rw [eval_one (ops:=ops) t _ hs hl]; exact he w) (hc w hS) fun e w' hR=>?_
     obtain ⟨v,rfl,hv,l⟩:=hR
     have hs1:=hSc _ _ hS l
     refine ⟨v,rfl,hs1,?_⟩
     rw [hd]
     refine wpAnyH_cast (ih (h' v hv) B w' hs1 (hB.call l)) ?_ ?_
     · rw [Array.setIfInBounds_comm _ _ hz]
     · rw [put_comm' _ _ _ ht]
   · intro B w hS hB
     refine readH (i:=q) (some r) hd v hx (by unfold Region.wanted; rw [hg]) (fun w' _=>by rw [eval_one (ops:=ops) t _ hs hl]; exact he w') hn h3 h4 hQ hS ?_
     refine wpAnyH_cast (ih h' B w hS hB) ?_ ?_
     · rw [Array.setIfInBounds_comm _ _ hz]
     · rw [put_comm' _ _ _ ht]
theorem Flt.go {z:Nat} {t:Tmp} {n w0 fuel k:Nat} {L:Array Bool} {a:Act} (h:Flt P ops Q md S z t n w0 fuel k L a) {xz:Oper} (cs:Array Value) (ty:TypeId) (iz:ops[z]?=some xz) (gz:xz.guard=none) (dz:xz.dst=some t)
 (ez:∀ (b:Act) (w:World),(execOp b.eval xz).run P w=.ok (.value (.pointer (some ⟨w.heap.size,0,none⟩))) (w.alloc (.cells cs ty)))
 (hn:∀ w:World,(w.alloc (.cells cs ty)).there w.heap.size 0 n) (hS0:∀ w,S w→w0≤w.heap.size) (hSc:∀ w w',S w→Below w.heap.size w w'→S w') :
 ∀ w,S w→wpAnyH P md ops Q S (fuel+k+1) L a w:=by
 have hSa:∀ w:World,S w→S (w.alloc (.cells cs ty)):=fun w h=>hSc w _ h ((Below.refl w.heap.size w).alloc (xnR _) _)
 have hNew:∀ w:World,S w→Fb n w0 w.heap.size (w.alloc (.cells cs ty)):=fun w h=>⟨hS0 w h,by simp,hn w⟩
 induction k generalizing L a with
 | zero =>
   intro w hS; refine wpAnyH_all h.1 (by simp) fun j hj=>?_
   obtain rfl:=xm1 hj
   refine allocOp iz gz (ez _ w) ?_
   rw [dz]
   exact ⟨hSa _ hS,h.2 _ _ (hSa _ hS) (hNew _ hS)⟩
 | succ k ih =>
   rcases h with ⟨c,r,x,f,g,V,hr,hr',hx,hg,hd,hz,ht,hs,hl,he,hc,h'⟩ | ⟨q,r,x,v,hx,hg,hd,hz,ht,hs,hl,he,hn',⟨h1,h2⟩,_,hQ,h'⟩
   · intro w hS
     refine wpAnyH_all hr (by simp) fun j hj=>?_
     simp only [List.mem_cons,List.not_mem_nil,or_false] at hj
     rcases hj with rfl | rfl
     · refine callOp hx hg (he w) (hc w hS) fun e w' hR=>?_
       obtain ⟨v,rfl,hv,l⟩:=hR
       have hs1:=hSc _ _ hS l
       refine ⟨v,rfl,hs1,?_⟩
       rw [hd]
       exact ih (h' v hv) w' hs1
     · refine allocOp iz gz (ez _ w) ?_
       rw [dz]
       exact ⟨hSa _ hS,Flt.made (Flt.call c r V hr hr' hx hg hd hz ht hs hl he hc h') hSc _ _ (hSa _ hS) (hNew _ hS)⟩
   · intro w hS
     exact readH (i:=q) (some r) hd v hx (by unfold Region.wanted; rw [hg]) (fun w' _=>he w') hn' h1 h2 hQ hS (ih h' w hS)
end
end
theorem Mm.land {w0 w:World} {l:List (Nat × List Value)} (M:Mm w0 l w) {n m B:Nat} (b:Fb n m B w) (hm:∀ p∈l,p.1<m) (h0:w0.heap.size≤m) (cs:List Value) (hc:cs.length=n):Mm w0 ((B,cs)::l) (w.setCells B 0 cs):=by
 have hlo:=b.lo
 have hM:Mm w0 ((B,(List.range n).map fun j=>(w.cell? ⟨B,j,none⟩).getD undef)::l) w:=by
  refine ⟨fun p hp=>?_,List.pairwise_cons.2 ⟨fun p hp e=>?_,M.apart⟩,M.below⟩
  · rcases xc1 hp with rfl | hp
    · refine ⟨fun j hj=>?_,by omega,b.hi⟩
      rw [List.length_map,List.length_range] at hj
      have h1:=b.th j hj
      rw [Nat.zero_add] at h1
      refine ⟨?_,h1.2⟩
      rw [List.getElem?_map,List.getElem?_range hj]
      obtain ⟨v,hv⟩:=Option.isSome_iff_exists.1 h1.1
      show w.cell? ⟨B,j,none⟩=some ((w.cell? ⟨B,j,none⟩).getD undef)
      rw [hv]
      rfl
    · exact M.rows p hp
  · have:=hm p hp
    have e':B=p.1:=e
    omega
 exact hM.setAll cs (by rw [List.length_map,List.length_range]; exact hc)
end Go.Proofs.Ytpdpfdelglgfnaa
