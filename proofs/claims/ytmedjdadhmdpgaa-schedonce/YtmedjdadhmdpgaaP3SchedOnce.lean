/- Texts of LawSchedOnce Aj Ak Mi Ap, joined. -/
import Derived.Test.YtmedjdadhmdpgaaP2SchedOnce
import Derived.Deep.CutBlock
import Derived.Deep.DeepCutAuto
import Derived.Maps.Range
set_option maxRecDepth 20000
set_option maxHeartbeats 64000000
namespace Go.Proofs.Ytmedjdadhmdpgaa
open Go.RowKit
theorem pullZ21 {α:Type} (x:α) (a b t:List α):(x::(a++(b++t))).Perm (a++(b++([x]++t))):=by
 have h:=pull0 [x] (a++b) t
 rw [List.append_assoc,List.append_assoc] at h
 exact h
theorem law_SchedOnce {I:SchI} (hK:SchOK I) (sp:Option Addr) (cap:Nat) (l:List Opv) (_maxl:l.length≤140737488351232) (w0:World) (hin:OpsIn w0 140737488351232 sp l) :
 Calls Try.prog 4 #[.slice sp l.length cap] w0 fun e w'=>e=.returned (.bool true)∧Below w0.heap.size w0 w':=by
 have M:=Mm.init w0
 go_enter Try.func4,Try.ntmps4
 go_upto_region 0 with fail; refine wp_region_list ?_; refine xpL (.bool false) ?_; refine xT ?_; go_upto_region 1 with fail; refine wp_region_list ?_; have key:=shown21_any hK w0; refine xcL key ?_; clear key; rintro e w1 ⟨rfl,l_⟩; replace M:=M.call l_; clear l_; refine xeL ?_; refine xpL (.bool true) ?_; refine xT ?_; go_upto_region 2 with fail; refine wp_region_list ?_
 have key:=hK.new w0 _ _ 0 (by unfold i64; decide) M; refine xcL key ?_; clear key; rintro e w2 ⟨v_,ba0,rfl,hIa,M',l_⟩
 obtain ⟨Ra,rfl⟩:=hK.ptr _ _ _ _ hIa
 clear M; have M:=M'.perm (pull0 ([]:List (Nat × List Value)) ba0 ([]:List (Nat × List Value))).symm; clear M'; clear l_
 replace M:Mm w0 ((ba0++([]:List (Nat × List Value)))) w2:=M
 refine xeL ?_; refine xpL (.pointer (some ⟨Ra,0,none⟩)) ?_; refine xT ?_; go_upto_region 3 with fail; refine wp_region_list ?_; refine xpL (.bool true) ?_; refine xpL (.bool false) ?_; refine xpL (.bool false) ?_; refine xpL (.pointer (some ⟨Ra,0,none⟩)) ?_; refine xpL (.bool false) ?_; refine xpL (.bool false) ?_; refine xT ?_; go_upto_region 5 with fail; refine wp_region_list ?_
 refine xpL (.pointer (some ⟨Ra,0,none⟩)) ?_; have Mp:=M.perm (pull0 ([]:List (Nat × List Value)) ba0 ([]:List (Nat × List Value))); have key:=hK.opn w0 _ _ (snew 0) ba0 _ 5 (snew_w _) (show 0<1000000000 by decide) (by unfold i64; decide) hIa Mp
 rw [show sop (snew 0) 5=o1 flg0 from rfl] at key
 refine xcL key ?_; clear key; rintro e w3 ⟨ba1,rfl,hI_,M',o1⟩; clear o1 Mp M hIa; have hIa:=hI_; clear hI_
 have M:Mm w0 ((ba1++([]:List (Nat × List Value)))) w3:=M'.perm (pull0 ([]:List (Nat × List Value)) ba1 ([]:List (Nat × List Value))).symm
 clear M'; refine xeL ?_; refine xT ?_; go_upto_region 6 with fail; refine wp_region_list ?_; have V_H:=World.ownsRow_lit (base:=w0.heap.size) (e:=4) (size:=1) w3 #[] 0 M.below.size (Nat.zero_le _) rfl; have hlb:=(Below.refl w3.heap.size w3).alloc (xnR _) (.cells #[] 4); refine actL (w':=w3.alloc (.cells #[] 4)) (.slice (some ⟨w3.heap.size,0,none⟩) 0 0) rfl (by kernel_rfl) ?_
 simp only [aP,lI,l0,lS]; replace hIa:=hK.bel hIa hlb
 have M':=M.rowNil #[] 4
 clear M hlb
 obtain ⟨sH0,hsu⟩:∃ su,su=(some ⟨w3.heap.size,0,none⟩:Option Addr):=⟨_,rfl⟩
 rw [← hsu] at M' V_H ⊢
 generalize w3.alloc (.cells #[] 4)=w4 at M' V_H hIa ⊢; have M:=M'.perm (pull0 ([]:List (Nat × List Value)) (obs sH0) (ba1++([]:List (Nat × List Value)))).symm; clear M' hsu
 replace M:Mm w0 (((obs sH0)++(ba1++([]:List (Nat × List Value))))) w4:=M
 refine xpL (.slice sH0 0 0) ?_; refine xT ?_; go_upto_region 7 with fail; refine wp_region_list ?_; refine xpL (.int .i64 0) ?_; refine xT ?_; go_upto_region 8 with fail; refine wp_region_list ?_; refine xpL (.int .i64 0) ?_; refine xT ?_
 have HI:=show Hid _ from (show I w4 (.pointer (some ⟨Ra,0,none⟩)) (o1 flg0) ba1∧w4.ownsRow w0.heap.size 4 1 (.slice sH0 0 0) 0 (brw 0 (fun _=>false))∧Mm w0 ((obs sH0)++(ba1++([]:List (Nat × List Value)))) w4 from ⟨hIa,V_H,M⟩); clear M hIa V_H; go_wp2
 go_loopw [5,6,7] (fun t_ n_ i_ w'=>∃ (q n:Nat) (f:Flg) (he:Nat→Bool) (sH:Option Addr) (cH:Nat) (ga:List (Nat × List Value)),q≤100∧q≤l.length∧n≤q∧OnI f n he∧t_=.slice sH n cH∧n_=.int .i64 (n:Int)∧i_=.int .i64 (q:Int)∧I w' (.pointer (some ⟨Ra,0,none⟩)) (o1 f) ga∧w'.ownsRow w0.heap.size 4 1 (.slice sH n cH) n (brw n he)∧Mm w0 ((obs sH)++(ga++([]:List (Nat × List Value)))) w') (fun _ _ i_ _=>l.length-(intOf i_).toNat)
 case atStart=>exact ⟨0,0,flg0,fun _=>false,sH0,0,_,by omega,by omega,xnR _,onI0 0 (fun _ _=>rfl),rfl,rfl,rfl,HI.out⟩
 case round =>
  clear HI
  obtain ⟨q,n,f,he,sH,cH,ga,hq,hq2,hnq,hO,rfl,rfl,rfl,hIa,V_H,M⟩:=hrel
  have hfl:=hO.l
  by_cases hql:q<l.length
  · by_cases hq1:q<100
    · go_upto_region 9 with fail
      refine wp_region_list ?_; refine xpL (.int .i64 ((q:Nat):Int)) ?_; refine xpL (.slice sp l.length cap) ?_; refine xaL (.int .i64 ((l.length:Nat):Int)) (lenS _ 22 31 sp l.length cap rfl Try.underlying22 rfl _) ?_; refine xaL (.bool true) (lssI .i64 _ _ _ _ _ _ rfl rfl rfl true (decide_eq_true (by omega)) _) ?_; refine xpL (.bool true) ?_; refine xpL (.int .i64 ((q:Nat):Int)) ?_
      refine xaL (.bool true) (lssI .i64 _ _ _ _ _ _ rfl rfl rfl true (decide_eq_true (by omega)) _) ?_; refine xpL (.bool true) ?_; refine xT ?_
      have hlt_l:q<l.length:=hql
      obtain ⟨v,hv⟩:∃ v,l[q]?=some v:=⟨_,List.getElem?_eq_getElem hlt_l⟩
      obtain ⟨ad,rp,rc,ap,ac,tp,tc,rfl,hoc,hov⟩:=hin q v hv
      go_upto_region 11 with fail; refine wp_region_list ?_; refine xpL (.slice (some ad) l.length cap) ?_; refine xpL (.int .i64 ((q:Nat):Int)) ?_; refine readL (.pointer (some (ad.add (q*7)))) rfl (idxO21 ad _ _ q hlt_l _ _ rfl rfl rfl _) ?_; simp only [aP,lI,l0,lS]
      refine xaL (.agg #[.int .i64 v.k,.int .i64 v.d,.int .i64 v.n,.int .i64 v.m,.slice rp v.r.length rc,.slice ap v.a.length ac,.slice tp v.t.length tc]) (loadN 31 _ (ad.add (q*7)) [.int .i64 v.k,.int .i64 v.d,.int .i64 v.n,.int .i64 v.m,.slice rp v.r.length rc,.slice ap v.a.length ac,.slice tp v.t.length tc] rfl rfl (fun _=>by kernel_rfl) (fun _=>by kernel_rfl) (fun k_ x_ hx_=>cellS21 M.below (hoc k_ x_ hx_))) ?_
      have hlb:=(Below.refl wr.heap.size wr).alloc (xnR _) (.cells #[.int .i64 0,.int .i64 0,.int .i64 0,.int .i64 0,.slice none 0 0,.slice none 0 0,.slice none 0 0] 31); refine actL (w':=wr.alloc (.cells #[.int .i64 0,.int .i64 0,.int .i64 0,.int .i64 0,.slice none 0 0,.slice none 0 0,.slice none 0 0] 31)) (.pointer (some ⟨wr.heap.size,0,none⟩)) rfl (by kernel_rfl) ?_
      simp only [aP,lI,l0,lS]; replace hIa:=hK.bel hIa hlb; replace V_H:=ownsRow_bel V_H hlb; replace M:=M.box #[.int .i64 0,.int .i64 0,.int .i64 0,.int .i64 0,.slice none 0 0,.slice none 0 0,.slice none 0 0] 31 wr.heap.size rfl; clear hlb
      generalize wr.alloc (.cells #[.int .i64 0,.int .i64 0,.int .i64 0,.int .i64 0,.slice none 0 0,.slice none 0 0,.slice none 0 0] 31)=w5 at M hIa V_H ⊢; generalize wr.heap.size=B5 at M ⊢
      replace M:Mm w0 ((B5,[.int .i64 0,.int .i64 0,.int .i64 0,.int .i64 0,.slice none 0 0,.slice none 0 0,.slice none 0 0])::((obs sH)++(ga++([]:List (Nat × List Value))))) w5:=M
      refine skipOpL rfl (storeP [.int .i64 v.k,.int .i64 v.d,.int .i64 v.n,.int .i64 v.m,.slice rp v.r.length rc,.slice ap v.a.length ac,.slice tp v.t.length tc] B5 0 31 _ _ rfl rfl rfl (M.thereP mS 0 7 (Nat.le_of_ble_eq_true rfl)) (by kernel_rfl) (List.all_eq_true.1 (rfl:([.int .i64 v.k,.int .i64 v.d,.int .i64 v.n,.int .i64 v.m,.slice rp v.r.length rc,.slice ap v.a.length ac,.slice tp v.t.length tc]:List Value).all (fun u=>u.oneCell')=true))) ?_
      simp only [Act.put]; replace M:=M.setPart [.int .i64 v.k,.int .i64 v.d,.int .i64 v.n,.int .i64 v.m,.slice rp v.r.length rc,.slice ap v.a.length ac,.slice tp v.t.length tc] 0 (Nat.le_of_ble_eq_true rfl)
      replace hIa:=hK.off _ _ _ _ _ _ hIa ((Off.refl [B5] _).setAll (b:=B5) mS 0 [.int .i64 v.k,.int .i64 v.d,.int .i64 v.n,.int .i64 v.m,.slice rp v.r.length rc,.slice ap v.a.length ac,.slice tp v.t.length tc]) (fun b_ hb_=>by obtain rfl:=xm1 hb_; exact M.awayC (fun p_ hp_=>by simp [hp_]))
      replace V_H:=ownsRow_away V_H ((Off.refl [B5] _).setAll (b:=B5) mS 0 [.int .i64 v.k,.int .i64 v.d,.int .i64 v.n,.int .i64 v.m,.slice rp v.r.length rc,.slice ap v.a.length ac,.slice tp v.t.length tc]) (fun b_ hb_=>by obtain rfl:=xm1 hb_; exact M.awayB (fun p_ hp_=>by simp [hp_]))
      generalize w5.setCells B5 0 [.int .i64 v.k,.int .i64 v.d,.int .i64 v.n,.int .i64 v.m,.slice rp v.r.length rc,.slice ap v.a.length ac,.slice tp v.t.length tc]=w6 at M hIa V_H ⊢
      replace M:Mm w0 ((B5,[.int .i64 v.k,.int .i64 v.d,.int .i64 v.n,.int .i64 v.m,.slice rp v.r.length rc,.slice ap v.a.length ac,.slice tp v.t.length tc])::((obs sH)++(ga++([]:List (Nat × List Value))))) w6:=M
      refine xT ?_; go_upto_region 12 with fail; refine wp_region_list ?_; have hlb:=(Below.refl w6.heap.size w6).alloc (xnR _) (.cells #[] 38); refine actL (w':=w6.alloc (.cells #[] 38)) (.slice (some ⟨w6.heap.size,0,none⟩) 0 0) rfl (by kernel_rfl) ?_; simp only [aP,lI,l0,lS]; replace hIa:=hK.bel hIa hlb; replace V_H:=ownsRow_bel V_H hlb; replace M:=M.box #[] 38 w6.heap.size rfl
      clear hlb; generalize w6.alloc (.cells #[] 38)=w7 at M hIa V_H ⊢; generalize w6.heap.size=B7 at M ⊢
      replace M:Mm w0 ((B7,[])::(B5,[.int .i64 v.k,.int .i64 v.d,.int .i64 v.n,.int .i64 v.m,.slice rp v.r.length rc,.slice ap v.a.length ac,.slice tp v.t.length tc])::((obs sH)++(ga++([]:List (Nat × List Value))))) w7:=M
      refine xpL (.slice (some ⟨B7,0,none⟩) 0 0) ?_; refine xT ?_; go_upto_region 13 with fail; refine wp_region_list ?_; refine xpL (.pointer (some ⟨B5,0,none⟩)) ?_; refine xaL (.int .i64 v.k) (load1 3 _ ⟨B5,0,none⟩ _ rfl rfl (fun _=>by kernel_rfl) (M.get (mT _ mS) 0 _ rfl)) ?_; have key:=kind21_any v.k 8 (by decide) hov.k_i w7; refine xcL key ?_; clear key; rintro e w8 ⟨rfl,l_⟩
      replace M:=M.call l_; replace hIa:=hK.bel hIa l_; replace V_H:=ownsRow_bel V_H l_; clear l_; refine xeL ?_; have hkd:=kdn_lt v.k 8 (by decide); generalize kdn v.k 8=kz at hkd ⊢; refine xT ?_
      go_upto_block 2 with fail
      go_cut [5,6,9] (fun t_ n_ l_ wx=>∃ (n2:Nat) (f2:Flg) (cs:List Nat) (sH2:Option Addr) (cH2:Nat) (pz:Option Addr) (cz bz:Nat) (ga2:List (Nat × List Value)),n2≤q+1∧OnI f2 n2 he∧Lst1 cs n2 he∧(∀ r∈f2.rs,r.c∉cs)∧t_=.slice sH2 n2 cH2∧n_=.int .i64 (n2:Int)∧l_=.slice pz (cs.map lp1).length cz∧I wx (.pointer (some ⟨Ra,0,none⟩)) (o1 f2) ga2∧wx.ownsRow w0.heap.size 4 1 (.slice sH2 n2 cH2) n2 (brw n2 he)∧NewW wx bz (cs.map lp1) (.slice pz (cs.map lp1).length cz)∧Mm w0 ((obs sH2)++(ga2++((obs pz)++([]:List (Nat × List Value))))) wx)
      case first =>
       go_upto_region 14 with fail; refine wp_region_list ?_; refine xaL (.bool (decide (kz=0))) (eqlI .i64 _ _ _ _ _ _ rfl rfl rfl (decide (kz=0)) (by rw [Bool.eq_iff_iff,beq_iff_eq,decide_eq_true_iff]; omega) _) ?_; refine xpL (.bool (decide (kz=0))) ?_; refine xT ?_
       go_upto_if 42 with fail
       go_cut [42] (fun b_ wx=>b_=.bool (decide (kz=0∨kz=2∨kz=3))∧w8=wx)
       case first =>
        by_cases c_:kz=0
        · rw [decide_eq_true c_]
          go_wp2
          go_meet
          exact ⟨by rw [decide_eq_true (show kz=0∨kz=2∨kz=3 by omega)],rfl⟩
        · rw [decide_eq_false c_]
          go_upto_region 15 with fail; refine wp_region_list ?_; refine xaL (.bool (decide (kz=2))) (eqlI .i64 _ _ _ _ _ _ rfl rfl rfl (decide (kz=2)) (by rw [Bool.eq_iff_iff,beq_iff_eq,decide_eq_true_iff]; omega) _) ?_; refine xpL (.bool (decide (kz=2))) ?_; refine xT ?_
          by_cases d_:kz=2
          · rw [decide_eq_true d_]
            go_wp2
            go_meet
            exact ⟨by rw [decide_eq_true (show kz=0∨kz=2∨kz=3 by omega)],rfl⟩
          · rw [decide_eq_false d_]
            go_upto_region 16 with fail; refine wp_region_list ?_; refine xaL (.bool (decide (kz=0∨kz=2∨kz=3))) (eqlI .i64 _ _ _ _ _ _ rfl rfl rfl (decide (kz=0∨kz=2∨kz=3)) (by rw [Bool.eq_iff_iff,beq_iff_eq,decide_eq_true_iff]; omega) _) ?_; refine xpL (.bool (decide (kz=0∨kz=2∨kz=3))) ?_; refine xT ?_; go_wp2
            go_meet
            exact ⟨rfl,rfl⟩
       case rest =>
        obtain ⟨rfl,rfl⟩:=hcut
        by_cases c42:kz=0∨kz=2∨kz=3
        · rw [decide_eq_true c42]
          have hO2:=hO.sent (by omega) v.m; go_upto_region 17 with fail; refine wp_region_list ?_; refine xpL (.pointer (some ⟨Ra,0,none⟩)) ?_
          have Mp:=M.perm (pull1 ([(B7,[]),(B5,[.int .i64 v.k,.int .i64 v.d,.int .i64 v.n,.int .i64 v.m,.slice rp v.r.length rc,.slice ap v.a.length ac,.slice tp v.t.length tc])]:List (Nat × List Value)) (obs sH) ga ([]:List (Nat × List Value))); have key:=hK.und w0 _ _ (o1 f) ga _ 5 (o1_w hO.w) (hO.sz (by omega)) (by unfold i64; decide) hIa Mp; clear Mp
          rw [(o1_seen f).1] at key
          refine xcL key ?_; clear key; rintro e w9 ⟨rfl,l_⟩; replace M:=M.call l_; replace hIa:=hK.bel hIa l_; replace V_H:=ownsRow_bel V_H l_; clear l_; refine xeL ?_; refine xpL (.int .i64 ((f.rs.length:Nat):Int)) ?_; refine xT ?_; go_upto_region 18 with fail; refine wp_region_list ?_; refine xpL (.pointer (some ⟨Ra,0,none⟩)) ?_; refine xpL (.int .i64 ((n:Nat):Int)) ?_
          refine xpL (.pointer (some ⟨B5,3,none⟩)) ?_; refine xaL (.int .i64 v.m) (load1 3 _ ⟨B5,3,none⟩ _ rfl rfl (fun _=>by kernel_rfl) (M.get (mT _ mS) 3 _ rfl)) ?_; refine xpL (.int .i64 ((n:Nat):Int)) ?_; refine xpL (.int .i64 ((n:Nat):Int)) ?_; refine readL (.int .i64 (((n:Nat):Int)+1)) rfl (addI .i64 _ _ _ _ _ _ _ rfl rfl rfl (by rw [xw6]; omega) _) ?_
          simp only [aP,lI,l0,lS]; refine xpL (.agg #[.int .i64 ((n:Nat):Int),.int .i64 (((n:Nat):Int)+1)]) ?_; have hlb:=(Below.refl w9.heap.size w9).alloc (xnR _) (.cells #[.int .i64 ((n:Nat):Int),.int .i64 (((n:Nat):Int)+1)] 38)
          refine actL (w':=w9.alloc (.cells #[.int .i64 ((n:Nat):Int),.int .i64 (((n:Nat):Int)+1)] 38)) (.slice (some ⟨w9.heap.size,0,none⟩) 1 1) rfl (by kernel_rfl) ?_; simp only [aP,lI,l0,lS]; replace hIa:=hK.bel hIa hlb; replace V_H:=ownsRow_bel V_H hlb; replace M:=M.box #[.int .i64 ((n:Nat):Int),.int .i64 (((n:Nat):Int)+1)] 38 w9.heap.size rfl; clear hlb
          generalize w9.alloc (.cells #[.int .i64 ((n:Nat):Int),.int .i64 (((n:Nat):Int)+1)] 38)=w10 at M hIa V_H ⊢; generalize w9.heap.size=B10 at M ⊢
          replace M:Mm w0 ((B10,[.int .i64 ((n:Nat):Int),.int .i64 (((n:Nat):Int)+1)])::(B7,[])::(B5,[.int .i64 v.k,.int .i64 v.d,.int .i64 v.n,.int .i64 v.m,.slice rp v.r.length rc,.slice ap v.a.length ac,.slice tp v.t.length tc])::((obs sH)++(ga++([]:List (Nat × List Value))))) w10:=M
          have Mp:=M.perm (pull1 ([(B10,[.int .i64 ((n:Nat):Int),.int .i64 (((n:Nat):Int)+1)]),(B7,[]),(B5,[.int .i64 v.k,.int .i64 v.d,.int .i64 v.n,.int .i64 v.m,.slice rp v.r.length rc,.slice ap v.a.length ac,.slice tp v.t.length tc])]:List (Nat × List Value)) (obs sH) ga ([]:List (Nat × List Value)))
          have key:=hK.snt w0 _ _ (o1 f) ga _ 5 ((n:Nat):Int) v.m [lp1 n] (some ⟨B10,0,none⟩) 1 (o1_w hO.w) (hO.sz (by omega)) (by unfold i64; decide) (by unfold i64; omega) hov.m_i (show (1:Nat)<2000000 by decide) (lp1_in (by omega)) (RgW.ofW (M.newWt mS [lp1 n] rfl (xnR _))) (fun b_ hb_ _ h_=>by obtain rfl:=xm1 h_; exact Mp.beside mS hb_) hIa Mp
          rw [hO.ssn (by omega) v.m] at key
          refine xcL key ?_; clear key; rintro e w11 ⟨ba1,rfl,hI_,M',o1⟩; replace V_H:=ownsRow_away V_H o1 (Mp.awayS (fun p_ hp_=>by simp [hp_])); clear o1 Mp M hIa; have hIa:=hI_; clear hI_
          have M:Mm w0 ((B10,[.int .i64 ((n:Nat):Int),.int .i64 (((n:Nat):Int)+1)])::(B7,[])::(B5,[.int .i64 v.k,.int .i64 v.d,.int .i64 v.n,.int .i64 v.m,.slice rp v.r.length rc,.slice ap v.a.length ac,.slice tp v.t.length tc])::(ba1++((obs sH)++([]:List (Nat × List Value))))) w11:=M'.perm (pull0 ([(B10,[.int .i64 ((n:Nat):Int),.int .i64 (((n:Nat):Int)+1)]),(B7,[]),(B5,[.int .i64 v.k,.int .i64 v.d,.int .i64 v.n,.int .i64 v.m,.slice rp v.r.length rc,.slice ap v.a.length ac,.slice tp v.t.length tc])]:List (Nat × List Value)) ba1 ((obs sH)++([]:List (Nat × List Value)))).symm
          clear M'; refine xeL ?_; refine xT ?_; go_upto_region 19 with fail; refine wp_region_list ?_; refine xpL (.pointer (some ⟨Ra,0,none⟩)) ?_
          have Mp:=M.perm (pull0 ([(B10,[.int .i64 ((n:Nat):Int),.int .i64 (((n:Nat):Int)+1)]),(B7,[]),(B5,[.int .i64 v.k,.int .i64 v.d,.int .i64 v.n,.int .i64 v.m,.slice rp v.r.length rc,.slice ap v.a.length ac,.slice tp v.t.length tc])]:List (Nat × List Value)) ba1 ((obs sH)++([]:List (Nat × List Value))))
          have key:=hK.und w0 _ _ (o1 (fsnt f n v.m)) ba1 _ 5 (o1_w hO2.w) (hO2.sz (by omega)) (by unfold i64; decide) hIa Mp; clear Mp
          rw [(o1_seen (fsnt f n v.m)).1] at key
          refine xcL key ?_; clear key; rintro e w12 ⟨rfl,l_⟩; replace M:=M.call l_; replace hIa:=hK.bel hIa l_; replace V_H:=ownsRow_bel V_H l_; clear l_; refine xeL ?_; refine xpL (.int .i64 ((f.rs.length:Nat):Int)) ?_; refine readL (.int .i64 (((f.rs.length:Nat):Int)+1)) rfl (addI .i64 _ _ _ _ _ _ _ rfl rfl rfl (by rw [xw6]; omega) _) ?_; simp only [aP,lI,l0,lS]
          refine xaL (.bool false) (neqI .i64 _ _ _ _ _ _ rfl rfl rfl false (by rw [bne_eq_false_iff_eq,fsnt_len]; omega) _) ?_; refine xT ?_; go_upto_region 21 with fail; refine wp_region_list ?_; refine xpL (.int .i64 ((n:Nat):Int)) ?_; refine xaL (.int .i64 ((n+1:Nat):Int)) (addI .i64 _ _ _ _ _ _ _ rfl rfl rfl (by rw [xw6]; omega) _) ?_
          refine xpL (.int .i64 ((n+1:Nat):Int)) ?_; refine xT ?_; go_upto_region 22 with fail; refine wp_region_list ?_; refine xpL (.slice sH n cH) ?_; have hlb:=(Below.refl w12.heap.size w12).alloc (xnR _) (.cells #[.bool false] 4); refine actL (w':=w12.alloc (.cells #[.bool false] 4)) (.slice (some ⟨w12.heap.size,0,none⟩) 1 1) rfl (by kernel_rfl) ?_; simp only [aP,lI,l0,lS]
          replace hIa:=hK.bel hIa hlb; replace V_H:=ownsRow_bel V_H hlb; replace M:=M.box #[.bool false] 4 w12.heap.size rfl; clear hlb; generalize w12.alloc (.cells #[.bool false] 4)=w13 at M hIa V_H ⊢; generalize w12.heap.size=B13 at M ⊢
          replace M:Mm w0 ((B13,[.bool false])::(B10,[.int .i64 ((n:Nat):Int),.int .i64 (((n:Nat):Int)+1)])::(B7,[])::(B5,[.int .i64 v.k,.int .i64 v.d,.int .i64 v.n,.int .i64 v.m,.slice rp v.r.length rc,.slice ap v.a.length ac,.slice tp v.t.length tc])::(ba1++((obs sH)++([]:List (Nat × List Value))))) w13:=M
          obtain ⟨v2,w14,hr,V2,hgr,hg2⟩:=run_append_OwnV (P:=Try.prog) (ty:=47) Try.underlying47 manyB rfl (by decide) V_H ⟨B13,0,none⟩ 1 1 [.bool false] rfl (fun j_ u_ h_=>by
           match j_,h_ with
           | 0,h_=>obtain rfl:=Option.some.inj h_; exact M.get mS 0 _ rfl
           | j_+1,h_=>cases h_) (fun u_ h_=>by obtain rfl:=xm1 h_; rfl) (by unfold maxLen; omega) (by omega) M.below.size
          have Mp:=M.perm (pull1 ([(B13,[.bool false]),(B10,[.int .i64 ((n:Nat):Int),.int .i64 (((n:Nat):Int)+1)]),(B7,[]),(B5,[.int .i64 v.k,.int .i64 v.d,.int .i64 v.n,.int .i64 v.m,.slice rp v.r.length rc,.slice ap v.a.length ac,.slice tp v.t.length tc])]:List (Nat × List Value)) ba1 (obs sH) ([]:List (Nat × List Value)))
          obtain ⟨sH14,cH14,rfl,_,_⟩:=row_form16 V2
          have M':=Mp.rowApp V_H hgr V2 hg2 (xnR _)
          have oS:Off (ob sH) w13 w14:=(Off.refl (ob sH) w13).grown hgr (fun b_ hb_=>.inl ((ob_own _ _ _ _).1 hb_))
          replace hIa:=hK.off _ _ _ _ _ _ hIa oS (fun b_ hb_=>Mp.awayG (fun p_ hp_=>by simp [hp_]) b_ (by rw [obs_fst]; exact hb_)); refine xaL _ (appendOp _ _ 47 _ _ _ rfl rfl rfl hr) ?_; clear hr hgr hg2 V_H oS Mp M
          rw [brw_snoc,brw_congr (fun i_ _=>bput_no (hO.h n (xnR n)) i_)] at V2
          have V_H:w14.ownsRow w0.heap.size 4 1 (.slice sH14 (n+1) cH14) (n+1) (brw (n+1) he):=V2
          clear V2
          have M:Mm w0 ((B13,[.bool false])::(B10,[.int .i64 ((n:Nat):Int),.int .i64 (((n:Nat):Int)+1)])::(B7,[])::(B5,[.int .i64 v.k,.int .i64 v.d,.int .i64 v.n,.int .i64 v.m,.slice rp v.r.length rc,.slice ap v.a.length ac,.slice tp v.t.length tc])::((obs sH14)++(ba1++([]:List (Nat × List Value))))) w14:=M'.perm (pull0 ([(B13,[.bool false]),(B10,[.int .i64 ((n:Nat):Int),.int .i64 (((n:Nat):Int)+1)]),(B7,[]),(B5,[.int .i64 v.k,.int .i64 v.d,.int .i64 v.n,.int .i64 v.m,.slice rp v.r.length rc,.slice ap v.a.length ac,.slice tp v.t.length tc])]:List (Nat × List Value)) (obs sH14) (ba1++([]:List (Nat × List Value)))).symm
          clear M'; refine xpL (.slice sH14 (n+1) cH14) ?_; refine xT ?_; have W_e:=M.newWt (cap:=0) (mI 2 rfl) [] rfl (xnR _)
          replace M:Mm w0 ((B13,[.bool false])::(B10,[.int .i64 ((n:Nat):Int),.int .i64 (((n:Nat):Int)+1)])::(B7,[])::(B5,[.int .i64 v.k,.int .i64 v.d,.int .i64 v.n,.int .i64 v.m,.slice rp v.r.length rc,.slice ap v.a.length ac,.slice tp v.t.length tc])::(ba1++((obs sH14)++([]:List (Nat × List Value))))) w14:=(M.perm (pull1 ([(B13,[.bool false]),(B10,[.int .i64 ((n:Nat):Int),.int .i64 (((n:Nat):Int)+1)]),(B7,[]),(B5,[.int .i64 v.k,.int .i64 v.d,.int .i64 v.n,.int .i64 v.m,.slice rp v.r.length rc,.slice ap v.a.length ac,.slice tp v.t.length tc])]:List (Nat × List Value)) (obs sH14) ba1 ([]:List (Nat × List Value)))).perm (pull0 ([(B13,[.bool false]),(B10,[.int .i64 ((n:Nat):Int),.int .i64 (((n:Nat):Int)+1)]),(B7,[]),(B5,[.int .i64 v.k,.int .i64 v.d,.int .i64 v.n,.int .i64 v.m,.slice rp v.r.length rc,.slice ap v.a.length ac,.slice tp v.t.length tc])]:List (Nat × List Value)) ba1 ((obs sH14)++([]:List (Nat × List Value)))).symm
          replace M:Mm w0 ((B13,[.bool false])::(B10,[.int .i64 ((n:Nat):Int),.int .i64 (((n:Nat):Int)+1)])::(B7,[])::(B5,[.int .i64 v.k,.int .i64 v.d,.int .i64 v.n,.int .i64 v.m,.slice rp v.r.length rc,.slice ap v.a.length ac,.slice tp v.t.length tc])::((obs sH14)++(ba1++([]:List (Nat × List Value))))) w14:=(M.perm (pull1 ([(B13,[.bool false]),(B10,[.int .i64 ((n:Nat):Int),.int .i64 (((n:Nat):Int)+1)]),(B7,[]),(B5,[.int .i64 v.k,.int .i64 v.d,.int .i64 v.n,.int .i64 v.m,.slice rp v.r.length rc,.slice ap v.a.length ac,.slice tp v.t.length tc])]:List (Nat × List Value)) ba1 (obs sH14) ([]:List (Nat × List Value)))).perm (pull0 ([(B13,[.bool false]),(B10,[.int .i64 ((n:Nat):Int),.int .i64 (((n:Nat):Int)+1)]),(B7,[]),(B5,[.int .i64 v.k,.int .i64 v.d,.int .i64 v.n,.int .i64 v.m,.slice rp v.r.length rc,.slice ap v.a.length ac,.slice tp v.t.length tc])]:List (Nat × List Value)) (obs sH14) (ba1++([]:List (Nat × List Value)))).symm
          have M2:Mm w0 ((obs sH14)++(ba1++((obs (some ⟨B7,0,none⟩))++([]:List (Nat × List Value))))) w14:=(M.sub (((B7,[])::((obs sH14)++(ba1++([]:List (Nat × List Value)))))) (by first | exact List.Sublist.cons_cons _ (by repeat (first | exact List.Sublist.refl _ | apply List.Sublist.cons)) | repeat (first | exact List.Sublist.refl _ | (apply List.Sublist.cons_cons; repeat (first | exact List.Sublist.refl _ | apply List.Sublist.cons)) | apply List.Sublist.cons))).perm (pullZ21 _ _ _ _)
          have HS:=show Hid _ from (show I w14 (.pointer (some ⟨Ra,0,none⟩)) (o1 (fsnt f n v.m)) ba1∧w14.ownsRow w0.heap.size 4 1 (.slice sH14 (n+1) cH14) (n+1) (brw (n+1) he)∧NewW w14 _ (([]:List Nat).map lp1) (.slice (some ⟨B7,0,none⟩) (([]:List Nat).map lp1).length 0)∧Mm w0 ((obs sH14)++(ba1++((obs (some ⟨B7,0,none⟩))++([]:List (Nat × List Value))))) w14 from ⟨hIa,V_H,W_e,M2⟩)
          have HF:=show Hid _ from (And.intro hO2 (And.intro (lst0 (n+1) he) (fun _ _=>List.not_mem_nil:∀ r∈(fsnt f n v.m).rs,r.c∉([]:List Nat)))); clear M M2 W_e hIa V_H; go_wp2
          go_meet
          exact ⟨(n+1),(fsnt f n v.m),([]:List Nat),_,_,_,_,_,_,by omega,HF.out.1,HF.out.2.1,HF.out.2.2,rfl,by go_num,rfl,HS.out⟩
        · rw [decide_eq_false c42]
          by_cases c_4:kz=4
          · go_upto_region 23 with fail
            refine wp_region_list ?_; refine xaL (.bool true) (eqlI .i64 _ _ _ _ _ _ rfl rfl rfl true (beq_iff_eq.2 (by omega)) _) ?_; refine xpL (.bool true) ?_; refine xT ?_
            obtain ⟨f2,cs,hg2,hg1,hO2,hcs,hdj⟩:=hO.got v.n v.r
            go_upto_region 24 with fail; refine wp_region_list ?_; refine xpL (.pointer (some ⟨Ra,0,none⟩)) ?_; refine xpL (.pointer (some ⟨B5,2,none⟩)) ?_; refine xaL (.int .i64 v.n) (load1 3 _ ⟨B5,2,none⟩ _ rfl rfl (fun _=>by kernel_rfl) (M.get (mT _ mS) 2 _ rfl)) ?_; refine xpL (.pointer (some ⟨B5,4,none⟩)) ?_
            refine xaL (.slice rp v.r.length rc) (load1 28 _ ⟨B5,4,none⟩ _ rfl rfl (fun _=>by kernel_rfl) (M.get (mT _ mS) 4 _ rfl)) ?_; refine xpL (.pointer (some ⟨B5,3,none⟩)) ?_; refine xaL (.int .i64 v.m) (load1 3 _ ⟨B5,3,none⟩ _ rfl rfl (fun _=>by kernel_rfl) (M.get (mT _ mS) 3 _ rfl)) ?_
            have Mp:=M.perm (pull1 ([(B7,[]),(B5,[.int .i64 v.k,.int .i64 v.d,.int .i64 v.n,.int .i64 v.m,.slice rp v.r.length rc,.slice ap v.a.length ac,.slice tp v.t.length tc])]:List (Nat × List Value)) (obs sH) ga ([]:List (Nat × List Value)))
            have key:=hK.got w0 _ _ (o1 f) ga _ 5 v.n v.r rp rc v.m (o1_w hO.w) (hO.sz (by omega)) (by unfold i64; decide) hov.n_i hov.m_i (by have:=hov.r_max; omega) hov.r_i (RgW.below hov.r_in Mp.below) (fun b_ hb_ hne_=>RgW.away hov.r_in (Mp.los b_ hb_) hne_) hIa Mp
            rw [hg1] at key
            rw [hg2] at key
            refine xcL key ?_; clear key; rintro e w15 ⟨p15,c15,ba1,rfl,W_15,hI_,M',o1⟩; replace V_H:=ownsRow_away V_H o1 (Mp.awayS (fun p_ hp_=>by simp [hp_])); clear o1 Mp M hIa; have hIa:=hI_; clear hI_
            have M:Mm w0 ((B7,[])::(B5,[.int .i64 v.k,.int .i64 v.d,.int .i64 v.n,.int .i64 v.m,.slice rp v.r.length rc,.slice ap v.a.length ac,.slice tp v.t.length tc])::(ba1++((obs p15)++((obs sH)++([]:List (Nat × List Value)))))) w15:=M'.perm (pullY ([(B7,[]),(B5,[.int .i64 v.k,.int .i64 v.d,.int .i64 v.n,.int .i64 v.m,.slice rp v.r.length rc,.slice ap v.a.length ac,.slice tp v.t.length tc])]:List (Nat × List Value)) ba1 (obs p15) ((obs sH)++([]:List (Nat × List Value))))
            clear M'; refine xeL ?_; refine xpL (.tuple #[.slice p15 ((cs.map lp1:List (Int × Int)).length) c15,.int .i64 (sgT (o1 f) 5 v.n v.m)]) ?_; refine xpL (.slice p15 ((cs.map lp1:List (Int × Int)).length) c15) ?_; refine xpL (.int .i64 (sgT (o1 f) 5 v.n v.m)) ?_; refine xpL (.slice p15 ((cs.map lp1:List (Int × Int)).length) c15) ?_; refine xT ?_
            replace M:Mm w0 ((B7,[])::(B5,[.int .i64 v.k,.int .i64 v.d,.int .i64 v.n,.int .i64 v.m,.slice rp v.r.length rc,.slice ap v.a.length ac,.slice tp v.t.length tc])::((obs p15)++(ba1++((obs sH)++([]:List (Nat × List Value)))))) w15:=(M.perm (pull1 ([(B7,[]),(B5,[.int .i64 v.k,.int .i64 v.d,.int .i64 v.n,.int .i64 v.m,.slice rp v.r.length rc,.slice ap v.a.length ac,.slice tp v.t.length tc])]:List (Nat × List Value)) ba1 (obs p15) ((obs sH)++([]:List (Nat × List Value))))).perm (pull0 ([(B7,[]),(B5,[.int .i64 v.k,.int .i64 v.d,.int .i64 v.n,.int .i64 v.m,.slice rp v.r.length rc,.slice ap v.a.length ac,.slice tp v.t.length tc])]:List (Nat × List Value)) (obs p15) (ba1++((obs sH)++([]:List (Nat × List Value))))).symm
            replace M:Mm w0 ((B7,[])::(B5,[.int .i64 v.k,.int .i64 v.d,.int .i64 v.n,.int .i64 v.m,.slice rp v.r.length rc,.slice ap v.a.length ac,.slice tp v.t.length tc])::(ba1++((obs p15)++((obs sH)++([]:List (Nat × List Value)))))) w15:=(M.perm (pull1 ([(B7,[]),(B5,[.int .i64 v.k,.int .i64 v.d,.int .i64 v.n,.int .i64 v.m,.slice rp v.r.length rc,.slice ap v.a.length ac,.slice tp v.t.length tc])]:List (Nat × List Value)) (obs p15) ba1 ((obs sH)++([]:List (Nat × List Value))))).perm (pull0 ([(B7,[]),(B5,[.int .i64 v.k,.int .i64 v.d,.int .i64 v.n,.int .i64 v.m,.slice rp v.r.length rc,.slice ap v.a.length ac,.slice tp v.t.length tc])]:List (Nat × List Value)) ba1 ((obs p15)++((obs sH)++([]:List (Nat × List Value))))).symm
            replace M:Mm w0 ((B7,[])::(B5,[.int .i64 v.k,.int .i64 v.d,.int .i64 v.n,.int .i64 v.m,.slice rp v.r.length rc,.slice ap v.a.length ac,.slice tp v.t.length tc])::((obs sH)++(ba1++((obs p15)++([]:List (Nat × List Value)))))) w15:=(M.perm (pull2 ([(B7,[]),(B5,[.int .i64 v.k,.int .i64 v.d,.int .i64 v.n,.int .i64 v.m,.slice rp v.r.length rc,.slice ap v.a.length ac,.slice tp v.t.length tc])]:List (Nat × List Value)) ba1 (obs p15) (obs sH) ([]:List (Nat × List Value)))).perm (pull0 ([(B7,[]),(B5,[.int .i64 v.k,.int .i64 v.d,.int .i64 v.n,.int .i64 v.m,.slice rp v.r.length rc,.slice ap v.a.length ac,.slice tp v.t.length tc])]:List (Nat × List Value)) (obs sH) (ba1++((obs p15)++([]:List (Nat × List Value))))).symm
            have M2:Mm w0 ((obs sH)++(ba1++((obs p15)++([]:List (Nat × List Value))))) w15:=(M.tail.tail).sub _ ((List.Sublist.refl _).append ((List.Sublist.refl _).append ((List.Sublist.refl _).append (List.nil_sublist _))))
            have HS:=show Hid _ from (show I w15 (.pointer (some ⟨Ra,0,none⟩)) (o1 f2) ba1∧w15.ownsRow w0.heap.size 4 1 (.slice sH n cH) n (brw n he)∧NewW w15 _ (cs.map lp1) (.slice p15 (cs.map lp1).length c15)∧Mm w0 ((obs sH)++(ba1++((obs p15)++([]:List (Nat × List Value))))) w15 from ⟨hIa,V_H,W_15,M2⟩); have HF:=show Hid _ from (And.intro hO2 (And.intro hcs hdj))
            clear M M2 W_15 hIa V_H; go_wp2
            go_meet
            exact ⟨n,f2,cs,_,_,_,_,_,_,by omega,HF.out.1,HF.out.2.1,HF.out.2.2,rfl,by go_num,rfl,HS.out⟩
          · go_upto_region 23 with fail
            refine wp_region_list ?_; refine xaL (.bool false) (eqlI .i64 _ _ _ _ _ _ rfl rfl rfl false (beq_eq_false_iff_ne.2 (by omega)) _) ?_; refine xpL (.bool false) ?_; refine xT ?_
            by_cases c_5:kz=5
            · go_upto_region 25 with fail
              refine wp_region_list ?_; refine xaL (.bool true) (eqlI .i64 _ _ _ _ _ _ rfl rfl rfl true (beq_iff_eq.2 (by omega)) _) ?_; refine xpL (.bool true) ?_; refine xT ?_
              obtain ⟨f2,cs,hg2,hg1,hO2,hcs,hdj⟩:=hO.late v.m v.n
              go_upto_region 26 with fail; refine wp_region_list ?_; refine xpL (.pointer (some ⟨Ra,0,none⟩)) ?_; refine xpL (.pointer (some ⟨B5,3,none⟩)) ?_; refine xaL (.int .i64 v.m) (load1 3 _ ⟨B5,3,none⟩ _ rfl rfl (fun _=>by kernel_rfl) (M.get (mT _ mS) 3 _ rfl)) ?_; refine xpL (.pointer (some ⟨B5,2,none⟩)) ?_
              refine xaL (.int .i64 v.n) (load1 3 _ ⟨B5,2,none⟩ _ rfl rfl (fun _=>by kernel_rfl) (M.get (mT _ mS) 2 _ rfl)) ?_; have Mp:=M.perm (pull1 ([(B7,[]),(B5,[.int .i64 v.k,.int .i64 v.d,.int .i64 v.n,.int .i64 v.m,.slice rp v.r.length rc,.slice ap v.a.length ac,.slice tp v.t.length tc])]:List (Nat × List Value)) (obs sH) ga ([]:List (Nat × List Value)))
              have key:=hK.lat w0 _ _ (o1 f) ga _ 5 v.m v.n (o1_w hO.w) (hO.sz (by omega)) (by unfold i64; decide) hov.m_i hov.n_i hIa Mp
              rw [hg1] at key
              rw [hg2] at key
              refine xcL key ?_; clear key; rintro e w16 ⟨p16,c16,ba1,rfl,W_16,hI_,M',o1⟩; replace V_H:=ownsRow_away V_H o1 (Mp.awayS (fun p_ hp_=>by simp [hp_])); clear o1 Mp M hIa; have hIa:=hI_; clear hI_
              have M:Mm w0 ((B7,[])::(B5,[.int .i64 v.k,.int .i64 v.d,.int .i64 v.n,.int .i64 v.m,.slice rp v.r.length rc,.slice ap v.a.length ac,.slice tp v.t.length tc])::(ba1++((obs p16)++((obs sH)++([]:List (Nat × List Value)))))) w16:=M'.perm (pullY ([(B7,[]),(B5,[.int .i64 v.k,.int .i64 v.d,.int .i64 v.n,.int .i64 v.m,.slice rp v.r.length rc,.slice ap v.a.length ac,.slice tp v.t.length tc])]:List (Nat × List Value)) ba1 (obs p16) ((obs sH)++([]:List (Nat × List Value))))
              clear M'; refine xeL ?_; refine xpL (.slice p16 ((cs.map lp1:List (Int × Int)).length) c16) ?_; refine xT ?_
              replace M:Mm w0 ((B7,[])::(B5,[.int .i64 v.k,.int .i64 v.d,.int .i64 v.n,.int .i64 v.m,.slice rp v.r.length rc,.slice ap v.a.length ac,.slice tp v.t.length tc])::((obs p16)++(ba1++((obs sH)++([]:List (Nat × List Value)))))) w16:=(M.perm (pull1 ([(B7,[]),(B5,[.int .i64 v.k,.int .i64 v.d,.int .i64 v.n,.int .i64 v.m,.slice rp v.r.length rc,.slice ap v.a.length ac,.slice tp v.t.length tc])]:List (Nat × List Value)) ba1 (obs p16) ((obs sH)++([]:List (Nat × List Value))))).perm (pull0 ([(B7,[]),(B5,[.int .i64 v.k,.int .i64 v.d,.int .i64 v.n,.int .i64 v.m,.slice rp v.r.length rc,.slice ap v.a.length ac,.slice tp v.t.length tc])]:List (Nat × List Value)) (obs p16) (ba1++((obs sH)++([]:List (Nat × List Value))))).symm
              replace M:Mm w0 ((B7,[])::(B5,[.int .i64 v.k,.int .i64 v.d,.int .i64 v.n,.int .i64 v.m,.slice rp v.r.length rc,.slice ap v.a.length ac,.slice tp v.t.length tc])::(ba1++((obs p16)++((obs sH)++([]:List (Nat × List Value)))))) w16:=(M.perm (pull1 ([(B7,[]),(B5,[.int .i64 v.k,.int .i64 v.d,.int .i64 v.n,.int .i64 v.m,.slice rp v.r.length rc,.slice ap v.a.length ac,.slice tp v.t.length tc])]:List (Nat × List Value)) (obs p16) ba1 ((obs sH)++([]:List (Nat × List Value))))).perm (pull0 ([(B7,[]),(B5,[.int .i64 v.k,.int .i64 v.d,.int .i64 v.n,.int .i64 v.m,.slice rp v.r.length rc,.slice ap v.a.length ac,.slice tp v.t.length tc])]:List (Nat × List Value)) ba1 ((obs p16)++((obs sH)++([]:List (Nat × List Value))))).symm
              replace M:Mm w0 ((B7,[])::(B5,[.int .i64 v.k,.int .i64 v.d,.int .i64 v.n,.int .i64 v.m,.slice rp v.r.length rc,.slice ap v.a.length ac,.slice tp v.t.length tc])::((obs sH)++(ba1++((obs p16)++([]:List (Nat × List Value)))))) w16:=(M.perm (pull2 ([(B7,[]),(B5,[.int .i64 v.k,.int .i64 v.d,.int .i64 v.n,.int .i64 v.m,.slice rp v.r.length rc,.slice ap v.a.length ac,.slice tp v.t.length tc])]:List (Nat × List Value)) ba1 (obs p16) (obs sH) ([]:List (Nat × List Value)))).perm (pull0 ([(B7,[]),(B5,[.int .i64 v.k,.int .i64 v.d,.int .i64 v.n,.int .i64 v.m,.slice rp v.r.length rc,.slice ap v.a.length ac,.slice tp v.t.length tc])]:List (Nat × List Value)) (obs sH) (ba1++((obs p16)++([]:List (Nat × List Value))))).symm
              have M2:Mm w0 ((obs sH)++(ba1++((obs p16)++([]:List (Nat × List Value))))) w16:=(M.tail.tail).sub _ ((List.Sublist.refl _).append ((List.Sublist.refl _).append ((List.Sublist.refl _).append (List.nil_sublist _))))
              have HS:=show Hid _ from (show I w16 (.pointer (some ⟨Ra,0,none⟩)) (o1 f2) ba1∧w16.ownsRow w0.heap.size 4 1 (.slice sH n cH) n (brw n he)∧NewW w16 _ (cs.map lp1) (.slice p16 (cs.map lp1).length c16)∧Mm w0 ((obs sH)++(ba1++((obs p16)++([]:List (Nat × List Value))))) w16 from ⟨hIa,V_H,W_16,M2⟩); have HF:=show Hid _ from (And.intro hO2 (And.intro hcs hdj))
              clear M M2 W_16 hIa V_H; go_wp2
              go_meet
              exact ⟨n,f2,cs,_,_,_,_,_,_,by omega,HF.out.1,HF.out.2.1,HF.out.2.2,rfl,by go_num,rfl,HS.out⟩
            · go_upto_region 25 with fail
              refine wp_region_list ?_; refine xaL (.bool false) (eqlI .i64 _ _ _ _ _ _ rfl rfl rfl false (beq_eq_false_iff_ne.2 (by omega)) _) ?_; refine xpL (.bool false) ?_; refine xT ?_
              by_cases c_1:kz=1
              · go_upto_region 27 with fail
                refine wp_region_list ?_; refine xaL (.bool true) (eqlI .i64 _ _ _ _ _ _ rfl rfl rfl true (beq_iff_eq.2 (by omega)) _) ?_; refine xpL (.bool true) ?_; refine xT ?_
                obtain ⟨cs,hg2,hg1,hc3,hO2,hcs,hdj⟩:=hO.close
                go_upto_region 28 with fail; refine wp_region_list ?_; refine xpL (.pointer (some ⟨Ra,0,none⟩)) ?_; have Mp:=M.perm (pull1 ([(B7,[]),(B5,[.int .i64 v.k,.int .i64 v.d,.int .i64 v.n,.int .i64 v.m,.slice rp v.r.length rc,.slice ap v.a.length ac,.slice tp v.t.length tc])]:List (Nat × List Value)) (obs sH) ga ([]:List (Nat × List Value)))
                have key:=hK.cls w0 _ _ (o1 f) ga _ 5 (o1_w hO.w) (hO.sz (by omega)) (by unfold i64; decide) hIa Mp
                rw [hg1] at key
                rw [hg2] at key
                refine xcL key ?_; clear key; rintro e w17 ⟨p17,c17,ba1,rfl,W_17,hI_,M',o1⟩; replace V_H:=ownsRow_away V_H o1 (Mp.awayS (fun p_ hp_=>by simp [hp_])); clear o1 Mp M hIa; have hIa:=hI_; clear hI_
                have M:Mm w0 ((B7,[])::(B5,[.int .i64 v.k,.int .i64 v.d,.int .i64 v.n,.int .i64 v.m,.slice rp v.r.length rc,.slice ap v.a.length ac,.slice tp v.t.length tc])::(ba1++((obs p17)++((obs sH)++([]:List (Nat × List Value)))))) w17:=M'.perm (pullY ([(B7,[]),(B5,[.int .i64 v.k,.int .i64 v.d,.int .i64 v.n,.int .i64 v.m,.slice rp v.r.length rc,.slice ap v.a.length ac,.slice tp v.t.length tc])]:List (Nat × List Value)) ba1 (obs p17) ((obs sH)++([]:List (Nat × List Value))))
                clear M'; refine xeL ?_; refine xpL (.slice p17 ((cs.map lp1:List (Int × Int)).length) c17) ?_; refine xT ?_; go_upto_region 29 with fail; refine wp_region_list ?_; refine xpL (.slice sH n cH) ?_; refine xaL (.int .i64 ((n:Nat):Int)) (lenS _ 47 4 sH n cH rfl Try.underlying47 rfl _) ?_; refine xpL (.int .i64 ((n:Nat):Int)) ?_
                refine xaL (.bool false) (neqI .i64 _ _ _ _ _ _ rfl rfl rfl false (bne_self_eq_false _) _) ?_; refine xT ?_; go_upto_region 31 with fail; refine wp_region_list ?_; refine xpL (.pointer (some ⟨Ra,0,none⟩)) ?_
                have Mp:=M.perm (pull0 ([(B7,[]),(B5,[.int .i64 v.k,.int .i64 v.d,.int .i64 v.n,.int .i64 v.m,.slice rp v.r.length rc,.slice ap v.a.length ac,.slice tp v.t.length tc])]:List (Nat × List Value)) ba1 ((obs p17)++((obs sH)++([]:List (Nat × List Value)))))
                have key:=hK.opn w0 _ _ o0 ba1 _ 5 o0_w (show (0:Nat)<1000000000 by decide) (by unfold i64; decide) hIa Mp
                rw [hc3] at key
                refine xcL key ?_; clear key; rintro e w18 ⟨ba2,rfl,hI_,M',o1⟩; replace V_H:=ownsRow_away V_H o1 (Mp.awayS (fun p_ hp_=>by simp [hp_])); replace W_17:=NewW.offB W_17 o1 (Mp.awayS (fun p_ hp_=>by simp [hp_])); clear o1 Mp M hIa; have hIa:=hI_; clear hI_
                have M:Mm w0 ((B7,[])::(B5,[.int .i64 v.k,.int .i64 v.d,.int .i64 v.n,.int .i64 v.m,.slice rp v.r.length rc,.slice ap v.a.length ac,.slice tp v.t.length tc])::(ba2++((obs p17)++((obs sH)++([]:List (Nat × List Value)))))) w18:=M'.perm (pull0 ([(B7,[]),(B5,[.int .i64 v.k,.int .i64 v.d,.int .i64 v.n,.int .i64 v.m,.slice rp v.r.length rc,.slice ap v.a.length ac,.slice tp v.t.length tc])]:List (Nat × List Value)) ba2 ((obs p17)++((obs sH)++([]:List (Nat × List Value))))).symm
                clear M'; refine xeL ?_; refine xT ?_; go_upto_region 32 with fail; refine wp_region_list ?_; refine xpL (.pointer (some ⟨Ra,0,none⟩)) ?_
                have Mp:=M.perm (pull0 ([(B7,[]),(B5,[.int .i64 v.k,.int .i64 v.d,.int .i64 v.n,.int .i64 v.m,.slice rp v.r.length rc,.slice ap v.a.length ac,.slice tp v.t.length tc])]:List (Nat × List Value)) ba2 ((obs p17)++((obs sH)++([]:List (Nat × List Value)))))
                have key:=hK.und w0 _ _ (o1 flg0) ba2 _ 5 (o1_w flg0_w) (show (1+(0+0):Nat)<1000000000 by decide) (by unfold i64; decide) hIa Mp; clear Mp
                rw [show sun (o1 flg0) 5=0 from rfl] at key
                refine xcL key ?_; clear key; rintro e w19 ⟨rfl,l_⟩; replace M:=M.call l_; replace hIa:=hK.bel hIa l_; replace V_H:=ownsRow_bel V_H l_; replace W_17:=NewW.below W_17 l_; clear l_; refine xeL ?_; refine xaL (.bool false) (neqI .i64 _ _ _ _ _ _ rfl rfl rfl false (bne_self_eq_false _) _) ?_; refine xpL (.bool false) ?_; refine xpL (.pointer (some ⟨Ra,0,none⟩)) ?_
                have Mp:=M.perm (pull0 ([(B7,[]),(B5,[.int .i64 v.k,.int .i64 v.d,.int .i64 v.n,.int .i64 v.m,.slice rp v.r.length rc,.slice ap v.a.length ac,.slice tp v.t.length tc])]:List (Nat × List Value)) ba2 ((obs p17)++((obs sH)++([]:List (Nat × List Value)))))
                have key:=hK.win w0 _ _ (o1 flg0) ba2 _ 5 (o1_w flg0_w) (show (1+(0+0):Nat)<1000000000 by decide) (by unfold i64; decide) hIa Mp; clear Mp
                rw [show swn (o1 flg0) 5=4 from rfl] at key
                refine xcL key ?_; clear key; rintro e w20 ⟨rfl,l_⟩; replace M:=M.call l_; replace hIa:=hK.bel hIa l_; replace V_H:=ownsRow_bel V_H l_; replace W_17:=NewW.below W_17 l_; clear l_; refine xeL ?_; refine xaL (.bool false) (neqI .i64 _ _ _ _ _ _ rfl rfl rfl false (bne_self_eq_false _) _) ?_; refine xpL (.bool false) ?_; refine xT ?_
                replace M:Mm w0 ((B7,[])::(B5,[.int .i64 v.k,.int .i64 v.d,.int .i64 v.n,.int .i64 v.m,.slice rp v.r.length rc,.slice ap v.a.length ac,.slice tp v.t.length tc])::((obs p17)++(ba2++((obs sH)++([]:List (Nat × List Value)))))) w20:=(M.perm (pull1 ([(B7,[]),(B5,[.int .i64 v.k,.int .i64 v.d,.int .i64 v.n,.int .i64 v.m,.slice rp v.r.length rc,.slice ap v.a.length ac,.slice tp v.t.length tc])]:List (Nat × List Value)) ba2 (obs p17) ((obs sH)++([]:List (Nat × List Value))))).perm (pull0 ([(B7,[]),(B5,[.int .i64 v.k,.int .i64 v.d,.int .i64 v.n,.int .i64 v.m,.slice rp v.r.length rc,.slice ap v.a.length ac,.slice tp v.t.length tc])]:List (Nat × List Value)) (obs p17) (ba2++((obs sH)++([]:List (Nat × List Value))))).symm
                replace M:Mm w0 ((B7,[])::(B5,[.int .i64 v.k,.int .i64 v.d,.int .i64 v.n,.int .i64 v.m,.slice rp v.r.length rc,.slice ap v.a.length ac,.slice tp v.t.length tc])::(ba2++((obs p17)++((obs sH)++([]:List (Nat × List Value)))))) w20:=(M.perm (pull1 ([(B7,[]),(B5,[.int .i64 v.k,.int .i64 v.d,.int .i64 v.n,.int .i64 v.m,.slice rp v.r.length rc,.slice ap v.a.length ac,.slice tp v.t.length tc])]:List (Nat × List Value)) (obs p17) ba2 ((obs sH)++([]:List (Nat × List Value))))).perm (pull0 ([(B7,[]),(B5,[.int .i64 v.k,.int .i64 v.d,.int .i64 v.n,.int .i64 v.m,.slice rp v.r.length rc,.slice ap v.a.length ac,.slice tp v.t.length tc])]:List (Nat × List Value)) ba2 ((obs p17)++((obs sH)++([]:List (Nat × List Value))))).symm
                replace M:Mm w0 ((B7,[])::(B5,[.int .i64 v.k,.int .i64 v.d,.int .i64 v.n,.int .i64 v.m,.slice rp v.r.length rc,.slice ap v.a.length ac,.slice tp v.t.length tc])::((obs sH)++(ba2++((obs p17)++([]:List (Nat × List Value)))))) w20:=(M.perm (pull2 ([(B7,[]),(B5,[.int .i64 v.k,.int .i64 v.d,.int .i64 v.n,.int .i64 v.m,.slice rp v.r.length rc,.slice ap v.a.length ac,.slice tp v.t.length tc])]:List (Nat × List Value)) ba2 (obs p17) (obs sH) ([]:List (Nat × List Value)))).perm (pull0 ([(B7,[]),(B5,[.int .i64 v.k,.int .i64 v.d,.int .i64 v.n,.int .i64 v.m,.slice rp v.r.length rc,.slice ap v.a.length ac,.slice tp v.t.length tc])]:List (Nat × List Value)) (obs sH) (ba2++((obs p17)++([]:List (Nat × List Value))))).symm
                have M2:Mm w0 ((obs sH)++(ba2++((obs p17)++([]:List (Nat × List Value))))) w20:=(M.tail.tail).sub _ ((List.Sublist.refl _).append ((List.Sublist.refl _).append ((List.Sublist.refl _).append (List.nil_sublist _))))
                have HS:=show Hid _ from (show I w20 (.pointer (some ⟨Ra,0,none⟩)) (o1 flg0) ba2∧w20.ownsRow w0.heap.size 4 1 (.slice sH n cH) n (brw n he)∧NewW w20 _ (cs.map lp1) (.slice p17 (cs.map lp1).length c17)∧Mm w0 ((obs sH)++(ba2++((obs p17)++([]:List (Nat × List Value))))) w20 from ⟨hIa,V_H,W_17,M2⟩); have HF:=show Hid _ from (And.intro hO2 (And.intro hcs hdj))
                clear M M2 W_17 hIa V_H; go_wp2
                go_meet
                exact ⟨n,flg0,cs,_,_,_,_,_,_,by omega,HF.out.1,HF.out.2.1,HF.out.2.2,rfl,by go_num,rfl,HS.out⟩
              · go_upto_region 27 with fail
                refine wp_region_list ?_; refine xaL (.bool false) (eqlI .i64 _ _ _ _ _ _ rfl rfl rfl false (beq_eq_false_iff_ne.2 (by omega)) _) ?_; refine xpL (.bool false) ?_; refine xT ?_; have W_e:=M.newWt (cap:=0) mS [] rfl (xnR _)
                replace M:Mm w0 ((B7,[])::(B5,[.int .i64 v.k,.int .i64 v.d,.int .i64 v.n,.int .i64 v.m,.slice rp v.r.length rc,.slice ap v.a.length ac,.slice tp v.t.length tc])::(ga++((obs sH)++([]:List (Nat × List Value))))) w8:=(M.perm (pull1 ([(B7,[]),(B5,[.int .i64 v.k,.int .i64 v.d,.int .i64 v.n,.int .i64 v.m,.slice rp v.r.length rc,.slice ap v.a.length ac,.slice tp v.t.length tc])]:List (Nat × List Value)) (obs sH) ga ([]:List (Nat × List Value)))).perm (pull0 ([(B7,[]),(B5,[.int .i64 v.k,.int .i64 v.d,.int .i64 v.n,.int .i64 v.m,.slice rp v.r.length rc,.slice ap v.a.length ac,.slice tp v.t.length tc])]:List (Nat × List Value)) ga ((obs sH)++([]:List (Nat × List Value)))).symm
                replace M:Mm w0 ((B7,[])::(B5,[.int .i64 v.k,.int .i64 v.d,.int .i64 v.n,.int .i64 v.m,.slice rp v.r.length rc,.slice ap v.a.length ac,.slice tp v.t.length tc])::((obs sH)++(ga++([]:List (Nat × List Value))))) w8:=(M.perm (pull1 ([(B7,[]),(B5,[.int .i64 v.k,.int .i64 v.d,.int .i64 v.n,.int .i64 v.m,.slice rp v.r.length rc,.slice ap v.a.length ac,.slice tp v.t.length tc])]:List (Nat × List Value)) ga (obs sH) ([]:List (Nat × List Value)))).perm (pull0 ([(B7,[]),(B5,[.int .i64 v.k,.int .i64 v.d,.int .i64 v.n,.int .i64 v.m,.slice rp v.r.length rc,.slice ap v.a.length ac,.slice tp v.t.length tc])]:List (Nat × List Value)) (obs sH) (ga++([]:List (Nat × List Value)))).symm
                have M2:Mm w0 ((obs sH)++(ga++((obs (some ⟨B7,0,none⟩))++([]:List (Nat × List Value))))) w8:=(M.sub (((B7,[])::((obs sH)++(ga++([]:List (Nat × List Value)))))) (by first | exact List.Sublist.cons_cons _ (by repeat (first | exact List.Sublist.refl _ | apply List.Sublist.cons)) | repeat (first | exact List.Sublist.refl _ | (apply List.Sublist.cons_cons; repeat (first | exact List.Sublist.refl _ | apply List.Sublist.cons)) | apply List.Sublist.cons))).perm (pullZ21 _ _ _ _)
                have HS:=show Hid _ from (show I w8 (.pointer (some ⟨Ra,0,none⟩)) (o1 f) ga∧w8.ownsRow w0.heap.size 4 1 (.slice sH n cH) n (brw n he)∧NewW w8 _ (([]:List Nat).map lp1) (.slice (some ⟨B7,0,none⟩) (([]:List Nat).map lp1).length 0)∧Mm w0 ((obs sH)++(ga++((obs (some ⟨B7,0,none⟩))++([]:List (Nat × List Value))))) w8 from ⟨hIa,V_H,W_e,M2⟩)
                have HF:=show Hid _ from (And.intro hO (And.intro (lst0 n he) (fun _ _=>List.not_mem_nil:∀ r∈f.rs,r.c∉([]:List Nat)))); clear M M2 W_e hIa V_H; go_wp2
                go_meet
                exact ⟨n,f,([]:List Nat),_,_,_,_,_,_,by omega,HF.out.1,HF.out.2.1,HF.out.2.2,rfl,by go_num,rfl,HS.out⟩
      case rest =>
       clear hIa V_H M hO hfl hnq
       obtain ⟨n2,f2,cs,sH2,cH2,pz,cz,bz,ga2,hnq,hO,hcs,hdj,rfl,rfl,rfl,hIa,V_H,W_z,M⟩:=hcut
       go_upto_region 34 with fail; refine wp_region_list ?_; refine xpL (.int .i64 0) ?_; refine xT ?_; have hcl:=hcs.len
       rw [← brw_congr (fun i_ _=>mrs_zero he cs i_)] at V_H
       have HI:=show Hid _ from (show I wc (.pointer (some ⟨Ra,0,none⟩)) (o1 f2) ga2∧wc.ownsRow w0.heap.size 4 1 (.slice sH2 n2 cH2) n2 (brw n2 (mrs he cs 0))∧NewW wc bz (cs.map lp1) (.slice pz (cs.map lp1).length cz)∧Mm w0 ((obs sH2)++(ga2++((obs pz)++([]:List (Nat × List Value))))) wc from ⟨hIa,V_H,W_z,M⟩); clear M hIa V_H W_z; go_wp2
       go_loopw [11] (fun k_ w'=>∃ (k:Nat),k≤cs.length∧k_=.int .i64 (k:Int)∧I w' (.pointer (some ⟨Ra,0,none⟩)) (o1 f2) ga2∧w'.ownsRow w0.heap.size 4 1 (.slice sH2 n2 cH2) n2 (brw n2 (mrs he cs k))∧NewW w' bz (cs.map lp1) (.slice pz (cs.map lp1).length cz)∧Mm w0 ((obs sH2)++(ga2++((obs pz)++([]:List (Nat × List Value))))) w') (fun k_ _=>cs.length-(intOf k_).toNat)
       case atStart=>exact ⟨0,Nat.zero_le _,rfl,HI.out⟩
       case round =>
        clear HI
        obtain ⟨k,hk,rfl,hIa,V_H,W_z,M⟩:=hrel
        by_cases hkl:k<cs.length
        · go_upto_region 35 with fail
          refine wp_region_list ?_; refine xpL (.int .i64 ((k:Nat):Int)) ?_; refine xpL (.slice pz ((cs.map lp1).length) cz) ?_; refine readL (.int .i64 (((cs.map lp1).length:Nat):Int)) rfl (lenS _ 28 38 pz ((cs.map lp1).length) cz rfl Try.underlying28 rfl _) ?_; simp only [aP,lI,l0,lS]
          refine xaL (.bool true) (lssI .i64 _ _ _ _ _ _ rfl rfl rfl true (decide_eq_true (by rw [List.length_map]; omega)) _) ?_; refine xT ?_
          have hjx:cn cs k<n2:=(hcs.c _ (cn_mem hkl)).1
          have hkm:k<(cs.map lp1).length:=by rw [List.length_map]; exact hkl
          obtain ⟨gH,hg_H⟩:=row_some16 V_H (by omega)
          obtain ⟨ad_z,had_z⟩:=NewW.someE W_z hkm
          go_upto_region 37 with fail; refine wp_region_list ?_; refine xpL (.slice pz ((cs.map lp1).length) cz) ?_; refine xpL (.int .i64 ((k:Nat):Int)) ?_; refine readL (.pointer (some (ad_z.add (k*2)))) rfl (idxR2E ad_z _ _ k _ had_z hkm _ _ rfl rfl rfl _) ?_; simp only [aP,lI,l0,lS]; refine xpL (.pointer (some ((ad_z.add (k*2)).add 0))) ?_
          refine xaL (.int .i64 ((cn cs k:Nat):Int)) (load1 3 _ ((ad_z.add (k*2)).add 0) _ rfl rfl (fun _=>by kernel_rfl) (NewW.rngE W_z had_z (lp1_at hkl) 0 _ rfl)) ?_; refine xpL (.int .i64 ((cn cs k:Nat):Int)) ?_; refine xT ?_; go_upto_region 38 with fail; refine wp_region_list ?_; refine xpL (.int .i64 ((cn cs k:Nat):Int)) ?_
          refine xaL (.bool false) (lssI .i64 _ _ _ _ _ _ rfl rfl rfl false (decide_eq_false (by omega)) _) ?_; refine xpL (.bool false) ?_; refine xpL (.int .i64 ((cn cs k:Nat):Int)) ?_; refine xpL (.int .i64 ((n2:Nat):Int)) ?_; refine xaL (.bool false) (geqI .i64 _ _ _ _ _ _ rfl rfl rfl false (decide_eq_false (by omega)) _) ?_; refine xpL (.bool false) ?_; refine xpL (.bool false) ?_
          refine xpL (.slice pz ((cs.map lp1).length) cz) ?_; refine xpL (.int .i64 ((k:Nat):Int)) ?_; refine readL (.pointer (some (ad_z.add (k*2)))) rfl (idxR2E ad_z _ _ k _ had_z hkm _ _ rfl rfl rfl _) ?_; simp only [aP,lI,l0,lS]; refine xpL (.pointer (some ((ad_z.add (k*2)).add 1))) ?_
          refine readL (.int .i64 (((cn cs k:Nat):Int)+1)) rfl (load1 3 _ ((ad_z.add (k*2)).add 1) _ rfl rfl (fun _=>by kernel_rfl) (NewW.rngE W_z had_z (lp1_at hkl) 1 _ rfl)) ?_; simp only [aP,lI,l0,lS]; refine xpL (.int .i64 ((cn cs k:Nat):Int)) ?_; refine readL (.int .i64 (((cn cs k:Nat):Int)+1)) rfl (addI .i64 _ _ _ _ _ _ _ rfl rfl rfl (by rw [xw6]; omega) _) ?_
          simp only [aP,lI,l0,lS]; refine xaL (.bool false) (neqI .i64 _ _ _ _ _ _ rfl rfl rfl false (bne_self_eq_false _) _) ?_; refine xpL (.bool false) ?_; refine xpL (.bool false) ?_; refine xpL (.slice sH2 n2 cH2) ?_; refine xpL (.int .i64 ((cn cs k:Nat):Int)) ?_
          refine xaL (.pointer (some ⟨gH,(cn cs k),none⟩)) (idxRowE 47 4 sH2 gH _ _ (cn cs k) hg_H _ _ Try.underlying47 (fun _=>by kernel_rfl) hjx rfl rfl rfl _) ?_; refine xaL (.bool false) (load1 4 _ ⟨gH,(cn cs k),none⟩ _ rfl rfl (fun _=>by kernel_rfl) (rowCellE V_H hg_H (by rw [brw_get _ hjx,mrs_at hcs hkl]))) ?_; refine xpL (.bool false) ?_; refine xT ?_
          go_upto_region 40 with fail; refine wp_region_list ?_; refine xpL (.slice sH2 n2 cH2) ?_; refine xpL (.int .i64 ((cn cs k:Nat):Int)) ?_; refine xaL (.pointer (some ⟨gH,(cn cs k),none⟩)) (idxRowE 47 4 sH2 gH _ _ (cn cs k) hg_H _ _ Try.underlying47 (fun _=>by kernel_rfl) hjx rfl rfl rfl _) ?_
          have Mp:=M.perm (pull0 ([]:List (Nat × List Value)) (obs sH2) (ga2++((obs pz)++([]:List (Nat × List Value)))))
          obtain ⟨hsf,M',V2,oS⟩:=Mp.putRow V_H hg_H (xnR _) (cn cs k) (by rw [brw_length]; exact hjx) (.bool true)
          refine skipOpL rfl (storeAny (.bool true) gH (cn cs k) 4 _ _ rfl rfl rfl rfl rfl hsf.1 hsf.2 (by kernel_rfl)) ?_; simp only [Act.put]; replace hIa:=hK.off _ _ _ _ _ _ hIa oS (fun b_ hb_=>Mp.awayG (fun p_ hp_=>by simp [hp_]) b_ (by rw [obs_fst]; exact hb_)); replace W_z:=NewW.offB W_z oS (fun b_ hb_=>Mp.awayS (fun p_ hp_=>by simp [hp_]) b_ (by rw [obs_fst]; exact hb_))
          clear M Mp oS hsf V_H; have V_H:=V2; clear V2
          rw [brw_set,brw_congr (fun i_ _=>mrs_next he hkl i_)] at V_H
          generalize wr.setCell ⟨gH,(cn cs k),none⟩ (.bool true)=w21 at M' hIa V_H W_z ⊢
          have M:Mm w0 (((obs sH2)++(ga2++((obs pz)++([]:List (Nat × List Value)))))) w21:=M'.perm (pull0 ([]:List (Nat × List Value)) (obs sH2) (ga2++((obs pz)++([]:List (Nat × List Value))))).symm
          clear M'; refine xT ?_
          replace M:Mm w0 (((obs pz)++((obs sH2)++(ga2++([]:List (Nat × List Value)))))) w21:=(M.perm (pull2 ([]:List (Nat × List Value)) (obs sH2) ga2 (obs pz) ([]:List (Nat × List Value)))).perm (pull0 ([]:List (Nat × List Value)) (obs pz) ((obs sH2)++(ga2++([]:List (Nat × List Value))))).symm
          replace M:Mm w0 ((ga2++((obs pz)++((obs sH2)++([]:List (Nat × List Value)))))) w21:=(M.perm (pull2 ([]:List (Nat × List Value)) (obs pz) (obs sH2) ga2 ([]:List (Nat × List Value)))).perm (pull0 ([]:List (Nat × List Value)) ga2 ((obs pz)++((obs sH2)++([]:List (Nat × List Value))))).symm
          replace M:Mm w0 (((obs sH2)++(ga2++((obs pz)++([]:List (Nat × List Value)))))) w21:=(M.perm (pull2 ([]:List (Nat × List Value)) ga2 (obs pz) (obs sH2) ([]:List (Nat × List Value)))).perm (pull0 ([]:List (Nat × List Value)) (obs sH2) (ga2++((obs pz)++([]:List (Nat × List Value))))).symm
          have HS:=show Hid _ from (show I w21 (.pointer (some ⟨Ra,0,none⟩)) (o1 f2) ga2∧w21.ownsRow w0.heap.size 4 1 (.slice sH2 n2 cH2) n2 (brw n2 (mrs he cs (k+1)))∧NewW w21 bz (cs.map lp1) (.slice pz (cs.map lp1).length cz)∧Mm w0 ((obs sH2)++(ga2++((obs pz)++([]:List (Nat × List Value))))) w21 from ⟨hIa,V_H,W_z,M⟩); clear M hIa V_H W_z; go_wp2
          go_roundw
          case rel=>exact ⟨k+1,by omega,by go_num,HS.out⟩
          case measure=>simp [intOf]; omega
        · obtain rfl:k=cs.length:=by omega
          have hl2:=hO.l; have hw1:=hO.w.w1; have hw2:=hO.w.w2; go_upto_region 35 with fail; refine wp_region_list ?_; refine xpL (.int .i64 ((cs.length:Nat):Int)) ?_; refine xpL (.slice pz ((cs.map lp1).length) cz) ?_; refine readL (.int .i64 (((cs.map lp1).length:Nat):Int)) rfl (lenS _ 28 38 pz ((cs.map lp1).length) cz rfl Try.underlying28 rfl _) ?_; simp only [aP,lI,l0,lS]
          refine xaL (.bool false) (lssI .i64 _ _ _ _ _ _ rfl rfl rfl false (decide_eq_false (by rw [List.length_map]; omega)) _) ?_; refine xT ?_; go_upto_region 41 with fail; refine wp_region_list ?_; refine xpL (.pointer (some ⟨Ra,0,none⟩)) ?_; have Mp:=M.perm (pull1 ([]:List (Nat × List Value)) (obs sH2) ga2 ((obs pz)++([]:List (Nat × List Value))))
          have key:=hK.und w0 _ _ (o1 f2) ga2 _ 5 (o1_w hO.w) (hO.sz (by omega)) (by unfold i64; decide) hIa Mp; clear Mp
          rw [(o1_seen f2).1] at key
          refine xcL key ?_; clear key; rintro e w22 ⟨rfl,l_⟩; replace M:=M.call l_; replace hIa:=hK.bel hIa l_; replace V_H:=ownsRow_bel V_H l_; replace W_z:=NewW.below W_z l_; clear l_; refine xeL ?_; refine xpL (.int .i64 ((n2:Nat):Int)) ?_; refine xaL (.bool false) (gtrI .i64 _ _ _ _ _ _ rfl rfl rfl false (decide_eq_false (by omega)) _) ?_; refine xpL (.bool false) ?_
          refine xpL (.pointer (some ⟨Ra,0,none⟩)) ?_; have Mp:=M.perm (pull1 ([]:List (Nat × List Value)) (obs sH2) ga2 ((obs pz)++([]:List (Nat × List Value)))); have key:=hK.win w0 _ _ (o1 f2) ga2 _ 5 (o1_w hO.w) (hO.sz (by omega)) (by unfold i64; decide) hIa Mp; clear Mp
          rw [(o1_seen f2).2] at key
          refine xcL key ?_; clear key; rintro e w23 ⟨rfl,l_⟩; replace M:=M.call l_; replace hIa:=hK.bel hIa l_; replace V_H:=ownsRow_bel V_H l_; replace W_z:=NewW.below W_z l_; clear l_; refine xeL ?_; refine xaL (.bool false) (lssI .i64 _ _ _ _ _ _ rfl rfl rfl false (decide_eq_false (by omega)) _) ?_; refine xpL (.bool false) ?_; refine xpL (.bool false) ?_
          refine xpL (.pointer (some ⟨Ra,0,none⟩)) ?_; have Mp:=M.perm (pull1 ([]:List (Nat × List Value)) (obs sH2) ga2 ((obs pz)++([]:List (Nat × List Value)))); have key:=hK.win w0 _ _ (o1 f2) ga2 _ 5 (o1_w hO.w) (hO.sz (by omega)) (by unfold i64; decide) hIa Mp; clear Mp
          rw [(o1_seen f2).2] at key
          refine xcL key ?_; clear key; rintro e w24 ⟨rfl,l_⟩; replace M:=M.call l_; replace hIa:=hK.bel hIa l_; replace V_H:=ownsRow_bel V_H l_; replace W_z:=NewW.below W_z l_; clear l_; refine xeL ?_; refine xaL (.bool false) (gtrI .i64 _ _ _ _ _ _ rfl rfl rfl false (decide_eq_false (by omega)) _) ?_; refine xpL (.bool false) ?_; refine xT ?_
          replace M:Mm w0 (((obs sH2)++(ga2++([]:List (Nat × List Value))))) w24:=M.sub _ ((List.Sublist.refl _).append ((List.Sublist.refl _).append (List.sublist_append_right _ _)))
          clear W_z; have HO:=show Hid _ from (hO.marked hcs hdj); have HS:=show Hid _ from (show I w24 (.pointer (some ⟨Ra,0,none⟩)) (o1 f2) ga2∧w24.ownsRow w0.heap.size 4 1 (.slice sH2 n2 cH2) n2 (brw n2 (mrs he cs cs.length))∧Mm w0 ((obs sH2)++(ga2++([]:List (Nat × List Value)))) w24 from ⟨hIa,V_H,M⟩); clear M hIa V_H; go_wp2
          go_roundw
          case rel=>exact ⟨q+1,n2,f2,_,_,_,_,by omega,by omega,by omega,HO.out,rfl,rfl,by go_num,HS.out⟩
          case measure=>simp [intOf]; omega
    · go_upto_region 9 with fail
      refine wp_region_list ?_; refine xpL (.int .i64 ((q:Nat):Int)) ?_; refine xpL (.slice sp l.length cap) ?_; refine xaL (.int .i64 ((l.length:Nat):Int)) (lenS _ 22 31 sp l.length cap rfl Try.underlying22 rfl _) ?_; refine xaL (.bool true) (lssI .i64 _ _ _ _ _ _ rfl rfl rfl true (decide_eq_true (by omega)) _) ?_; refine xpL (.bool true) ?_; refine xpL (.int .i64 ((q:Nat):Int)) ?_
      refine xaL (.bool false) (lssI .i64 _ _ _ _ _ _ rfl rfl rfl false (decide_eq_false (by omega)) _) ?_; refine xpL (.bool false) ?_; refine xT ?_; go_upto_region 43 with fail; refine wp_region_list ?_; refine xpL (.bool true) ?_; refine xT ?_; have hbel:=M.below; clear M hIa V_H; go_wp2; go_ret
      exact ⟨rfl,hbel⟩
  · go_upto_region 9 with fail
    refine wp_region_list ?_; refine xpL (.int .i64 ((q:Nat):Int)) ?_; refine xpL (.slice sp l.length cap) ?_; refine xaL (.int .i64 ((l.length:Nat):Int)) (lenS _ 22 31 sp l.length cap rfl Try.underlying22 rfl _) ?_; refine xaL (.bool false) (lssI .i64 _ _ _ _ _ _ rfl rfl rfl false (decide_eq_false (by omega)) _) ?_; refine xpL (.bool false) ?_
    with_reducible refine skipL ?_ ?_
    · rfl
    simp only [aP,lI,l0,lS]
    with_reducible refine skipL ?_ ?_
    · rfl
    simp only [aP,lI,l0,lS]; refine xpL (.bool false) ?_; refine xT ?_; go_upto_region 43 with fail; refine wp_region_list ?_; refine xpL (.bool true) ?_; refine xT ?_; have hbel:=M.below; clear M hIa V_H; go_wp2; go_ret
    exact ⟨rfl,hbel⟩
structure Dfl where
 n:Nat
 win:Nat
 top:Option Nat
 Z:List (Rcd × Option Addr × Nat)
 sr:Option Addr
 cr:Nat
def Dfl.f (d:Dfl):Flg:=⟨d.win,d.top,d.Z.map Prod.fst⟩
def dpl (L:List Dfl):List (Nat × Flg):=L.map fun d=>(d.n,d.f)
theorem dpl_len (L:List Dfl):(dpl L).length=L.length:=List.length_map ..
theorem dpl_app (A B:List Dfl):dpl (A++B)=dpl A++dpl B:=List.map_append
theorem dpl_cons (d:Dfl) (B:List Dfl):dpl (d::B)=(d.n,d.f)::dpl B:=rfl
def rc1 (q:Rcd × Option Addr × Nat):List Value:=[.int .i64 ((q.1.c:Nat):Int),.int .i64 ((q.1.m:Nat):Int),.slice q.2.1 q.1.cs.length q.2.2]
def rcs (Z:List (Rcd × Option Addr × Nat)):List Value:=Z.flatMap rc1
theorem rcs_app (A B:List (Rcd × Option Addr × Nat)):rcs (A++B)=rcs A++rcs B:=List.flatMap_append
theorem rcs_cons (q:Rcd × Option Addr × Nat) (B:List (Rcd × Option Addr × Nat)):rcs (q::B)=rc1 q++rcs B:=List.flatMap_cons ..
theorem rcs_one1 (q:Rcd × Option Addr × Nat):rcs [q]=rc1 q:=by rw [rcs_cons]; exact List.append_nil _
theorem rcs_get:∀ {Z:List (Rcd × Option Addr × Nat)} {i:Nat} {q:Rcd × Option Addr × Nat},Z[i]?=some q→∀ {j:Nat} {u:Value},(rc1 q)[j]?=some u→(rcs Z)[i*3+j]?=some u
 | [],_,_,h,_,_,_=>by cases h
 | p::Z,0,q,h,j,u,hu=>by
   obtain rfl:p=q:=Option.some.inj h
   rw [rcs_cons,Nat.zero_mul,Nat.zero_add,List.getElem?_append_left (List.getElem?_eq_some_iff.1 hu).1]
   exact hu
 | p::Z,i+1,q,h,j,u,hu=>by
   rw [rcs_cons,List.getElem?_append_right (by show 3≤_; omega)]
   show (rcs Z)[(i+1)*3+j-3]?=_
   rw [show (i+1)*3+j-3=i*3+j by omega]
   exact rcs_get (Z:=Z) h hu
theorem rcs_one (Z:List (Rcd × Option Addr × Nat)):∀ u∈rcs Z,u.oneCell'=true:=fun u hu=>by
 obtain ⟨d,_,hd⟩:=List.mem_flatMap.1 hu
 unfold rc1 at hd
 simp only [List.mem_cons,List.not_mem_nil,or_false] at hd
 rcases hd with rfl | rfl | rfl <;> rfl
def gks (Z:List (Rcd × Option Addr × Nat)):List (Nat × List Value):=Z.flatMap fun q=>obs q.2.1
theorem gks_app (A B:List (Rcd × Option Addr × Nat)):gks (A++B)=gks A++gks B:=List.flatMap_append
theorem gks_cons (q:Rcd × Option Addr × Nat) (B:List (Rcd × Option Addr × Nat)):gks (q::B)=obs q.2.1++gks B:=List.flatMap_cons ..
theorem gks_mem {Z:List (Rcd × Option Addr × Nat)} {q:Rcd × Option Addr × Nat} (h:q∈Z) {b:Nat} (hb:b∈ob q.2.1):b∈(gks Z).map Prod.fst:=by
 refine List.mem_map.2 ⟨(b,[]),List.mem_flatMap.2 ⟨q,h,List.mem_map.2 ⟨b,hb,rfl⟩⟩,rfl⟩
theorem gks_sub {A B:List (Rcd × Option Addr × Nat)} (h:A.Sublist B):(gks A).Sublist (gks B):=by
 induction h with
 | slnil=>exact List.Sublist.refl _
 | cons a _ ih=>rw [gks_cons]; exact ih.trans (List.sublist_append_right _ _)
 | cons_cons a _ ih=>rw [gks_cons,gks_cons]; exact (List.Sublist.refl _).append ih
theorem row_some5 {w:World} {base n cap size:Nat} {e:TypeId} {sp:Option Addr} {xs:List Value} (V:w.ownsRow base e size (.slice sp n cap) n xs) (h:0<n):∃ g,sp=some ⟨g,0,none⟩:=by
 rcases V.2 with ⟨_,h0⟩ | ⟨g,c,cur,hv,_⟩
 · omega
 · injection hv with hv _ _
   exact ⟨g,hv⟩
theorem row_cell5 {w:World} {base:Nat} {e:TypeId} {size n g cap:Nat} {sp:Option Addr} {xs:List Value} (V:w.ownsRow base e size (.slice sp n cap) n xs) (hsp:sp=some ⟨g,0,none⟩) {j:Nat} {u:Value} (hu:xs[j]?=some u):w.cell? ⟨g,j,none⟩=some u:=by
 subst hsp
 have:=World.ownsRow.cells V (g:=g) rfl j u hu
 rw [Addr.add_mid,Nat.zero_add] at this
 exact this
theorem wrc_ap:∀ a b:List (Int × Int),wrc (a++b)=wrc a++wrc b
 | [],_=>rfl
 | q::a,b=>by show _::_::wrc (a++b)=_; rw [wrc_ap a b]; rfl
def sat:List Dfl→Int→Int
 | [],_=>-1
 | d::L,id=>if ((d.n:Nat):Int)=id then 0 else if sat L id<0 then -1 else sat L id+1
theorem sat_hit {A B:List Dfl} {d:Dfl} {id:Int} (hd:((d.n:Nat):Int)=id) (hA:∀ e∈A,((e.n:Nat):Int)≠id):sat (A++d::B) id=((A.length:Nat):Int):=by
 induction A with
 | nil=>show (if _ then _ else _)=_; rw [if_pos hd]; rfl
 | cons e A ih =>
   have:=ih fun x hx=>hA x (mT _ hx)
   show (if ((e.n:Nat):Int)=id then 0 else if sat (A++d::B) id<0 then -1 else sat (A++d::B) id+1)=_
   rw [if_neg (hA e mS),this,if_neg (by omega),List.length_cons]
   omega
theorem sat_miss {L:List Dfl} {id:Int} (h:∀ e∈L,((e.n:Nat):Int)≠id):sat L id=-1:=by
 induction L with
 | nil=>rfl
 | cons e A ih =>
   show (if ((e.n:Nat):Int)=id then 0 else _)=_
   rw [if_neg (h e mS),ih fun x hx=>h x (mT _ hx)]
   rfl
theorem sat_cases (L:List Dfl) (id:Int):(sat L id=-1∧sfd (dpl L) id=none∧∀ e∈L,((e.n:Nat):Int)≠id)∨∃ A d B,L=A++d::B∧((d.n:Nat):Int)=id∧(∀ e∈A,((e.n:Nat):Int)≠id)∧sat L id=((A.length:Nat):Int)∧sfd (dpl L) id=some d.f:=by
 induction L with
 | nil=>exact .inl ⟨rfl,rfl,fun _ h=>by cases h⟩
 | cons e L ih =>
   by_cases c:((e.n:Nat):Int)=id
   · refine .inr ⟨[],e,L,rfl,c,fun _ h=>(by cases h),sat_hit (A:=[]) c (fun _ h=>by cases h),?_⟩
     show (if ((e.n:Nat):Int)=id then some e.f else _)=_
     rw [if_pos c]
   · rcases ih with ⟨h1,h2,h3⟩ | ⟨A,d,B,h1,h2,h3,h4,h5⟩
     · refine .inl ⟨sat_miss fun x hx=>?_,?_,fun x hx=>?_⟩
       · rcases xc1 hx with rfl | hx
         · exact c
         · exact h3 x hx
       · show (if ((e.n:Nat):Int)=id then some e.f else sfd (dpl L) id)=_
         rw [if_neg c,h2]
       · rcases xc1 hx with rfl | hx
         · exact c
         · exact h3 x hx
     · have hA:∀ x∈e::A,((x.n:Nat):Int)≠id:=fun x hx=>by
        rcases xc1 hx with rfl | hx
        · exact c
        · exact h3 x hx
       refine .inr ⟨e::A,d,B,by rw [h1]; rfl,h2,hA,by rw [h1]; exact sat_hit (A:=e::A) h2 hA,?_⟩
       show (if ((e.n:Nat):Int)=id then some e.f else sfd (dpl L) id)=_
       rw [if_neg c,h5]
theorem sput_mid {A B:List Dfl} {d d':Dfl} {id:Int} (hd:((d.n:Nat):Int)=id) (hn:d'.n=d.n) (hA:∀ e∈A,((e.n:Nat):Int)≠id):sput (dpl (A++d::B)) id d'.f=dpl (A++d'::B):=by
 induction A with
 | nil =>
   show (if ((d.n:Nat):Int)=id then (d.n,d'.f)::dpl B else _)=(d'.n,d'.f)::dpl B
   rw [if_pos hd,hn]
 | cons e A ih =>
   show (if ((e.n:Nat):Int)=id then _ else (e.n,e.f)::sput (dpl (A++d::B)) id d'.f)=(e.n,e.f)::dpl (A++d'::B)
   rw [if_neg (hA e mS),ih fun x hx=>hA x (mT _ hx)]
theorem sdel_mid {A B:List Dfl} {d:Dfl} {id:Int} (hd:((d.n:Nat):Int)=id) (hA:∀ e∈A,((e.n:Nat):Int)≠id):sdel (dpl (A++d::B)) id=dpl (A++B):=by
 induction A with
 | nil =>
   show (if ((d.n:Nat):Int)=id then dpl B else _)=dpl B
   rw [if_pos hd]
 | cons e A ih =>
   show (if ((e.n:Nat):Int)=id then _ else (e.n,e.f)::sdel (dpl (A++d::B)) id)=(e.n,e.f)::dpl (A++B)
   rw [if_neg (hA e mS),ih fun x hx=>hA x (mT _ hx)]
theorem cell21 {w w':World} (l:Below w.heap.size w w') {p:Addr} {u:Value} (h:w.cell? p=some u):w'.cell? p=some u:=by
 rw [l.cell (World.block_lt_of_cell? w _ h)]
 exact h
theorem sall_take {Z:List (Rcd × Option Addr × Nat)} {i:Nat} {q:Rcd × Option Addr × Nat} (h:Z[i]?=some q):sall ((Z.take (i+1)).map Prod.fst)=sall ((Z.take i).map Prod.fst)++q.1.cs:=by
 rw [List.take_add_one,h,List.map_append,sall_app]
 show _++sall [q.1]=_
 rw [sall_one]
theorem sall_part (Z:List (Rcd × Option Addr × Nat)) (i:Nat):(sall ((Z.take i).map Prod.fst)).length≤(sall (Z.map Prod.fst)).length:=sall_sub ((List.take_sublist i Z).map Prod.fst)
section
open Go.RowKit Go.MapKept Go.ChangeMaps Go.WideShapes
def heldR (v:Value):Option (DataW Value × List MemPlace):=some (.held v,[])
def IM (P:Program) (k:TypeId) (w:World) (b n:Nat) (f:Int→Option Value):Prop :=
 ∃ D:DataW Value,w.ownsMap P k heldR b n D∧∀ x,i64 x→Maps.has D (.int .i64 x)=(f x).isSome∧∀ d,D.atKey (.int .i64 x) d=((f x).map DataW.held).getD d
theorem wfI {x:Int} (h:i64 x):(Lit.int .i64 x).wf=true:=WalkArith.wf_i64 (by unfold i64 at h; omega)
theorem litNe {x y:Int} (h:y≠x):(Lit.int .i64 y)≠.int .i64 x:=fun e=>by injection e with _ e; exact h e
def iput (f:Int→Option Value) (x:Int) (v:Value):Int→Option Value:=fun y=>if y=x then some v else f y
theorem iput_same (f:Int→Option Value) (x:Int) (v:Value):iput f x v x=some v:=if_pos rfl
theorem iput_other {f:Int→Option Value} {x y:Int} {v:Value} (h:¬ y=x):iput f x v y=f y:=if_neg h
section
variable {P:Program} {k t e:TypeId} {w:World} {b n:Nat} {f:Int→Option Value}
theorem IM.made (P:Program) (k:TypeId) (w:World):IM P k (w.alloc (.map #[] 0)) w.heap.size 0 (fun _=>none) :=
 ⟨_,World.ownsMap_made w P k heldR,fun _ _=>⟨rfl,fun _=>rfl⟩⟩
theorem IM.mono (h:IM P k w b n f) {m:Nat} (hm:n≤m):IM P k w b m f:=let ⟨D,h,h2⟩:=h; ⟨D,h.mono hm,h2⟩
theorem IM.off {w':World} {X:List Nat} (h:IM P k w b n f) (o:Off X w w') (hb:b∉X):IM P k w' b n f:=by
 obtain ⟨D,⟨es,clock,h1,h2⟩,h3⟩:=h
 exact ⟨D,⟨es,clock,(o.blk b (Array.getElem?_eq_some_iff.1 h1).1 hb).trans h1,h2⟩,h3⟩
theorem IM.bel {w':World} (h:IM P k w b n f) (l:Below w.heap.size w w'):IM P k w' b n f:=h.off (X:=[]) (Off.of_below l) (fun hb=>by cases hb)
theorem IM.congr {g:Int→Option Value} (h:IM P k w b n f) (hg:∀ x,i64 x→f x=g x):IM P k w b n g:=by
 obtain ⟨D,h1,h2⟩:=h
 exact ⟨D,h1,fun x hx=>by rw [← hg x hx]; exact h2 x hx⟩
theorem IM.lookOk (h:IM P k w b n f) (hk:P.underlying k=some (.int .i64)) (ht:P.underlying t=some (.map k e)) {z:Value} (hz:(zeroValue e).run P w=.ok z w) {x:Int} (hx:i64 x):(Instr.lookup t (.map (some b)) (.int .i64 x) true).run P w=.ok (.tuple #[(f x).getD z,.bool (f x).isSome]) w:=by
 obtain ⟨D,h1,h2⟩:=h
 obtain ⟨v,ps,hr,hv⟩:=h1.look_ok (Maps.int_keyed hk) ht hz (show heldR z=some (.held z,[]) from rfl) (Maps.keyOf_int_mk hk (wfI hx))
 rw [hr,(h2 x hx).1]
 have e:=(h2 x hx).2 (.held z)
 unfold heldR at hv
 injection hv with hv
 injection hv with hv _
 rw [e] at hv
 cases hf:f x with
 | none=>rw [hf] at hv; injection hv with hv; rw [hv]; rfl
 | some u=>rw [hf] at hv; injection hv with hv; rw [hv]; rfl
theorem IM.put (h:IM P k w b n f) (hk:P.underlying k=some (.int .i64)) (ht:P.underlying t=some (.map k e)) (hn:n<maxLen) {x:Int} (hx:i64 x) (v:Value) :
 ∃ w',(Instr.mapUpdate t (.map (some b)) (.int .i64 x) v).run P w=.ok () w'∧IM P k w' b (n+1) (iput f x v)∧w.grownBy w' (some b):=by
 obtain ⟨D,h1,h2⟩:=h
 obtain ⟨w',hr,ho,hg⟩:=h1.update (Maps.int_keyed hk) ht hn (Maps.keyOf_int_mk hk (wfI hx)) (show heldR v=some (.held v,[]) from rfl)
 refine ⟨w',hr,⟨_,ho,fun y hy=>?_⟩,hg⟩
 by_cases c:y=x
 · subst c
   rw [iput_same]
   exact ⟨Maps.has_put_same h1.isMap (show WideAt.IsKeyLit (.int .i64 y) from trivial) _,fun d=>Maps.atKey_put_same h1.isMap (show WideAt.IsKeyLit (.int .i64 y) from trivial) _ d⟩
 · rw [iput_other c]
   exact ⟨(Maps.has_put_other (litNe c) _).trans (h2 y hy).1,fun d=>(Maps.atKey_put_other (litNe c) _ d).trans ((h2 y hy).2 d)⟩
def idel (f:Int→Option Value) (x:Int):Int→Option Value:=fun y=>if y=x then none else f y
theorem idel_same (f:Int→Option Value) (x:Int):idel f x x=none:=if_pos rfl
theorem idel_other {f:Int→Option Value} {x y:Int} (h:¬ y=x):idel f x y=f y:=if_neg h
theorem IM.del (h:IM P k w b n f) (hk:P.underlying k=some (.int .i64)) (ht:P.underlying t=some (.map k e)) {x:Int} (hx:i64 x) (ty:TypeId) :
 ∃ w',(Builtin.delete_ #[t,k] ty #[.map (some b),.int .i64 x]).run P w=.ok (.tuple #[]) w'∧IM P k w' b n (idel f x)∧w.grownBy w' (some b):=by
 obtain ⟨D,h1,h2⟩:=h
 obtain ⟨w',hr,ho,hg⟩:=h1.drop (Maps.int_keyed hk) ht (Maps.keyOf_int_mk hk (wfI hx)) ty
 refine ⟨w',hr,⟨_,ho,fun y hy=>?_⟩,hg.grown⟩
 by_cases c:y=x
 · subst c
   rw [idel_same]
   exact ⟨Maps.has_del_same,fun d=>Maps.atKey_del_same d⟩
 · rw [idel_other c]
   exact ⟨(Maps.has_del_other (litNe c)).trans (h2 y hy).1,fun d=>(Maps.atKey_del_other (litNe c) d).trans ((h2 y hy).2 d)⟩
end
section
variable {P:Program} {k t e:TypeId} {w:World} {b n:Nat} {f:Int→Option Value} {o:Oper} {a:Act}
end
theorem Mm.touch {w0 w w':World} {l:List (Nat × List Value)} {b:Nat} (M:Mm w0 ((b,[])::l) w) (g:w.grownBy w' (some b)):Mm w0 ((b,[])::l) w':=by
 have h:=M.tail.grownN g fun b' e=>by
  injection e with e
  subst e
  exact ⟨M.lo mS,fun p hp e=>(List.pairwise_cons.1 M.apart).1 p hp e.symm⟩
 exact h.addB (M.lo mS) (xnL (M.lt mS) g.size) fun p hp e=>(List.pairwise_cons.1 M.apart).1 p hp e.symm
theorem Off.touched {w w':World} {b:Nat} (g:w.grownBy w' (some b)):Off [b] w w':=(Off.refl [b] w).grown g fun b' e=>by
 injection e with e
 subst e
 exact .inl mS
end
section
open Go.RowKit Go.MapKept Go.ChangeMaps Go.WideShapes
theorem run_append_opt {P:Program} {w:World} {base:Nat} {t ty e:TypeId} {z:Value} {bytes size n cap:Nat} {xs:List Value} {sp:Option Addr} (ht:P.underlying t=some (.slice e)) (he:Many P e z bytes size) (hzs:z.cells.size=size) (hs0:0<size) (h:w.ownsRow base e size (.slice sp n cap) n xs)
 (so:Option Addr) (m c:Nat) (news:List Value) (hl:news.length=m*size) (hnews:∀ j u,news[j]?=some u→∃ ad,so=some ad∧w.cell? (ad.add j)=some u) (h1c:∀ u∈news,u.oneCell'=true) (h63:n+m≤maxLen) (hb:(n+m)*bytes≤140737488355328) (hbase:base≤w.heap.size) :
 ∃ v' w',(Builtin.append_ #[t,t] ty #[.slice sp n cap,.slice so m c]).run P w=.ok v' w'∧w'.ownsRow base e size v' (n+m) (xs++news)∧w.grownBy w' (Value.slice sp n cap).ownBlock∧(∀ g,v'.ownBlock=some g→(Value.slice sp n cap).ownBlock=some g∨g=w.heap.size):=by
 cases so with
 | some ad=>exact run_append_OwnV ht he hzs hs0 h ad m c news hl (fun j u hu=>by obtain ⟨a,e1,e2⟩:=hnews j u hu; cases e1; exact e2) h1c h63 hb hbase
 | none =>
   have hn:news=[]:=by
    cases news with
    | nil=>rfl
    | cons u us=>obtain ⟨a,e1,_⟩:=hnews 0 u rfl; cases e1
   subst hn
   have hm:m=0:=by
    rcases Nat.eq_zero_or_pos m with h | h
    · exact h
    · have:=Nat.mul_pos h hs0
      rw [← hl] at this
      exact absurd this (Nat.lt_irrefl 0)
   subst hm
   obtain ⟨i,hi,hq⟩:=Option.map_eq_some_iff.1 he.info
   obtain ⟨sp',cap',hv,hle,_⟩:=row_form16 h
   injection hv with e1 _ e3
   subst e1; subst e3
   refine ⟨.slice sp n cap,w,?_,by rw [List.append_nil,Nat.add_zero]; exact h,World.grownBy.refl _ _,fun g hg=>.inl hg⟩
   cases sp <;> simp [Builtin.append_,run_underlying ht,sizeOf,typeInfo,hi,Builtin.lenOf,Builtin.firstCells,loadCells,hle,storeCells]
def NS (w:World) (m:Option Nat) (n:Nat) (f:Int→Option Value):Prop:=match m with
 | none=>∀ x,f x=none
 | some b=>IM Try.prog 3 w b n f
def mbk (m:Option Nat):List (Nat × List Value):=match m with
 | none=>[]
 | some b=>[(b,[])]
theorem uk21:Try.prog.underlying 3=some (.int .i64):=Try.underlying3
theorem IM.boundL {P:Program} {k:TypeId} {w:World} {b n:Nat} {f:Int→Option Value} (h:IM P k w b n f) (hk:P.underlying k=some (.int .i64)) (K:List Int) (hf:∀ x,(f x).isSome=true→x∈K):IM P k w b K.length f:=by
 obtain ⟨D,ho,h2⟩:=h
 obtain ⟨L,hD,hp⟩:=ho.tidy (Maps.int_keyed hk)
 have h3:=fun x hx=>(h2 x hx).1
 obtain ⟨es,clock,hb,F,hs,hD'⟩:=ho
 refine ⟨D,⟨es,clock,hb,F,?_,hD'⟩,h2⟩
 have e1:L=(es.toList.map (WideElems.rg P k heldR)).foldr DataW.insert []:=by rw [hD] at hD'; injection hD'
 have e2:es.size=L.length:=by rw [e1,length_read]
 have hle:(L.map Prod.fst).length≤(K.map fun i:Int=>Lit.int .i64 i).length:=?_
 · rw [List.length_map,List.length_map] at hle
   omega
 refine List.Nodup.length_le_of_subset (List.pairwise_map.2 hp) fun l hl=>?_
 obtain ⟨p,hpm,rfl⟩:=List.mem_map.1 hl
 rw [e1] at hpm
 obtain ⟨x,hx,hpx⟩:=List.mem_map.1 (mem_sorted.1 hpm)
 obtain ⟨y,hy⟩:=F.reads x hx
 rw [WideElems.rg_of hy] at hpx
 subst hpx; have hkey:=WideElems.rd_key hy
 have hkm:mapKey P k x.key=some y.1:=by
  unfold keyOf at hkey
  rw [hk] at hkey
  exact hkey
 unfold mapKey at hkm
 rw [hk] at hkm
 cases hxk:x.key with
 | int q a =>
   rw [hxk] at hkm
   simp only [Option.ite_none_right_eq_some,Option.some.injEq] at hkm
   obtain ⟨⟨rfl,hw⟩,hy1⟩:=hkm
   have hi:i64 a:=by
    unfold i64
    simp [Lit.wf,IntKind.min,IntKind.max,IntKind.signed,IntKind.bits] at hw
    omega
   have hh:Maps.has D (.int .i64 a)=true:=by
    rw [hD,Maps.has_eq,List.any_eq_true]
    exact ⟨y,by rw [e1]; exact hpm,by rw [← hy1]; exact WideAt.sameKey_self (show WideAt.IsKeyLit (.int .i64 a) from trivial)⟩
   rw [h3 a hi] at hh
   exact List.mem_map.2 ⟨a,hf a hh,hy1⟩
 | _=>rw [hxk] at hkm; simp at hkm
section
variable {w:World} {m:Option Nat} {n:Nat} {f:Int→Option Value} {t e:TypeId}
theorem NS.off {w':World} {X:List Nat} (h:NS w m n f) (o:Off X w w') (hX:∀ p∈mbk m,p.1∉X):NS w' m n f:=by
 cases m with
 | none=>exact h
 | some b=>exact IM.off h o (hX (b,[]) mS)
theorem NS.below {w':World} (h:NS w m n f) (l:Below w.heap.size w w'):NS w' m n f:=h.off (X:=[]) (Off.of_below l) (fun _ _ hb=>by cases hb)
theorem NS.congr {g:Int→Option Value} (h:NS w m n f) (hg:∀ x,f x=g x):NS w m n g:=by
 obtain rfl:f=g:=funext hg
 exact h
theorem run_look_nil21 (ht:Try.prog.underlying t=some (.map 3 e)) {z:Value} (hz:(zeroValue e).run Try.prog w=.ok z w) (x:Int) :
 (Instr.lookup t (.map none) (.int .i64 x) true).run Try.prog w=.ok (.tuple #[z,.bool false]) w:=by
 unfold Instr.lookup
 have h1:∀ e,(Instr.checkKey e 10000 3 (.int .i64 x)).run Try.prog w=.ok () w:=fun e=>run_checkKey uk21 (show IsKey (.int .i64) (.int .i64 x) from rfl) e 9999
 have h2:(Instr.findKey 3 (.int .i64 x) []).run Try.prog w=.ok none w:=run_findKey uk21 rfl
 simp [run_underlying ht,h1,h2,hz,Result.andThen]
theorem NS.lookOk (h:NS w m n f) (ht:Try.prog.underlying t=some (.map 3 e)) {z:Value} (hz:(zeroValue e).run Try.prog w=.ok z w) {x:Int} (hx:i64 x):(Instr.lookup t (.map m) (.int .i64 x) true).run Try.prog w=.ok (.tuple #[(f x).getD z,.bool (f x).isSome]) w:=by
 cases m with
 | none=>rw [run_look_nil21 ht hz x,h x]; rfl
 | some b=>exact IM.lookOk h uk21 ht hz hx
variable {o:Oper} {a:Act}
theorem lookOk21 (h:NS w m n f) (ht:Try.prog.underlying t=some (.map 3 e)) (z:Value) (hz:∀ w,(zeroValue e).run Try.prog w=.ok z w) (x:Int) (hx:i64 x) (u:Value) (hu:(f x).getD z=u) (b:Bool) (hb:(f x).isSome=b) (m' y:Operand) (ho:o.op=.lookup t m' y true) (hm:a.eval m'=.map m) (hy:a.eval y=.int .i64 x) :
 (execOp a.eval o).run Try.prog w=.ok (.value (.tuple #[u,.bool b])) w:=by
 subst hu hb
 unfold execOp
 simp only [ho,hm,hy,Sem.run_bind,h.lookOk ht (hz w) hx,Result.andThen_ok,Sem.run_pure]
theorem eqlM21 (m:Option Nat) (t t' k e:TypeId) (x y:Operand) (b:Bool) (hb:m.isNone=b) (ho:o.op=.binOp .eql t x y t') (hx:a.eval x=.map m) (hy:a.eval y=.map none) (h:Try.prog.underlying t=some (.map k e)) (w:World):(execOp a.eval o).run Try.prog w=.ok (.value (.bool b)) w:=by
 subst hb
 unfold execOp
 simp only [ho,hx,hy,Sem.run_bind,eqGuard_at_map,run_eql_map_nil w t k e m h,Sem.run_pure,Result.andThen_ok]
theorem run_del_nil21 (ht:Try.prog.underlying t=some (.map 3 e)) (x:Int) (ty:TypeId):(Builtin.delete_ #[t,3] ty #[.map none,.int .i64 x]).run Try.prog w=.ok (.tuple #[]) w:=by
 have h1:∀ e,(Instr.checkKey e 10000 3 (.int .i64 x)).run Try.prog w=.ok () w:=fun e=>run_checkKey uk21 (show IsKey (.int .i64) (.int .i64 x) from rfl) e 9999
 simp [Builtin.delete_,run_underlying ht,h1,Result.andThen]
theorem NS.del (h:NS w m n f) (ht:Try.prog.underlying t=some (.map 3 e)) {x:Int} (hx:i64 x) (ty:TypeId):∃ w',(Builtin.delete_ #[t,3] ty #[.map m,.int .i64 x]).run Try.prog w=.ok (.tuple #[]) w'∧NS w' m n (idel f x)∧w.grownBy w' m:=by
 cases m with
 | none=>exact ⟨w,run_del_nil21 ht x ty,fun y=>by unfold idel; split; rfl; exact h y,World.grownBy.refl _ _⟩
 | some b =>
   obtain ⟨w',h1,h2,h3⟩:=IM.del h uk21 ht hx ty
   exact ⟨w',h1,h2,h3⟩
theorem delOp21 {w':World} {t k:TypeId} {p q x:Value} (m' y:Operand) (ho:o.op=.call { callee:=.builtin .delete,args:=#[m',y],argTypes:=#[t,k] }) (hm:a.eval m'=p) (hy:a.eval y=q) (hr:(Builtin.delete_ #[t,k] o.type #[p,q]).run Try.prog w=.ok x w'):(execOp a.eval o).run Try.prog w=.ok (.value x) w':=by
 simp [execOp,ho,resolve,invoke,builtin,hm,hy,hr]
theorem putOp21 {w':World} {t:TypeId} {p q v:Value} (m' y u:Operand) (ho:o.op=.mapUpdate t m' y u) (hm:a.eval m'=p) (hy:a.eval y=q) (hu:a.eval u=v) (hr:(Instr.mapUpdate t p q v).run Try.prog w=.ok () w'):(execOp a.eval o).run Try.prog w=.ok .skip w':=by
 unfold execOp
 simp only [ho,hm,hy,hu,Sem.run_bind,hr,Result.andThen_ok,Sem.run_pure]
end
theorem Mm.touch21 {w0 w w':World} {l:List (Nat × List Value)} {m:Option Nat} (M:Mm w0 (mbk m++l) w) (g:w.grownBy w' m):Mm w0 (mbk m++l) w':=by
 cases m with
 | none=>exact M.grownN g (fun b e=>by cases e)
 | some b=>exact Mm.touch M g
theorem Off.touched21 {w w':World} {m:Option Nat} (g:w.grownBy w' m):Off ((mbk m).map Prod.fst) w w':=by
 cases m with
 | none=>exact (Off.refl [] w).grown g fun b e=>by cases e
 | some b=>exact Off.touched g
theorem Mm.boxM21 {w0 w:World} {l:List (Nat × List Value)} (M:Mm w0 l w):Mm w0 ((w.heap.size,[])::l) (w.alloc (.map #[] 0)) :=
 (M.call ((Below.refl w.heap.size w).alloc (xnR _) _)).addB M.below.size (by simp) fun p hp e=>by
  have:=(M.rows p hp).2.2
  omega
def Pks (w:World) (Z:List (Rcd × Option Addr × Nat)):Prop:=∀ q∈Z,RgW w q.1.cs (.slice q.2.1 q.1.cs.length q.2.2)
theorem Pks.off {w w':World} {Z:List (Rcd × Option Addr × Nat)} {X:List Nat} (h:Pks w Z) (o:Off X w w') (hX:∀ b∈X,b∉(gks Z).map Prod.fst):Pks w' Z:=fun q hq=>(h q hq).offB o fun b hb _ hm=>hX b hb (gks_mem hq hm)
theorem Pks.below {w w':World} {Z:List (Rcd × Option Addr × Nat)} (h:Pks w Z) (l:Below w.heap.size w w'):Pks w' Z:=fun q hq=>(h q hq).below l
theorem Pks.sub {w:World} {A B:List (Rcd × Option Addr × Nat)} (h:Pks w B) (hs:∀ q∈A,q∈B):Pks w A:=fun q hq=>h q (hs q hq)
def pnx:Option Nat→Int
 | some t=>(t:Int)+1
 | none=>0
def ppc (d:Dfl):List Value:=[.int .i64 ((d.win:Nat):Int),.int .i64 (pnx d.top),.slice d.sr d.Z.length d.cr]
structure POK (w:World) (d:Dfl):Prop where
 V:w.ownsRow 0 72 3 (.slice d.sr d.Z.length d.cr) d.Z.length (rcs d.Z)
 K:Pks w d.Z
theorem POK.off {w w':World} {d:Dfl} {X:List Nat} (h:POK w d) (o:Off X w w') (h1:∀ b∈X,b∉ob d.sr) (h2:∀ b∈X,b∉(gks d.Z).map Prod.fst):POK w' d:=⟨ownsRow_away h.V o h1,h.K.off o h2⟩
theorem POK.below {w w':World} {d:Dfl} (h:POK w d) (l:Below w.heap.size w w'):POK w' d:=⟨ownsRow_bel h.V l,h.K.below l⟩
def dno:Dfl:=⟨0,0,none,[],none,0⟩
theorem dno_ok (w:World):POK w dno:=⟨World.ownsRow_nil w 0 72 3,fun _ h=>by cases h⟩
abbrev Pes:=List (Nat × Dfl)
def pfl (E:Pes):List Dfl:=E.map Prod.snd
def plk:Pes→Int→Option Nat
 | [],_=>none
 | e::E,x=>if ((e.2.n:Nat):Int)=x then some e.1 else plk E x
def pmf (E:Pes) (x:Int):Option Value:=(plk E x).map fun B=>.pointer (some ⟨B,0,none⟩)
def gpe (e:Nat × Dfl):List (Nat × List Value):=(e.1,ppc e.2)::obs e.2.sr
def gp (E:Pes):List (Nat × List Value):=E.flatMap gpe
theorem gp_app (A B:Pes):gp (A++B)=gp A++gp B:=List.flatMap_append
theorem gp_cons (e:Nat × Dfl) (B:Pes):gp (e::B)=gpe e++gp B:=List.flatMap_cons ..
theorem gp_mem {E:Pes} {e:Nat × Dfl} (h:e∈E) {p:Nat × List Value} (hp:p∈gpe e):p∈gp E:=List.mem_flatMap.2 ⟨e,h,hp⟩
theorem gp_mid (A B:Pes) (e:Nat × Dfl) (T:List (Nat × List Value)):(gp (A++e::B)++T).Perm (gpe e++(gp (A++B)++T)):=by
 rw [gp_app,gp_cons,gp_app]
 rw [List.append_assoc,List.append_assoc,List.append_assoc,← List.append_assoc,← List.append_assoc (gpe e)]
 exact List.perm_append_comm.append_right _
structure PIn (w:World) (s:Sch) (p:Int) (m:Option Nat) (E:Pes) (C:List (Nat × List Value)):Prop where
 pol:s.tu=decide (p=1)
 map:NS w m E.length (pmf E)
 lst:dpl (pfl E)=s.L
 ok:∀ e∈E,POK w e.2
 ck:∀ e∈E,∀ q∈gks e.2.Z,q∈C
def prc (s:Sch) (p:Int) (m:Option Nat):List Value:=[.int .i64 p,.int .u64 (s.last+1),.map m]
def pow (R:Nat) (s:Sch) (p:Int) (m:Option Nat) (E:Pes):List (Nat × List Value):=(R,prc s p m)::(mbk m++gp E)
theorem PIn.off {w w':World} {s:Sch} {p:Int} {m:Option Nat} {E:Pes} {C:List (Nat × List Value)} {X:List Nat} (h:PIn w s p m E C) (o:Off X w w') (h1:∀ q∈mbk m,q.1∉X) (h2:∀ b∈X,b∉(gp E).map Prod.fst) (h3:∀ b∈X,b∉C.map Prod.fst):PIn w' s p m E C :=
 ⟨h.pol,h.map.off o h1,h.lst,fun e he=>(h.ok e he).off o (fun b hb hm=>h2 b hb (List.mem_map.2 ⟨(b,[]),gp_mem he (mT _ (List.mem_map.2 ⟨b,hm,rfl⟩)),rfl⟩)) (fun b hb hm=>by
  obtain ⟨q,hq,e1⟩:=List.mem_map.1 hm
  exact h3 b hb (List.mem_map.2 ⟨q,h.ck e he q hq,e1⟩)),h.ck⟩
theorem PIn.below {w w':World} {s:Sch} {p:Int} {m:Option Nat} {E:Pes} {C:List (Nat × List Value)} (h:PIn w s p m E C) (l:Below w.heap.size w w'):PIn w' s p m E C:=h.off (X:=[]) (Off.of_below l) (fun _ _ hb=>by cases hb) (fun _ hb=>by cases hb) (fun _ hb=>by cases hb)
theorem PIn.more {w:World} {s:Sch} {p:Int} {m:Option Nat} {E:Pes} {C D:List (Nat × List Value)} (h:PIn w s p m E C) (hD:∀ q∈C,q∈D):PIn w s p m E D:=⟨h.pol,h.map,h.lst,h.ok,fun e he q hq=>hD q (h.ck e he q hq)⟩
def sgf (s:Sch) (id:Int):Flg:=(sfd s.L id).getD dno.f
def spx (s:Sch) (id:Int) (f:Flg):Sch:=match sfd s.L id with | some _=>{ s with L:=sput s.L id f } | none=>s
theorem sput_self:∀ {L:List (Nat × Flg)} {id:Int} {f:Flg},sfd L id=some f→sput L id f=L
 | [],_,_,h=>by cases h
 | q::L,id,f,h=>by
   unfold sfd at h
   unfold sput
   by_cases c:((q.1:Nat):Int)=id
   · rw [if_pos c] at h ⊢
     rw [← Option.some.inj h]
   · rw [if_neg c] at h ⊢
     rw [sput_self h]
theorem spx_self (s:Sch) (id:Int):spx s id (sgf s id)=s:=by
 unfold spx sgf
 split
 · next f hf=>rw [hf]; show { s with L:=sput s.L id f }=s; rw [sput_self hf]
 · rfl
theorem plk_cases (E:Pes) (id:Int):(plk E id=none∧sfd (dpl (pfl E)) id=none)∨∃ A B d F,E=A++(B,d)::F∧((d.n:Nat):Int)=id∧(∀ e∈pfl A,((e.n:Nat):Int)≠id)∧plk E id=some B∧sfd (dpl (pfl E)) id=some d.f:=by
 induction E with
 | nil=>exact .inl ⟨rfl,rfl⟩
 | cons e E ih =>
   by_cases c:((e.2.n:Nat):Int)=id
   · refine .inr ⟨[],e.1,e.2,E,rfl,c,fun _ h=>(by cases h),?_,?_⟩
     · show (if _ then _ else _)=_; rw [if_pos c]
     · show (if ((e.2.n:Nat):Int)=id then some e.2.f else _)=_; rw [if_pos c]
   · rcases ih with ⟨h1,h2⟩ | ⟨A,B,d,F,h1,h2,h3,h4,h5⟩
     · refine .inl ⟨?_,?_⟩
       · show (if ((e.2.n:Nat):Int)=id then some e.1 else plk E id)=_; rw [if_neg c,h1]
       · show (if ((e.2.n:Nat):Int)=id then some e.2.f else sfd (dpl (pfl E)) id)=_; rw [if_neg c,h2]
     · refine .inr ⟨e::A,B,d,F,by rw [h1]; rfl,h2,fun x hx=>?_,?_,?_⟩
       · rcases xc1 hx with rfl | hx
         · exact c
         · exact h3 x hx
       · show (if ((e.2.n:Nat):Int)=id then some e.1 else plk E id)=_; rw [if_neg c,h4]
       · show (if ((e.2.n:Nat):Int)=id then some e.2.f else sfd (dpl (pfl E)) id)=_; rw [if_neg c,h5]
theorem plk_mid {A F:Pes} {B:Nat} {d d':Dfl} (hn:d'.n=d.n) (x:Int):plk (A++(B,d')::F) x=plk (A++(B,d)::F) x:=by
 induction A with
 | nil =>
   show (if ((d'.n:Nat):Int)=x then _ else _)=if ((d.n:Nat):Int)=x then _ else _
   rw [hn]
 | cons e A ih =>
   show (if _ then _ else plk (A++(B,d')::F) x)=if _ then _ else plk (A++(B,d)::F) x
   rw [ih]
theorem sw21 {α:Type} (a b t:List α):(a++(b++t)).Perm (b++(a++t)):=by
 rw [← List.append_assoc,← List.append_assoc]
 exact List.perm_append_comm.append_right t
theorem perm21 {α:Type} (P D k g Y:List α) (r:α):(P++(D++(r::(k++(g++Y))))).Perm (r::(k++(P++(g++(D++Y))))):=by
 have h1:(D++((r::(k++g))++Y)).Perm ((r::(k++g))++(D++Y)):=sw21 D _ Y
 have h2:(P++((r::k)++(g++(D++Y)))).Perm ((r::k)++(P++(g++(D++Y)))):=sw21 P _ _
 have h3:(P++(D++(r::(k++(g++Y))))).Perm (P++((r::k)++(g++(D++Y)))):=by
  have:=h1.append_left P
  simpa [List.append_assoc] using this
 exact h3.trans h2
def Back (w:World) (s:Sch) (R:Nat) (p:Int) (m:Option Nat) (E:Pes) (T:List (Nat × List Value)) (id:Int) (B:Nat) (d:Dfl) (X:List (Nat × List Value)):Prop :=
 (∃ A F,E=A++(B,d)::F∧((d.n:Nat):Int)=id∧(∀ e∈pfl A,((e.n:Nat):Int)≠id)∧X=(R,prc s p m)::(mbk m++(gp (A++F)++T))) ∨
 (sfd s.L id=none∧d=dno∧w.heap.size≤B∧X=(R,prc s p m)::(mbk m++(gp E++T)))
theorem mem_bl {l:List (Nat × List Value)} {q:Nat × List Value} (h:q∈l):q.1∈l.map Prod.fst:=List.mem_map.2 ⟨q,h,rfl⟩
theorem Mm.apart2 {w0 w:World} {a b:List (Nat × List Value)} (M:Mm w0 (a++b) w):∀ x∈a.map Prod.fst,x∉b.map Prod.fst:=fun x hx hy=>by
 obtain ⟨p,hp,rfl⟩:=List.mem_map.1 hx
 obtain ⟨q,hq,e⟩:=List.mem_map.1 hy
 exact (List.pairwise_append.1 M.apart).2.2 p hp q hq e.symm
theorem Off.and21 {X Y:List Nat} {w w1 w2:World} (h:Off X w w1) (g:Off Y w1 w2) (hY:∀ b∈Y,b∈X∨w.heap.size≤b):Off X w w2 :=
 ⟨xnT h.size g.size,fun b hb hX=>(g.blk b (xnL hb h.size) fun e=>(hY b e).elim hX fun h'=>by omega).trans (h.blk b hb hX)⟩
theorem Back.close {w0 w w' w2:World} {s:Sch} {R:Nat} {p:Int} {m:Option Nat} {E:Pes} {C l X:List (Nat × List Value)} {id:Int} {B:Nat} {d d':Dfl} (hI:PIn w s p m E C) (h:Back w s R p m E (C++l) id B d X) (hM:Mm w0 ((B,ppc d)::(obs d.sr++X)) w') (lb:Below w.heap.size w w') (o:Off (B::ob d.sr) w' w2)
 (hn:d'.n=d.n) (hP:POK w2 d') {C' D:List (Nat × List Value)} (M:Mm w0 ((B,ppc d')::(obs d'.sr++(D++X))) w2) (hc:∀ q∈gks d'.Z,q∈C') (hcc:∀ q∈C,q∈C') :
 ∃ E',PIn w2 (spx s id d'.f) p m E' C'∧Mm w0 (pow R s p m E'++(D++(C++l))) w2∧Off ((pow R s p m E).map Prod.fst) w w2:=by
 have hI':=hI.below lb
 have ha:∀ x∈B::ob d.sr,x∉X.map Prod.fst:=fun x hx=>by
  refine Mm.apart2 (a:=(B,ppc d)::obs d.sr) hM x ?_
  rw [List.map_cons,obs_fst]
  exact hx
 rcases h with ⟨A,F,rfl,hid,hA,rfl⟩ | ⟨hs,rfl,hB,rfl⟩
 · have hsd:sfd s.L id=some d.f:=by
    rw [← hI.lst]
    have e:pfl (A++(B,d)::F)=pfl A++d::pfl F:=by unfold pfl; rw [List.map_append,List.map_cons]
    rw [e]
    rcases sat_cases (pfl A++d::pfl F) id with ⟨_,_,h3⟩ | ⟨A2,d2,B2,h1,h2,h3,h4,h5⟩
    · exact absurd hid (h3 d (by simp))
    · have h6:=sat_hit (B:=pfl F) hid hA
      rw [h4] at h6
      have h7:A2.length=(pfl A).length:=by omega
      obtain ⟨_,h8⟩:=List.append_inj h1 h7.symm
      injection h8 with h8 _
      rw [h5,h8]
   have ho:∀ e∈A++F,POK w2 e.2:=fun e he=>by
    have he':e∈A++(B,d)::F:=by
     rcases List.mem_append.1 he with h | h
     · exact List.mem_append_left _ h
     · exact List.mem_append_right _ (mT _ h)
    refine (hI'.ok e he').off o (fun b hb hm=>ha b hb ?_) (fun b hb hm=>ha b hb ?_)
    · exact mem_bl (q:=(b,[])) (mT _ (List.mem_append_right _ (List.mem_append_left _ (gp_mem he (mT _ (List.mem_map.2 ⟨b,hm,rfl⟩))))))
    · obtain ⟨q,hq,rfl⟩:=List.mem_map.1 hm
      exact mem_bl (mT _ (List.mem_append_right _ (List.mem_append_right _ (List.mem_append_left _ (hI.ck e he' q hq)))))
   refine ⟨A++(B,d')::F,⟨?_,?_,?_,fun e he=>?_,fun e he q hq=>?_⟩,?_,?_⟩
   · show (spx s id d'.f).tu=_
     unfold spx
     rw [hsd]
     exact hI.pol
   · have e1:(A++(B,d')::F).length=(A++(B,d)::F).length:=by simp
     rw [e1]
     refine (hI'.map.off o fun q hq hm=>ha q.1 hm (mem_bl (mT _ (List.mem_append_left _ hq)))).congr fun x=>?_
     unfold pmf
     rw [plk_mid hn]
   · unfold spx
     rw [hsd]
     show dpl (pfl (A++(B,d')::F))=sput s.L id d'.f
     rw [← hI.lst]
     have e1:∀ x:Dfl,pfl (A++(B,x)::F)=pfl A++x::pfl F:=fun x=>by unfold pfl; rw [List.map_append,List.map_cons]
     rw [e1,e1,sput_mid hid hn hA]
   · rcases List.mem_append.1 he with h | h
     · exact ho e (List.mem_append_left _ h)
     · rcases xc1 h with rfl | h
       · exact hP
       · exact ho e (List.mem_append_right _ h)
   · rcases List.mem_append.1 he with h | h
     · exact hcc q (hI.ck e (List.mem_append_left _ h) q hq)
     · rcases xc1 h with rfl | h
       · exact hc q hq
       · exact hcc q (hI.ck e (List.mem_append_right _ (mT _ h)) q hq)
   · refine M.perm ?_
     have h1:=perm21 ((B,ppc d')::obs d'.sr) D (mbk m) (gp (A++F)) (C++l) (R,prc s p m); have h2:=(gp_mid A F (B,d') (D++(C++l))).symm; have h3:=(h2.append_left (mbk m)).cons (R,prc s p m); have h4:=h1.trans h3
     unfold pow
     simpa [List.append_assoc] using h4
   · refine (Off.of_below lb).trans (o.mono fun b hb=>?_)
     have hm:(B,d)∈A++(B,d)::F:=by simp
     rcases xc1 hb with rfl | hb
     · exact mem_bl (q:=(b,ppc d)) (mT _ (List.mem_append_right _ (gp_mem hm mS)))
     · exact mem_bl (q:=(b,[])) (mT _ (List.mem_append_right _ (gp_mem hm (mT _ (List.mem_map.2 ⟨b,hb,rfl⟩)))))
 · have e0:spx s id d'.f=s:=by unfold spx; rw [hs]
   rw [e0]
   refine ⟨E,?_,?_,?_⟩
   · refine PIn.more (hI'.off o (fun q hq hm=>ha q.1 hm (mem_bl (mT _ (List.mem_append_left _ hq)))) (fun b hb hm=>?_) (fun b hb hm=>?_)) hcc
     · obtain ⟨q,hq,rfl⟩:=List.mem_map.1 hm
       exact ha q.1 hb (mem_bl (mT _ (List.mem_append_right _ (List.mem_append_left _ hq))))
     · obtain ⟨q,hq,rfl⟩:=List.mem_map.1 hm
       exact ha q.1 hb (mem_bl (mT _ (List.mem_append_right _ (List.mem_append_right _ (List.mem_append_left _ hq)))))
   · have h1:=(M.sub _ (List.sublist_append_right ((B,ppc d')::obs d'.sr) _)).perm (perm21 [] D (mbk m) (gp E) (C++l) (R,prc s p m))
     unfold pow
     simpa [List.append_assoc] using h1
   · refine Off.and21 (Off.of_below lb) o fun b hb=>?_
     rcases xc1 hb with rfl | hb
     · exact .inr hB
     · cases hb
theorem single_le_sum21 {l:List Nat} {x:Nat} (h:x∈l):x≤l.sum:=by
 induction l with
 | nil=>cases h
 | cons a l ih =>
   rw [List.sum_cons]
   rcases xc1 h with rfl | h
   · omega
   · have:=ih h; omega
theorem Back.mem {w:World} {s:Sch} {R:Nat} {p:Int} {m:Option Nat} {E:Pes} {T X:List (Nat × List Value)} {id:Int} {B:Nat} {d:Dfl} (h:Back w s R p m E T id B d X) {q:Nat × List Value} (hq:q∈T):q∈X:=by
 rcases h with ⟨A,F,_,_,_,rfl⟩ | ⟨_,_,_,rfl⟩
 · exact mT _ (List.mem_append_right _ (List.mem_append_right _ hq))
 · exact mT _ (List.mem_append_right _ (List.mem_append_right _ hq))
theorem Mm.fetch21 {w0 w:World} {s:Sch} {R:Nat} {p:Int} {m:Option Nat} {A F:Pes} {B:Nat} {d:Dfl} {T:List (Nat × List Value)} (M:Mm w0 (pow R s p m (A++(B,d)::F)++T) w):Mm w0 ((B,ppc d)::(obs d.sr++((R,prc s p m)::(mbk m++(gp (A++F)++T))))) w:=by
 refine M.perm ?_; have h1:=perm21 ((B,ppc d)::obs d.sr) [] (mbk m) (gp (A++F)) T (R,prc s p m); have h2:=(gp_mid A F (B,d) T).symm; have h3:=(h2.append_left (mbk m)).cons (R,prc s p m); have h4:=(h1.trans h3).symm
 unfold pow
 simpa [List.append_assoc] using h4
theorem sgf_len {s:Sch} (id:Int):(sgf s id).rs.length+(sall (sgf s id).rs).length≤ssz s:=by
 unfold sgf
 cases h:sfd s.L id with
 | none=>exact Nat.zero_le _
 | some f =>
   obtain ⟨k,_,hk⟩:=sfd_mem h
   have h1:fsz f≤(s.L.map fun q=>fsz q.2).sum:=by
    have:=single_le_sum21 (l:=s.L.map fun q=>fsz q.2) (List.mem_map.2 ⟨(k,f),hk,rfl⟩)
    exact this
   show fsz f≤_
   unfold ssz
   omega
structure FlgW0 (f:Flg):Prop where
 w2:f.win≤32
 rc:∀ r∈f.rs,r.c≤281474976710655∧r.m≤1099511627776∧∀ p∈r.cs,i64 p.1∧i64 p.2
 up:f.rs.Pairwise fun a b=>a.c<b.c
 t1:∀ t,f.top=some t→t≤281474976710655
theorem sgf_w {s:Sch} (h:SchW s) (id:Int):FlgW0 (sgf s id):=by
 unfold sgf
 cases e:sfd s.L id with
 | none=>exact ⟨Nat.zero_le _,(fun _ h=>by cases h),List.Pairwise.nil,(fun _ h=>by cases h)⟩
 | some f=>have:=sfd_w h e; exact ⟨this.w2,this.rc,this.up,this.t1⟩
theorem swn_is (s:Sch) (id:Int):swn s id=(sgf s id).win:=by unfold swn sgf; cases sfd s.L id <;> rfl
theorem sun_is (s:Sch) (id:Int):sun s id=(sgf s id).rs.length:=by unfold sun sgf; cases sfd s.L id <;> rfl
theorem prc_spx (s:Sch) (id:Int) (f:Flg) (p:Int) (m:Option Nat):prc (spx s id f) p m=prc s p m:=by unfold spx; cases sfd s.L id <;> rfl
theorem pow_spx (R:Nat) (s:Sch) (id:Int) (f:Flg) (p:Int) (m:Option Nat) (E:Pes):pow R (spx s id f) p m E=pow R s p m E:=by unfold pow; rw [prc_spx]
theorem PIn.len {w:World} {s:Sch} {p:Int} {m:Option Nat} {E:Pes} {C:List (Nat × List Value)} (h:PIn w s p m E C):E.length≤ssz s:=by
 have h1:=congrArg List.length h.lst
 rw [dpl_len] at h1
 unfold pfl at h1
 rw [List.length_map] at h1
 unfold ssz
 omega
end
end Go.Proofs.Ytmedjdadhmdpgaa
