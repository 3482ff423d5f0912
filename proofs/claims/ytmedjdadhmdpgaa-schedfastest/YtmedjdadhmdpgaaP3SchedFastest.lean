/- Texts of LawSchedFastest, joined. -/
import Derived.Test.YtmedjdadhmdpgaaP2SchedFastest
set_option maxRecDepth 20000
set_option maxHeartbeats 64000000
namespace Go.Proofs.Ytmedjdadhmdpgaa
open Go.RowKit
def bno:Option Nat→Int
 | none=>-1
 | some b=>((b:Nat):Int)
theorem law_SchedFastest {I:SchI} (hK:SchOK I) (sp:Option Addr) (cap:Nat) (rtt:List Int) (_maxl:rtt.length≤140737488351232) (hcap:rtt.length≤cap) (hnil:sp=none→cap=0) (hri:∀ x∈rtt,i64 x) (w0:World) (hsrc:SrcI w0 sp rtt.length (bl rtt)) :
 Calls Try.prog 7 #[.slice sp rtt.length cap] w0 fun e w'=>e=.returned (.bool true)∧Below w0.heap.size w0 w':=by
 have M:=Mm.init w0
 go_enter Try.func7,Try.ntmps7
 go_upto_region 0 with fail; refine wp_region_list ?_; refine xpL (.bool false) ?_; refine xT ?_; go_upto_region 1 with fail; refine wp_region_list ?_; have key:=shown21_any hK w0; refine xcL key ?_; clear key; rintro e w1 ⟨rfl,l_⟩; replace M:=M.call l_; clear l_; refine xeL ?_; refine xpL (.bool true) ?_; refine xT ?_; go_upto_region 2 with fail; refine wp_region_list ?_
 have key:=hK.new w0 _ _ 0 (by unfold i64; decide) M; refine xcL key ?_; clear key; rintro e w2 ⟨v_,ba0,rfl,hIa,M',l_⟩
 obtain ⟨Ra,rfl⟩:=hK.ptr _ _ _ _ hIa
 clear M; have M:=M'.perm (pull0 ([]:List (Nat × List Value)) ba0 ([]:List (Nat × List Value))).symm; clear M'; clear l_
 replace M:Mm w0 ((ba0++([]:List (Nat × List Value)))) w2:=M
 refine xeL ?_; refine xpL (.pointer (some ⟨Ra,0,none⟩)) ?_; refine xT ?_; go_upto_region 3 with fail; refine wp_region_list ?_; refine xpL (.bool true) ?_; refine xpL (.bool false) ?_; refine xpL (.bool false) ?_; refine xpL (.pointer (some ⟨Ra,0,none⟩)) ?_; refine xpL (.bool false) ?_; refine xpL (.bool false) ?_; refine xT ?_; go_upto_region 5 with fail; refine wp_region_list ?_
 have V_A:OwnI (w2.alloc (.cells #[] 3)) w0.heap.size [] (.slice (some ⟨w2.heap.size,0,none⟩) 0 0):=World.ownsRow_lit (base:=w0.heap.size) (e:=3) (size:=1) w2 #[] 0 M.below.size (Nat.zero_le _) rfl
 have hlb:=(Below.refl w2.heap.size w2).alloc (xnR _) (.cells #[] 3); refine actL (w':=w2.alloc (.cells #[] 3)) (.slice (some ⟨w2.heap.size,0,none⟩) 0 0) rfl (by kernel_rfl) ?_; simp only [aP,lI,l0,lS]; replace hIa:=hK.bel hIa hlb
 have M':=M.rowNil #[] 3
 clear M hlb
 obtain ⟨sA0,hsu⟩:∃ su,su=(some ⟨w2.heap.size,0,none⟩:Option Addr):=⟨_,rfl⟩
 rw [← hsu] at M' V_A ⊢
 generalize w2.alloc (.cells #[] 3)=w3 at M' V_A hIa ⊢; have M:=M'.perm (pull0 ([]:List (Nat × List Value)) (obs sA0) (ba0++([]:List (Nat × List Value)))).symm; clear M' hsu
 replace M:Mm w0 (((obs sA0)++(ba0++([]:List (Nat × List Value))))) w3:=M
 refine xpL (.slice sA0 0 0) ?_; refine xT ?_; go_upto_region 6 with fail; refine wp_region_list ?_; refine xpL (.int .i64 0) ?_; refine xT ?_; have HI:=show Hid _ from (show I w3 (.pointer (some ⟨Ra,0,none⟩)) (fs5 (-1) 0 (fun _=>flg0)) ba0∧OwnI w3 w0.heap.size (lv5 0) (.slice sA0 (lv5 0).length 0)∧Mm w0 ((obs sA0)++(ba0++([]:List (Nat × List Value)))) w3 from ⟨hIa,V_A,M⟩)
 clear M hIa V_A; go_wp2
 go_loopw [5,6] (fun l_ i_ w'=>∃ (i:Nat) (sA:Option Addr) (cA:Nat) (ga:List (Nat × List Value)),i≤16∧i≤rtt.length∧l_=.slice sA (lv5 i).length cA∧i_=.int .i64 (i:Int)∧I w' (.pointer (some ⟨Ra,0,none⟩)) (fs5 (-1) i (fun _=>flg0)) ga∧OwnI w' w0.heap.size (lv5 i) (.slice sA (lv5 i).length cA)∧Mm w0 ((obs sA)++(ga++([]:List (Nat × List Value)))) w') (fun _ i_ _=>16-(intOf i_).toNat)
 case atStart=>exact ⟨0,sA0,0,_,by omega,by omega,rfl,rfl,HI.out⟩
 case round =>
  clear HI
  obtain ⟨i,sA,cA,ga,hi,hil,rfl,rfl,hIa,V_A,M⟩:=hrel
  by_cases hir:i<rtt.length
  · by_cases hi16:i<16
    · go_upto_region 7 with fail
      refine wp_region_list ?_; refine xpL (.int .i64 ((i:Nat):Int)) ?_; refine xpL (.slice sp rtt.length cap) ?_; refine xaL (.int .i64 ((rtt.length:Nat):Int)) (lenS _ 29 3 sp rtt.length cap rfl Try.underlying29 rfl _) ?_; refine xaL (.bool true) (lssI .i64 _ _ _ _ _ _ rfl rfl rfl true (decide_eq_true (by omega)) _) ?_; refine xpL (.bool true) ?_
      refine xpL (.int .i64 ((i:Nat):Int)) ?_; refine xaL (.bool true) (lssI .i64 _ _ _ _ _ _ rfl rfl rfl true (decide_eq_true (by omega)) _) ?_; refine xpL (.bool true) ?_; refine xT ?_; go_upto_region 9 with fail; refine wp_region_list ?_; refine xpL (.slice sA ((lv5 i).length) cA) ?_; refine xpL (.int .i64 ((i:Nat):Int)) ?_
      refine xaL (.int .i64 ((5*i:Nat):Int)) (mulI .i64 _ _ _ _ _ _ _ rfl rfl rfl (by rw [xw6]; omega) _) ?_; have hlb:=(Below.refl wr.heap.size wr).alloc (xnR _) (.cells #[.int .i64 ((5*i:Nat):Int)] 3); refine actL (w':=wr.alloc (.cells #[.int .i64 ((5*i:Nat):Int)] 3)) (.slice (some ⟨wr.heap.size,0,none⟩) 1 1) rfl (by kernel_rfl) ?_; simp only [aP,lI,l0,lS]
      replace hIa:=hK.bel hIa hlb; replace V_A:=Own.below V_A hlb; replace M:=M.box #[.int .i64 ((5*i:Nat):Int)] 3 wr.heap.size rfl; clear hlb; generalize wr.alloc (.cells #[.int .i64 ((5*i:Nat):Int)] 3)=w4 at M hIa V_A ⊢; generalize wr.heap.size=B4 at M ⊢
      replace M:Mm w0 ((B4,[.int .i64 ((5*i:Nat):Int)])::((obs sA)++(ga++([]:List (Nat × List Value))))) w4:=M
      obtain ⟨v2,w5,hr,V2,hgr,hg2⟩:=run_append_Own (P:=Try.prog) (ty:=29) Try.underlying29 one64 V_A (some ⟨B4,0,none⟩) 1 1 (bl [((5*i:Nat):Int)]) (M.srcI mS [((5*i:Nat):Int)] rfl) (fun e=>by cases e) (by unfold maxLen; rw [lv5_len]; omega) (by rw [lv5_len]; omega) M.below.size
      have Mp:=M.perm (pull0 ([(B4,[.int .i64 ((5*i:Nat):Int)])]:List (Nat × List Value)) (obs sA) (ga++([]:List (Nat × List Value))))
      have V3:OwnI w5 w0.heap.size ((lv5 i)++[((5*i:Nat):Int)]) v2:=OwnI.app V2
      obtain ⟨sA5,cA5,rfl,_,_⟩:=row_form16 V2
      have M':=Mp.rowApp V_A hgr V2 hg2 (xnR _)
      have oS:Off (ob sA) w4 w5:=(Off.refl (ob sA) w4).grown hgr (fun b_ hb_=>.inl ((ob_own _ _ _ _).1 hb_))
      replace hIa:=hK.off _ _ _ _ _ _ hIa oS (fun b_ hb_=>Mp.awayG (fun p_ hp_=>by simp [hp_]) b_ (by rw [obs_fst]; exact hb_)); refine xaL _ (appendOp _ _ 29 _ _ _ rfl rfl rfl hr) ?_; clear hr hgr hg2 V_A oS Mp M V2
      have hlA:(lv5 i).length+1=(lv5 (i+1)).length:=by rw [lv5_len,lv5_len]
      rw [hlA] at ⊢
      rw [← lv5_succ i] at V3
      have V_A:OwnI w5 w0.heap.size (lv5 (i+1)) (.slice sA5 (lv5 (i+1)).length cA5):=by rw [← hlA]; exact V3
      clear V3
      have M:Mm w0 ((B4,[.int .i64 ((5*i:Nat):Int)])::((obs sA5)++(ga++([]:List (Nat × List Value))))) w5:=M'.perm (pull0 ([(B4,[.int .i64 ((5*i:Nat):Int)])]:List (Nat × List Value)) (obs sA5) (ga++([]:List (Nat × List Value)))).symm
      clear M' hlA; refine xpL (.slice sA5 ((lv5 (i+1)).length) cA5) ?_; refine xT ?_; go_upto_region 10 with fail; refine wp_region_list ?_; refine xpL (.pointer (some ⟨Ra,0,none⟩)) ?_; refine xpL (.int .i64 ((i:Nat):Int)) ?_; refine xaL (.int .i64 ((5*i:Nat):Int)) (mulI .i64 _ _ _ _ _ _ _ rfl rfl rfl (by rw [xw6]; omega) _) ?_
      have Mp:=M.perm (pull1 ([(B4,[.int .i64 ((5*i:Nat):Int)])]:List (Nat × List Value)) (obs sA5) ga ([]:List (Nat × List Value)))
      have key:=hK.opn w0 _ _ (fs5 (-1) i (fun _=>flg0)) ga _ ((5*i:Nat):Int) (fs5_w (by decide) (by decide) (by omega) (fun _=>flg0_w)) (Nat.lt_of_le_of_lt (fs5_sz _ (fun _=>show fsz flg0≤8 by decide) _) (by omega)) (by unfold i64; omega) hIa Mp
      rw [sop_fl5 (-1) i (fun _=>flg0) rfl] at key
      refine xcL key ?_; clear key; rintro e w6 ⟨ba1,rfl,hI_,M',o1⟩; replace V_A:=ownsRow_away V_A o1 (Mp.awayS (fun p_ hp_=>by simp [hp_])); clear o1 Mp M hIa; have hIa:=hI_; clear hI_
      have M:Mm w0 ((B4,[.int .i64 ((5*i:Nat):Int)])::(ba1++((obs sA5)++([]:List (Nat × List Value))))) w6:=M'.perm (pull0 ([(B4,[.int .i64 ((5*i:Nat):Int)])]:List (Nat × List Value)) ba1 ((obs sA5)++([]:List (Nat × List Value)))).symm
      clear M'; refine xeL ?_; refine xT ?_; replace M:=(M.perm (pull1 ([(B4,[.int .i64 ((5*i:Nat):Int)])]:List (Nat × List Value)) ba1 (obs sA5) ([]:List (Nat × List Value)))).perm (pull0 ([(B4,[.int .i64 ((5*i:Nat):Int)])]:List (Nat × List Value)) (obs sA5) (ba1++([]:List (Nat × List Value)))).symm
      replace M:Mm w0 ((B4,[.int .i64 ((5*i:Nat):Int)])::((obs sA5)++(ba1++([]:List (Nat × List Value))))) w6:=M
      have M2:Mm w0 ((obs sA5)++(ba1++([]:List (Nat × List Value)))) w6:=M.tail
      have HS:=show Hid _ from (show I w6 (.pointer (some ⟨Ra,0,none⟩)) (fs5 (-1) (i+1) (fun _=>flg0)) ba1∧OwnI w6 w0.heap.size (lv5 (i+1)) (.slice sA5 (lv5 (i+1)).length cA5)∧Mm w0 ((obs sA5)++(ba1++([]:List (Nat × List Value)))) w6 from ⟨hIa,V_A,M2⟩); clear M M2 hIa V_A; go_wp2
      go_roundw
      case rel=>exact ⟨i+1,_,_,_,by omega,by omega,rfl,by go_num,HS.out⟩
      case measure=>simp [intOf]; omega
    · as_aux_lemma =>
       go_upto_region 7 with fail; refine wp_region_list ?_; refine xpL (.int .i64 ((i:Nat):Int)) ?_; refine xpL (.slice sp rtt.length cap) ?_; refine xaL (.int .i64 ((rtt.length:Nat):Int)) (lenS _ 29 3 sp rtt.length cap rfl Try.underlying29 rfl _) ?_; refine xaL (.bool true) (lssI .i64 _ _ _ _ _ _ rfl rfl rfl true (decide_eq_true (by omega)) _) ?_; refine xpL (.bool true) ?_
       refine xpL (.int .i64 ((i:Nat):Int)) ?_; refine xaL (.bool false) (lssI .i64 _ _ _ _ _ _ rfl rfl rfl false (decide_eq_false (by omega)) _) ?_; refine xpL (.bool false) ?_; refine xT ?_
       obtain ⟨m,hm⟩:∃ m_,m_=i:=⟨_,rfl⟩
       subst hm
       have hm16:m≤16:=hi
       have hml:m≤rtt.length:=hil
       go_upto_region 11 with fail; refine wp_region_list ?_; refine xpL (.int .i64 0) ?_; refine xT ?_; have HI:=show Hid _ from (show I wr (.pointer (some ⟨Ra,0,none⟩)) (fs5 (-1) m (uf5 (fun _=>false))) ga∧OwnI wr w0.heap.size (lv5 m) (.slice sA (lv5 m).length cA)∧Mm w0 ((obs sA)++(ga++([]:List (Nat × List Value)))) wr from ⟨hIa,V_A,M⟩); clear M hIa V_A; go_wp2
       go_loopw [7] (fun n_ w'=>∃ (n:Nat) (u:Nat→Bool) (last:Int) (ga:List (Nat × List Value)),n≤m∧Hid (ucn u m=n)∧-1≤last∧last<9223372036854775808∧n_=.int .i64 (n:Int)∧I w' (.pointer (some ⟨Ra,0,none⟩)) (fs5 last m (uf5 u)) ga∧OwnI w' w0.heap.size (lv5 m) (.slice sA (lv5 m).length cA)∧Mm w0 ((obs sA)++(ga++([]:List (Nat × List Value)))) w') (fun n_ _=>m-(intOf n_).toNat)
       case atStart=>exact ⟨0,fun _=>false,-1,_,Nat.zero_le _,ucn_none m,by decide,by decide,rfl,HI.out⟩
       case round =>
        clear HI
        obtain ⟨n,u,last,ga,hn,hcn,hl1,hl2,rfl,hIa,V_A,M⟩:=hrel
        by_cases hnm2:n<m
        · go_upto_region 12 with fail
          refine wp_region_list ?_; refine xpL (.int .i64 ((n:Nat):Int)) ?_; refine xpL (.slice sA ((lv5 m).length) cA) ?_; refine readL (.int .i64 (((lv5 m).length:Nat):Int)) rfl (lenS _ 29 3 sA ((lv5 m).length) cA rfl Try.underlying29 rfl _) ?_; simp only [aP,lI,l0,lS]; refine xaL (.bool true) (lssI .i64 _ _ _ _ _ _ rfl rfl rfl true (decide_eq_true (by rw [lv5_len]; omega)) _) ?_
          refine xT ?_; go_upto_region 14 with fail; refine wp_region_list ?_; refine xpL (.int .i64 (-1)) ?_; refine xT ?_; go_upto_region 15 with fail; refine wp_region_list ?_; refine xpL (.int .i64 0) ?_; refine xT ?_
          obtain ⟨fr,hfr,hufr⟩:=ucn_free u m (by have:=hcn.out; omega)
          obtain ⟨adA,hgA⟩:=SrcI.some21 (OwnI.src21 V_A) (by rw [lv5_len]; omega)
          obtain ⟨adR,hgR⟩:=SrcI.some21 hsrc (by omega)
          have HI:=show Hid _ from (show I wr (.pointer (some ⟨Ra,0,none⟩)) (fs5 last m (uf5 u)) ga∧OwnI wr w0.heap.size (lv5 m) (.slice sA (lv5 m).length cA)∧Mm w0 ((obs sA)++(ga++([]:List (Nat × List Value)))) wr from ⟨hIa,V_A,M⟩); clear M hIa V_A; go_wp2
          go_loopw [8,9] (fun b_ k_ w'=>∃ (k:Nat),k≤m∧b_=.int .i64 (bno (bst u (bl rtt) k))∧k_=.int .i64 (k:Int)∧I w' (.pointer (some ⟨Ra,0,none⟩)) (fs5 last m (uf5 u)) ga∧OwnI w' w0.heap.size (lv5 m) (.slice sA (lv5 m).length cA)∧Mm w0 ((obs sA)++(ga++([]:List (Nat × List Value)))) w') (fun _ k_ _=>m-(intOf k_).toNat)
          case atStart=>exact ⟨0,Nat.zero_le _,rfl,rfl,HI.out⟩
          case round =>
           clear HI
           obtain ⟨k,hk,rfl,rfl,hIa,V_A,M⟩:=hrel
           by_cases hk2:k<m
           · have hkm:k<m:=hk2
             have hkr:k<rtt.length:=by omega
             cases huk:u k with
             | true =>
               go_upto_region 16 with fail; refine wp_region_list ?_; refine xpL (.int .i64 ((k:Nat):Int)) ?_; refine xpL (.slice sA ((lv5 m).length) cA) ?_; refine readL (.int .i64 (((lv5 m).length:Nat):Int)) rfl (lenS _ 29 3 sA ((lv5 m).length) cA rfl Try.underlying29 rfl _) ?_; simp only [aP,lI,l0,lS]
               refine xaL (.bool true) (lssI .i64 _ _ _ _ _ _ rfl rfl rfl true (decide_eq_true (by rw [lv5_len]; omega)) _) ?_; refine xT ?_; go_upto_region 18 with fail; have hdr:=(Below.refl wr.heap.size wr).drew; replace M:=M.drew; replace hIa:=hK.bel hIa hdr; replace V_A:=Own.below V_A hdr; clear hdr
               refine wp_region_held_drew (S:=fun w'=>OwnI w' w0.heap.size (lv5 m) (.slice sA (lv5 m).length cA)∧Below w0.heap.size w0 w') (by kernel_rfl) ⟨V_A,M.below⟩ ?_; intro _; generalize wr.drew=w22 at M hIa V_A ⊢; refine xrH 0 55 rfl (.pointer (some ⟨Ra,0,none⟩)) (fun _ hS=>(by kernel_rfl)) ⟨V_A,M.below⟩ ?_
               refine xrH 1 56 rfl (.slice sA ((lv5 m).length) cA) (fun _ hS=>(by kernel_rfl)) ⟨V_A,M.below⟩ ?_; refine xrH 2 57 rfl (.int .i64 ((k:Nat):Int)) (fun _ hS=>(by kernel_rfl)) ⟨V_A,M.below⟩ ?_
               refine xrH 3 58 rfl (.pointer (some (adA.add k))) (fun _ hS=>idxSlE 29 3 _ _ .i64 _ adA hgA k _ _ Try.underlying29 (fun _=>by kernel_rfl) (by rw [lv5_len]; exact hkm) rfl rfl rfl _) ⟨V_A,M.below⟩ ?_
               refine xrH 4 59 rfl (.int .i64 ((5*k:Nat):Int)) (fun _ hS=>load1 3 _ (adA.add k) _ rfl rfl (fun _=>by kernel_rfl) ((SrcI.atE21 (OwnI.src21 hS.1) hgA (by rw [lv5_len]; exact hkm)).trans (by rw [lv5_bl hkm]))) ⟨V_A,M.below⟩ ?_; refine xrH 6 61 rfl (.pointer (some ⟨Ra,0,none⟩)) (fun _ hS=>(by kernel_rfl)) ⟨V_A,M.below⟩ ?_
               refine xrH 7 62 rfl (.slice sA ((lv5 m).length) cA) (fun _ hS=>(by kernel_rfl)) ⟨V_A,M.below⟩ ?_; refine xrH 8 63 rfl (.int .i64 ((k:Nat):Int)) (fun _ hS=>(by kernel_rfl)) ⟨V_A,M.below⟩ ?_
               refine xrH 9 64 rfl (.pointer (some (adA.add k))) (fun _ hS=>idxSlE 29 3 _ _ .i64 _ adA hgA k _ _ Try.underlying29 (fun _=>by kernel_rfl) (by rw [lv5_len]; exact hkm) rfl rfl rfl _) ⟨V_A,M.below⟩ ?_
               refine xrH 10 65 rfl (.int .i64 ((5*k:Nat):Int)) (fun _ hS=>load1 3 _ (adA.add k) _ rfl rfl (fun _=>by kernel_rfl) ((SrcI.atE21 (OwnI.src21 hS.1) hgA (by rw [lv5_len]; exact hkm)).trans (by rw [lv5_bl hkm]))) ⟨V_A,M.below⟩ ?_; have Mp:=M.perm (pull1 ([]:List (Nat × List Value)) (obs sA) ga ([]:List (Nat × List Value)))
               have key:=hK.und w0 _ _ (fs5 last m (uf5 u)) ga _ ((5*k:Nat):Int) (fs5_w hl1 hl2 hm16 (uf5_w u)) (Nat.lt_of_le_of_lt (fs5_sz _ (uf5_sz u) _) (by omega)) (by unfold i64; omega) hIa Mp; clear Mp
               rw [(seen_fl5 last m u k hkm).1] at key
               rw [if_pos huk] at key
               refine callH (i:=5) (some 60) rfl (by kernel_rfl) rfl rfl (fun _=>by kernel_rfl) key ?_; clear key; rintro e w23 ⟨rfl,l_⟩; replace M:=M.call l_; replace hIa:=hK.bel hIa l_; replace V_A:=Own.below V_A l_; clear l_
               refine ⟨_,rfl,⟨V_A,M.below⟩,?_⟩
               simp only [aP,lI,l0,lS]; have Mp:=M.perm (pull1 ([]:List (Nat × List Value)) (obs sA) ga ([]:List (Nat × List Value))); have key:=hK.win w0 _ _ (fs5 last m (uf5 u)) ga _ ((5*k:Nat):Int) (fs5_w hl1 hl2 hm16 (uf5_w u)) (Nat.lt_of_le_of_lt (fs5_sz _ (uf5_sz u) _) (by omega)) (by unfold i64; omega) hIa Mp; clear Mp
               rw [(seen_fl5 last m u k hkm).2] at key
               refine callH (i:=11) (some 66) rfl (by kernel_rfl) rfl rfl (fun _=>by kernel_rfl) key ?_; clear key; rintro e w24 ⟨rfl,l_⟩; replace M:=M.call l_; replace hIa:=hK.bel hIa l_; replace V_A:=Own.below V_A l_; clear l_
               refine ⟨_,rfl,⟨V_A,M.below⟩,?_⟩
               simp only [aP,lI,l0,lS]; refine xrH 12 67 rfl (.bool false) (fun _ hS=>lssI .i64 _ _ _ _ _ _ rfl rfl rfl false rfl _) ⟨V_A,M.below⟩ ?_; refine xrH 13 68 rfl (.bool false) (fun _ hS=>(by kernel_rfl)) ⟨V_A,M.below⟩ ?_
               refine mayH (i:=14) (some 69) rfl false undef undef rfl rfl rfl (fun hc=>by cases hc) (by kernel_rfl) (by kernel_rfl) (by kernel_rfl) (fun _ _ _ h=>h) ⟨V_A,M.below⟩ ?_; simp only [aP,lI,l0,lS]; refine mayH (i:=15) (some 70) rfl false undef undef rfl rfl rfl (fun hc=>by cases hc) (by kernel_rfl) (by kernel_rfl) (by kernel_rfl) (fun _ _ _ h=>h) ⟨V_A,M.below⟩ ?_
               simp only [aP,lI,l0,lS]; refine mayH (i:=16) (some 71) rfl false undef undef rfl rfl rfl (fun hc=>by cases hc) (by kernel_rfl) (by kernel_rfl) (by kernel_rfl) (fun _ _ _ h=>h) ⟨V_A,M.below⟩ ?_; simp only [aP,lI,l0,lS]
               refine mayH (i:=17) (some 72) rfl false undef undef rfl rfl rfl (fun hc=>by cases hc) (by kernel_rfl) (by kernel_rfl) (by kernel_rfl) (fun _ _ _ h=>h) ⟨V_A,M.below⟩ ?_; simp only [aP,lI,l0,lS]; refine mayH (i:=18) (some 73) rfl false undef undef rfl rfl rfl (fun hc=>by cases hc) (by kernel_rfl) (by kernel_rfl) (by kernel_rfl) (fun _ _ _ h=>h) ⟨V_A,M.below⟩ ?_
               simp only [aP,lI,l0,lS]; refine mayH (i:=19) (some 74) rfl false undef undef rfl rfl rfl (fun hc=>by cases hc) (by kernel_rfl) (by kernel_rfl) (by kernel_rfl) (fun _ _ _ h=>h) ⟨V_A,M.below⟩ ?_; simp only [aP,lI,l0,lS]
               refine mayH (i:=20) (some 75) rfl false undef undef rfl rfl rfl (fun hc=>by cases hc) (by kernel_rfl) (by kernel_rfl) (by kernel_rfl) (fun _ _ _ h=>h) ⟨V_A,M.below⟩ ?_; simp only [aP,lI,l0,lS]; refine mayH (i:=21) (some 76) rfl false undef undef rfl rfl rfl (fun hc=>by cases hc) (by kernel_rfl) (by kernel_rfl) (by kernel_rfl) (fun _ _ _ h=>h) ⟨V_A,M.below⟩ ?_
               simp only [aP,lI,l0,lS]; refine mayH (i:=22) (some 77) rfl false undef undef rfl rfl rfl (fun hc=>by cases hc) (by kernel_rfl) (by kernel_rfl) (by kernel_rfl) (fun _ _ _ h=>h) ⟨V_A,M.below⟩ ?_; simp only [aP,lI,l0,lS]
               refine mayH (i:=23) (some 78) rfl false undef undef rfl rfl rfl (fun hc=>by cases hc) (by kernel_rfl) (by kernel_rfl) (by kernel_rfl) (fun _ _ _ h=>h) ⟨V_A,M.below⟩ ?_; simp only [aP,lI,l0,lS]; refine mayH (i:=24) (some 79) rfl false undef undef rfl rfl rfl (fun hc=>by cases hc) (by kernel_rfl) (by kernel_rfl) (by kernel_rfl) (fun _ _ _ h=>h) ⟨V_A,M.below⟩ ?_
               simp only [aP,lI,l0,lS]; refine mayH (i:=25) (some 80) rfl false undef undef rfl rfl rfl (fun hc=>by cases hc) (by kernel_rfl) (by kernel_rfl) (by kernel_rfl) (fun _ _ _ h=>h) ⟨V_A,M.below⟩ ?_; simp only [aP,lI,l0,lS]
               refine mayH (i:=26) (some 81) rfl false undef undef rfl rfl rfl (fun hc=>by cases hc) (by kernel_rfl) (by kernel_rfl) (by kernel_rfl) (fun _ _ _ h=>h) ⟨V_A,M.below⟩ ?_; simp only [aP,lI,l0,lS]; refine xrH 27 82 rfl (.bool false) (fun _ hS=>(by kernel_rfl)) ⟨V_A,M.below⟩ ?_
               refine wpAnyH_done (by kernel_rfl) ?_ _
               first | show Exit.then _ _ _ _ _ | show Exit.inBlock _ _ _ _ _
               have hb9:=show Hid _ from (show bst u (bl rtt) (k+1)=bst u (bl rtt) k from (bst_succ u (bl rtt) k).trans (if_neg (fun h_=>by first | (rw [huk] at h_; cases h_.1; done) | exact hcl (h_.2 bx hbx))))
               have HS:=show Hid _ from (show I w24 (.pointer (some ⟨Ra,0,none⟩)) (fs5 last m (uf5 u)) ga∧OwnI w24 w0.heap.size (lv5 m) (.slice sA (lv5 m).length cA)∧Mm w0 ((obs sA)++(ga++([]:List (Nat × List Value)))) w24 from ⟨hIa,V_A,M⟩); clear M hIa V_A; go_wp2
               go_roundw
               case rel=>exact ⟨k+1,by omega,by rw [hb9.out] <;> rfl,by go_num,HS.out⟩
               case measure=>simp [intOf]; omega
             | false =>
               cases hbx:bst u (bl rtt) k with
               | none =>
                 go_upto_region 16 with fail; refine wp_region_list ?_; refine xpL (.int .i64 ((k:Nat):Int)) ?_; refine xpL (.slice sA ((lv5 m).length) cA) ?_; refine readL (.int .i64 (((lv5 m).length:Nat):Int)) rfl (lenS _ 29 3 sA ((lv5 m).length) cA rfl Try.underlying29 rfl _) ?_; simp only [aP,lI,l0,lS]
                 refine xaL (.bool true) (lssI .i64 _ _ _ _ _ _ rfl rfl rfl true (decide_eq_true (by rw [lv5_len]; omega)) _) ?_; refine xT ?_; go_upto_region 18 with fail; have hdr:=(Below.refl wr.heap.size wr).drew; replace M:=M.drew; replace hIa:=hK.bel hIa hdr; replace V_A:=Own.below V_A hdr; clear hdr
                 refine wp_region_held_drew (S:=fun w'=>OwnI w' w0.heap.size (lv5 m) (.slice sA (lv5 m).length cA)∧Below w0.heap.size w0 w') (by kernel_rfl) ⟨V_A,M.below⟩ ?_; intro _; generalize wr.drew=w25 at M hIa V_A ⊢; refine xrH 0 55 rfl (.pointer (some ⟨Ra,0,none⟩)) (fun _ hS=>(by kernel_rfl)) ⟨V_A,M.below⟩ ?_
                 refine xrH 1 56 rfl (.slice sA ((lv5 m).length) cA) (fun _ hS=>(by kernel_rfl)) ⟨V_A,M.below⟩ ?_; refine xrH 2 57 rfl (.int .i64 ((k:Nat):Int)) (fun _ hS=>(by kernel_rfl)) ⟨V_A,M.below⟩ ?_
                 refine xrH 3 58 rfl (.pointer (some (adA.add k))) (fun _ hS=>idxSlE 29 3 _ _ .i64 _ adA hgA k _ _ Try.underlying29 (fun _=>by kernel_rfl) (by rw [lv5_len]; exact hkm) rfl rfl rfl _) ⟨V_A,M.below⟩ ?_
                 refine xrH 4 59 rfl (.int .i64 ((5*k:Nat):Int)) (fun _ hS=>load1 3 _ (adA.add k) _ rfl rfl (fun _=>by kernel_rfl) ((SrcI.atE21 (OwnI.src21 hS.1) hgA (by rw [lv5_len]; exact hkm)).trans (by rw [lv5_bl hkm]))) ⟨V_A,M.below⟩ ?_; refine xrH 6 61 rfl (.pointer (some ⟨Ra,0,none⟩)) (fun _ hS=>(by kernel_rfl)) ⟨V_A,M.below⟩ ?_
                 refine xrH 7 62 rfl (.slice sA ((lv5 m).length) cA) (fun _ hS=>(by kernel_rfl)) ⟨V_A,M.below⟩ ?_; refine xrH 8 63 rfl (.int .i64 ((k:Nat):Int)) (fun _ hS=>(by kernel_rfl)) ⟨V_A,M.below⟩ ?_
                 refine xrH 9 64 rfl (.pointer (some (adA.add k))) (fun _ hS=>idxSlE 29 3 _ _ .i64 _ adA hgA k _ _ Try.underlying29 (fun _=>by kernel_rfl) (by rw [lv5_len]; exact hkm) rfl rfl rfl _) ⟨V_A,M.below⟩ ?_
                 refine xrH 10 65 rfl (.int .i64 ((5*k:Nat):Int)) (fun _ hS=>load1 3 _ (adA.add k) _ rfl rfl (fun _=>by kernel_rfl) ((SrcI.atE21 (OwnI.src21 hS.1) hgA (by rw [lv5_len]; exact hkm)).trans (by rw [lv5_bl hkm]))) ⟨V_A,M.below⟩ ?_; have Mp:=M.perm (pull1 ([]:List (Nat × List Value)) (obs sA) ga ([]:List (Nat × List Value)))
                 have key:=hK.und w0 _ _ (fs5 last m (uf5 u)) ga _ ((5*k:Nat):Int) (fs5_w hl1 hl2 hm16 (uf5_w u)) (Nat.lt_of_le_of_lt (fs5_sz _ (uf5_sz u) _) (by omega)) (by unfold i64; omega) hIa Mp; clear Mp
                 rw [(seen_fl5 last m u k hkm).1] at key
                 rw [if_neg (show ¬ u k=true by rw [huk]; decide)] at key
                 refine callH (i:=5) (some 60) rfl (by kernel_rfl) rfl rfl (fun _=>by kernel_rfl) key ?_; clear key; rintro e w26 ⟨rfl,l_⟩; replace M:=M.call l_; replace hIa:=hK.bel hIa l_; replace V_A:=Own.below V_A l_; clear l_
                 refine ⟨_,rfl,⟨V_A,M.below⟩,?_⟩
                 simp only [aP,lI,l0,lS]; have Mp:=M.perm (pull1 ([]:List (Nat × List Value)) (obs sA) ga ([]:List (Nat × List Value))); have key:=hK.win w0 _ _ (fs5 last m (uf5 u)) ga _ ((5*k:Nat):Int) (fs5_w hl1 hl2 hm16 (uf5_w u)) (Nat.lt_of_le_of_lt (fs5_sz _ (uf5_sz u) _) (by omega)) (by unfold i64; omega) hIa Mp; clear Mp
                 rw [(seen_fl5 last m u k hkm).2] at key
                 refine callH (i:=11) (some 66) rfl (by kernel_rfl) rfl rfl (fun _=>by kernel_rfl) key ?_; clear key; rintro e w27 ⟨rfl,l_⟩; replace M:=M.call l_; replace hIa:=hK.bel hIa l_; replace V_A:=Own.below V_A l_; clear l_
                 refine ⟨_,rfl,⟨V_A,M.below⟩,?_⟩
                 simp only [aP,lI,l0,lS]; refine xrH 12 67 rfl (.bool true) (fun _ hS=>lssI .i64 _ _ _ _ _ _ rfl rfl rfl true rfl _) ⟨V_A,M.below⟩ ?_; refine xrH 13 68 rfl (.bool true) (fun _ hS=>(by kernel_rfl)) ⟨V_A,M.below⟩ ?_; refine xrH 14 69 rfl (.int .i64 (-1)) (fun _ hS=>(by kernel_rfl)) ⟨V_A,M.below⟩ ?_
                 refine xrH 15 70 rfl (.bool true) (fun _ hS=>lssI .i64 _ _ _ _ _ _ rfl rfl rfl true rfl _) ⟨V_A,M.below⟩ ?_; refine xrH 16 71 rfl (.bool true) (fun _ hS=>(by kernel_rfl)) ⟨V_A,M.below⟩ ?_; refine mayH (i:=17) (some 72) rfl false undef undef rfl rfl rfl (fun hc=>by cases hc) (by kernel_rfl) (by kernel_rfl) (by kernel_rfl) (fun _ _ _ h=>h) ⟨V_A,M.below⟩ ?_
                 simp only [aP,lI,l0,lS]; refine mayH (i:=18) (some 73) rfl false undef undef rfl rfl rfl (fun hc=>by cases hc) (by kernel_rfl) (by kernel_rfl) (by kernel_rfl) (fun _ _ _ h=>h) ⟨V_A,M.below⟩ ?_; simp only [aP,lI,l0,lS]
                 refine mayH (i:=19) (some 74) rfl false undef undef rfl rfl rfl (fun hc=>by cases hc) (by kernel_rfl) (by kernel_rfl) (by kernel_rfl) (fun _ _ _ h=>h) ⟨V_A,M.below⟩ ?_; simp only [aP,lI,l0,lS]; refine mayH (i:=20) (some 75) rfl false undef undef rfl rfl rfl (fun hc=>by cases hc) (by kernel_rfl) (by kernel_rfl) (by kernel_rfl) (fun _ _ _ h=>h) ⟨V_A,M.below⟩ ?_
                 simp only [aP,lI,l0,lS]; refine mayH (i:=21) (some 76) rfl false undef undef rfl rfl rfl (fun hc=>by cases hc) (by kernel_rfl) (by kernel_rfl) (by kernel_rfl) (fun _ _ _ h=>h) ⟨V_A,M.below⟩ ?_; simp only [aP,lI,l0,lS]
                 refine mayH (i:=22) (some 77) rfl false undef undef rfl rfl rfl (fun hc=>by cases hc) (by kernel_rfl) (by kernel_rfl) (by kernel_rfl) (fun _ _ _ h=>h) ⟨V_A,M.below⟩ ?_; simp only [aP,lI,l0,lS]; refine mayH (i:=23) (some 78) rfl false undef undef rfl rfl rfl (fun hc=>by cases hc) (by kernel_rfl) (by kernel_rfl) (by kernel_rfl) (fun _ _ _ h=>h) ⟨V_A,M.below⟩ ?_
                 simp only [aP,lI,l0,lS]; refine mayH (i:=24) (some 79) rfl false undef undef rfl rfl rfl (fun hc=>by cases hc) (by kernel_rfl) (by kernel_rfl) (by kernel_rfl) (fun _ _ _ h=>h) ⟨V_A,M.below⟩ ?_; simp only [aP,lI,l0,lS]
                 refine mayH (i:=25) (some 80) rfl false undef undef rfl rfl rfl (fun hc=>by cases hc) (by kernel_rfl) (by kernel_rfl) (by kernel_rfl) (fun _ _ _ h=>h) ⟨V_A,M.below⟩ ?_; simp only [aP,lI,l0,lS]; refine xrH 26 81 rfl (.bool true) (fun _ hS=>(by kernel_rfl)) ⟨V_A,M.below⟩ ?_; refine xrH 27 82 rfl (.bool true) (fun _ hS=>(by kernel_rfl)) ⟨V_A,M.below⟩ ?_
                 refine wpAnyH_done (by kernel_rfl) ?_ _
                 first | show Exit.then _ _ _ _ _ | show Exit.inBlock _ _ _ _ _
                 go_upto_region 19 with fail; refine wp_region_list ?_; refine xpL (.int .i64 ((k:Nat):Int)) ?_; refine xpL (.int .i64 ((k:Nat):Int)) ?_; refine xT ?_
                 have hb9:=show Hid _ from (show bst u (bl rtt) (k+1)=some k from (bst_succ u (bl rtt) k).trans (if_pos ⟨huk,fun b_ hb_=>by rw [hbx] at hb_; first | (cases hb_; done) | (obtain rfl:=Option.some.inj hb_; exact hcl)⟩)); have hbxH:=show Hid _ from hbx
                 have HS:=show Hid _ from (show I w27 (.pointer (some ⟨Ra,0,none⟩)) (fs5 last m (uf5 u)) ga∧OwnI w27 w0.heap.size (lv5 m) (.slice sA (lv5 m).length cA)∧Mm w0 ((obs sA)++(ga++([]:List (Nat × List Value)))) w27 from ⟨hIa,V_A,M⟩); clear M hIa V_A hbx; go_wp2
                 go_roundw
                 case rel=>exact ⟨k+1,by omega,by rw [hb9.out] <;> rfl,by go_num,HS.out⟩
                 case measure=>simp [intOf]; omega
               | some bx =>
                 have hbr:bx<rtt.length:=by have:=(bst_lt u (bl rtt) k bx hbx).1; omega
                 by_cases hcl:bl rtt k<bl rtt bx
                 · go_upto_region 16 with fail
                   refine wp_region_list ?_; refine xpL (.int .i64 ((k:Nat):Int)) ?_; refine xpL (.slice sA ((lv5 m).length) cA) ?_; refine readL (.int .i64 (((lv5 m).length:Nat):Int)) rfl (lenS _ 29 3 sA ((lv5 m).length) cA rfl Try.underlying29 rfl _) ?_; simp only [aP,lI,l0,lS]
                   refine xaL (.bool true) (lssI .i64 _ _ _ _ _ _ rfl rfl rfl true (decide_eq_true (by rw [lv5_len]; omega)) _) ?_; refine xT ?_; go_upto_region 18 with fail; have hdr:=(Below.refl wr.heap.size wr).drew; replace M:=M.drew; replace hIa:=hK.bel hIa hdr; replace V_A:=Own.below V_A hdr; clear hdr
                   refine wp_region_held_drew (S:=fun w'=>OwnI w' w0.heap.size (lv5 m) (.slice sA (lv5 m).length cA)∧Below w0.heap.size w0 w') (by kernel_rfl) ⟨V_A,M.below⟩ ?_; intro _; generalize wr.drew=w28 at M hIa V_A ⊢; refine xrH 0 55 rfl (.pointer (some ⟨Ra,0,none⟩)) (fun _ hS=>(by kernel_rfl)) ⟨V_A,M.below⟩ ?_
                   refine xrH 1 56 rfl (.slice sA ((lv5 m).length) cA) (fun _ hS=>(by kernel_rfl)) ⟨V_A,M.below⟩ ?_; refine xrH 2 57 rfl (.int .i64 ((k:Nat):Int)) (fun _ hS=>(by kernel_rfl)) ⟨V_A,M.below⟩ ?_
                   refine xrH 3 58 rfl (.pointer (some (adA.add k))) (fun _ hS=>idxSlE 29 3 _ _ .i64 _ adA hgA k _ _ Try.underlying29 (fun _=>by kernel_rfl) (by rw [lv5_len]; exact hkm) rfl rfl rfl _) ⟨V_A,M.below⟩ ?_
                   refine xrH 4 59 rfl (.int .i64 ((5*k:Nat):Int)) (fun _ hS=>load1 3 _ (adA.add k) _ rfl rfl (fun _=>by kernel_rfl) ((SrcI.atE21 (OwnI.src21 hS.1) hgA (by rw [lv5_len]; exact hkm)).trans (by rw [lv5_bl hkm]))) ⟨V_A,M.below⟩ ?_; refine xrH 6 61 rfl (.pointer (some ⟨Ra,0,none⟩)) (fun _ hS=>(by kernel_rfl)) ⟨V_A,M.below⟩ ?_
                   refine xrH 7 62 rfl (.slice sA ((lv5 m).length) cA) (fun _ hS=>(by kernel_rfl)) ⟨V_A,M.below⟩ ?_; refine xrH 8 63 rfl (.int .i64 ((k:Nat):Int)) (fun _ hS=>(by kernel_rfl)) ⟨V_A,M.below⟩ ?_
                   refine xrH 9 64 rfl (.pointer (some (adA.add k))) (fun _ hS=>idxSlE 29 3 _ _ .i64 _ adA hgA k _ _ Try.underlying29 (fun _=>by kernel_rfl) (by rw [lv5_len]; exact hkm) rfl rfl rfl _) ⟨V_A,M.below⟩ ?_
                   refine xrH 10 65 rfl (.int .i64 ((5*k:Nat):Int)) (fun _ hS=>load1 3 _ (adA.add k) _ rfl rfl (fun _=>by kernel_rfl) ((SrcI.atE21 (OwnI.src21 hS.1) hgA (by rw [lv5_len]; exact hkm)).trans (by rw [lv5_bl hkm]))) ⟨V_A,M.below⟩ ?_; have Mp:=M.perm (pull1 ([]:List (Nat × List Value)) (obs sA) ga ([]:List (Nat × List Value)))
                   have key:=hK.und w0 _ _ (fs5 last m (uf5 u)) ga _ ((5*k:Nat):Int) (fs5_w hl1 hl2 hm16 (uf5_w u)) (Nat.lt_of_le_of_lt (fs5_sz _ (uf5_sz u) _) (by omega)) (by unfold i64; omega) hIa Mp; clear Mp
                   rw [(seen_fl5 last m u k hkm).1] at key
                   rw [if_neg (show ¬ u k=true by rw [huk]; decide)] at key
                   refine callH (i:=5) (some 60) rfl (by kernel_rfl) rfl rfl (fun _=>by kernel_rfl) key ?_; clear key; rintro e w29 ⟨rfl,l_⟩; replace M:=M.call l_; replace hIa:=hK.bel hIa l_; replace V_A:=Own.below V_A l_; clear l_
                   refine ⟨_,rfl,⟨V_A,M.below⟩,?_⟩
                   simp only [aP,lI,l0,lS]; have Mp:=M.perm (pull1 ([]:List (Nat × List Value)) (obs sA) ga ([]:List (Nat × List Value))); have key:=hK.win w0 _ _ (fs5 last m (uf5 u)) ga _ ((5*k:Nat):Int) (fs5_w hl1 hl2 hm16 (uf5_w u)) (Nat.lt_of_le_of_lt (fs5_sz _ (uf5_sz u) _) (by omega)) (by unfold i64; omega) hIa Mp; clear Mp
                   rw [(seen_fl5 last m u k hkm).2] at key
                   refine callH (i:=11) (some 66) rfl (by kernel_rfl) rfl rfl (fun _=>by kernel_rfl) key ?_; clear key; rintro e w30 ⟨rfl,l_⟩; replace M:=M.call l_; replace hIa:=hK.bel hIa l_; replace V_A:=Own.below V_A l_; clear l_
                   refine ⟨_,rfl,⟨V_A,M.below⟩,?_⟩
                   simp only [aP,lI,l0,lS]; refine xrH 12 67 rfl (.bool true) (fun _ hS=>lssI .i64 _ _ _ _ _ _ rfl rfl rfl true rfl _) ⟨V_A,M.below⟩ ?_; refine xrH 13 68 rfl (.bool true) (fun _ hS=>(by kernel_rfl)) ⟨V_A,M.below⟩ ?_; refine xrH 14 69 rfl (.int .i64 ((bx:Nat):Int)) (fun _ hS=>(by kernel_rfl)) ⟨V_A,M.below⟩ ?_
                   refine xrH 15 70 rfl (.bool false) (fun _ hS=>lssI .i64 _ _ _ _ _ _ rfl rfl rfl false (decide_eq_false (show ¬ ((bx:Nat):Int)<0 by omega)) _) ⟨V_A,M.below⟩ ?_; refine xrH 16 71 rfl (.bool false) (fun _ hS=>(by kernel_rfl)) ⟨V_A,M.below⟩ ?_; refine xrH 17 72 rfl (.slice sp rtt.length cap) (fun _ hS=>(by kernel_rfl)) ⟨V_A,M.below⟩ ?_
                   refine xrH 18 73 rfl (.int .i64 ((k:Nat):Int)) (fun _ hS=>(by kernel_rfl)) ⟨V_A,M.below⟩ ?_; refine xrH 19 74 rfl (.pointer (some (adR.add k))) (fun _ hS=>idxSlE 29 3 _ _ .i64 _ adR hgR k _ _ Try.underlying29 (fun _=>by kernel_rfl) hkr rfl rfl rfl _) ⟨V_A,M.below⟩ ?_
                   refine xrH 20 75 rfl (.int .i64 (bl rtt k)) (fun _ hS=>load1 3 _ (adR.add k) _ rfl rfl (fun _=>by kernel_rfl) (SrcI.atE21 (SrcI.below hsrc hS.2 (xnR _)) hgR hkr)) ⟨V_A,M.below⟩ ?_; refine xrH 21 76 rfl (.slice sp rtt.length cap) (fun _ hS=>(by kernel_rfl)) ⟨V_A,M.below⟩ ?_
                   refine xrH 22 77 rfl (.int .i64 ((bx:Nat):Int)) (fun _ hS=>(by kernel_rfl)) ⟨V_A,M.below⟩ ?_; refine xrH 23 78 rfl (.pointer (some (adR.add bx))) (fun _ hS=>idxSlE 29 3 _ _ .i64 _ adR hgR bx _ _ Try.underlying29 (fun _=>by kernel_rfl) hbr rfl rfl rfl _) ⟨V_A,M.below⟩ ?_
                   refine xrH 24 79 rfl (.int .i64 (bl rtt bx)) (fun _ hS=>load1 3 _ (adR.add bx) _ rfl rfl (fun _=>by kernel_rfl) (SrcI.atE21 (SrcI.below hsrc hS.2 (xnR _)) hgR hbr)) ⟨V_A,M.below⟩ ?_; refine xrH 25 80 rfl (.bool true) (fun _ hS=>lssI .i64 _ _ _ _ _ _ rfl rfl rfl true (decide_eq_true hcl) _) ⟨V_A,M.below⟩ ?_
                   refine xrH 26 81 rfl (.bool true) (fun _ hS=>(by kernel_rfl)) ⟨V_A,M.below⟩ ?_; refine xrH 27 82 rfl (.bool true) (fun _ hS=>(by kernel_rfl)) ⟨V_A,M.below⟩ ?_
                   refine wpAnyH_done (by kernel_rfl) ?_ _
                   first | show Exit.then _ _ _ _ _ | show Exit.inBlock _ _ _ _ _
                   go_upto_region 19 with fail; refine wp_region_list ?_; refine xpL (.int .i64 ((k:Nat):Int)) ?_; refine xpL (.int .i64 ((k:Nat):Int)) ?_; refine xT ?_
                   have hb9:=show Hid _ from (show bst u (bl rtt) (k+1)=some k from (bst_succ u (bl rtt) k).trans (if_pos ⟨huk,fun b_ hb_=>by rw [hbx] at hb_; first | (cases hb_; done) | (obtain rfl:=Option.some.inj hb_; exact hcl)⟩)); have hbxH:=show Hid _ from hbx
                   have HS:=show Hid _ from (show I w30 (.pointer (some ⟨Ra,0,none⟩)) (fs5 last m (uf5 u)) ga∧OwnI w30 w0.heap.size (lv5 m) (.slice sA (lv5 m).length cA)∧Mm w0 ((obs sA)++(ga++([]:List (Nat × List Value)))) w30 from ⟨hIa,V_A,M⟩); clear M hIa V_A hbx; go_wp2
                   go_roundw
                   case rel=>exact ⟨k+1,by omega,by rw [hb9.out] <;> rfl,by go_num,HS.out⟩
                   case measure=>simp [intOf]; omega
                 · go_upto_region 16 with fail
                   refine wp_region_list ?_; refine xpL (.int .i64 ((k:Nat):Int)) ?_; refine xpL (.slice sA ((lv5 m).length) cA) ?_; refine readL (.int .i64 (((lv5 m).length:Nat):Int)) rfl (lenS _ 29 3 sA ((lv5 m).length) cA rfl Try.underlying29 rfl _) ?_; simp only [aP,lI,l0,lS]
                   refine xaL (.bool true) (lssI .i64 _ _ _ _ _ _ rfl rfl rfl true (decide_eq_true (by rw [lv5_len]; omega)) _) ?_; refine xT ?_; go_upto_region 18 with fail; have hdr:=(Below.refl wr.heap.size wr).drew; replace M:=M.drew; replace hIa:=hK.bel hIa hdr; replace V_A:=Own.below V_A hdr; clear hdr
                   refine wp_region_held_drew (S:=fun w'=>OwnI w' w0.heap.size (lv5 m) (.slice sA (lv5 m).length cA)∧Below w0.heap.size w0 w') (by kernel_rfl) ⟨V_A,M.below⟩ ?_; intro _; generalize wr.drew=w31 at M hIa V_A ⊢; refine xrH 0 55 rfl (.pointer (some ⟨Ra,0,none⟩)) (fun _ hS=>(by kernel_rfl)) ⟨V_A,M.below⟩ ?_
                   refine xrH 1 56 rfl (.slice sA ((lv5 m).length) cA) (fun _ hS=>(by kernel_rfl)) ⟨V_A,M.below⟩ ?_; refine xrH 2 57 rfl (.int .i64 ((k:Nat):Int)) (fun _ hS=>(by kernel_rfl)) ⟨V_A,M.below⟩ ?_
                   refine xrH 3 58 rfl (.pointer (some (adA.add k))) (fun _ hS=>idxSlE 29 3 _ _ .i64 _ adA hgA k _ _ Try.underlying29 (fun _=>by kernel_rfl) (by rw [lv5_len]; exact hkm) rfl rfl rfl _) ⟨V_A,M.below⟩ ?_
                   refine xrH 4 59 rfl (.int .i64 ((5*k:Nat):Int)) (fun _ hS=>load1 3 _ (adA.add k) _ rfl rfl (fun _=>by kernel_rfl) ((SrcI.atE21 (OwnI.src21 hS.1) hgA (by rw [lv5_len]; exact hkm)).trans (by rw [lv5_bl hkm]))) ⟨V_A,M.below⟩ ?_; refine xrH 6 61 rfl (.pointer (some ⟨Ra,0,none⟩)) (fun _ hS=>(by kernel_rfl)) ⟨V_A,M.below⟩ ?_
                   refine xrH 7 62 rfl (.slice sA ((lv5 m).length) cA) (fun _ hS=>(by kernel_rfl)) ⟨V_A,M.below⟩ ?_; refine xrH 8 63 rfl (.int .i64 ((k:Nat):Int)) (fun _ hS=>(by kernel_rfl)) ⟨V_A,M.below⟩ ?_
                   refine xrH 9 64 rfl (.pointer (some (adA.add k))) (fun _ hS=>idxSlE 29 3 _ _ .i64 _ adA hgA k _ _ Try.underlying29 (fun _=>by kernel_rfl) (by rw [lv5_len]; exact hkm) rfl rfl rfl _) ⟨V_A,M.below⟩ ?_
                   refine xrH 10 65 rfl (.int .i64 ((5*k:Nat):Int)) (fun _ hS=>load1 3 _ (adA.add k) _ rfl rfl (fun _=>by kernel_rfl) ((SrcI.atE21 (OwnI.src21 hS.1) hgA (by rw [lv5_len]; exact hkm)).trans (by rw [lv5_bl hkm]))) ⟨V_A,M.below⟩ ?_; have Mp:=M.perm (pull1 ([]:List (Nat × List Value)) (obs sA) ga ([]:List (Nat × List Value)))
                   have key:=hK.und w0 _ _ (fs5 last m (uf5 u)) ga _ ((5*k:Nat):Int) (fs5_w hl1 hl2 hm16 (uf5_w u)) (Nat.lt_of_le_of_lt (fs5_sz _ (uf5_sz u) _) (by omega)) (by unfold i64; omega) hIa Mp; clear Mp
                   rw [(seen_fl5 last m u k hkm).1] at key
                   rw [if_neg (show ¬ u k=true by rw [huk]; decide)] at key
                   refine callH (i:=5) (some 60) rfl (by kernel_rfl) rfl rfl (fun _=>by kernel_rfl) key ?_; clear key; rintro e w32 ⟨rfl,l_⟩; replace M:=M.call l_; replace hIa:=hK.bel hIa l_; replace V_A:=Own.below V_A l_; clear l_
                   refine ⟨_,rfl,⟨V_A,M.below⟩,?_⟩
                   simp only [aP,lI,l0,lS]; have Mp:=M.perm (pull1 ([]:List (Nat × List Value)) (obs sA) ga ([]:List (Nat × List Value))); have key:=hK.win w0 _ _ (fs5 last m (uf5 u)) ga _ ((5*k:Nat):Int) (fs5_w hl1 hl2 hm16 (uf5_w u)) (Nat.lt_of_le_of_lt (fs5_sz _ (uf5_sz u) _) (by omega)) (by unfold i64; omega) hIa Mp; clear Mp
                   rw [(seen_fl5 last m u k hkm).2] at key
                   refine callH (i:=11) (some 66) rfl (by kernel_rfl) rfl rfl (fun _=>by kernel_rfl) key ?_; clear key; rintro e w33 ⟨rfl,l_⟩; replace M:=M.call l_; replace hIa:=hK.bel hIa l_; replace V_A:=Own.below V_A l_; clear l_
                   refine ⟨_,rfl,⟨V_A,M.below⟩,?_⟩
                   simp only [aP,lI,l0,lS]; refine xrH 12 67 rfl (.bool true) (fun _ hS=>lssI .i64 _ _ _ _ _ _ rfl rfl rfl true rfl _) ⟨V_A,M.below⟩ ?_; refine xrH 13 68 rfl (.bool true) (fun _ hS=>(by kernel_rfl)) ⟨V_A,M.below⟩ ?_; refine xrH 14 69 rfl (.int .i64 ((bx:Nat):Int)) (fun _ hS=>(by kernel_rfl)) ⟨V_A,M.below⟩ ?_
                   refine xrH 15 70 rfl (.bool false) (fun _ hS=>lssI .i64 _ _ _ _ _ _ rfl rfl rfl false (decide_eq_false (show ¬ ((bx:Nat):Int)<0 by omega)) _) ⟨V_A,M.below⟩ ?_; refine xrH 16 71 rfl (.bool false) (fun _ hS=>(by kernel_rfl)) ⟨V_A,M.below⟩ ?_; refine xrH 17 72 rfl (.slice sp rtt.length cap) (fun _ hS=>(by kernel_rfl)) ⟨V_A,M.below⟩ ?_
                   refine xrH 18 73 rfl (.int .i64 ((k:Nat):Int)) (fun _ hS=>(by kernel_rfl)) ⟨V_A,M.below⟩ ?_; refine xrH 19 74 rfl (.pointer (some (adR.add k))) (fun _ hS=>idxSlE 29 3 _ _ .i64 _ adR hgR k _ _ Try.underlying29 (fun _=>by kernel_rfl) hkr rfl rfl rfl _) ⟨V_A,M.below⟩ ?_
                   refine xrH 20 75 rfl (.int .i64 (bl rtt k)) (fun _ hS=>load1 3 _ (adR.add k) _ rfl rfl (fun _=>by kernel_rfl) (SrcI.atE21 (SrcI.below hsrc hS.2 (xnR _)) hgR hkr)) ⟨V_A,M.below⟩ ?_; refine xrH 21 76 rfl (.slice sp rtt.length cap) (fun _ hS=>(by kernel_rfl)) ⟨V_A,M.below⟩ ?_
                   refine xrH 22 77 rfl (.int .i64 ((bx:Nat):Int)) (fun _ hS=>(by kernel_rfl)) ⟨V_A,M.below⟩ ?_; refine xrH 23 78 rfl (.pointer (some (adR.add bx))) (fun _ hS=>idxSlE 29 3 _ _ .i64 _ adR hgR bx _ _ Try.underlying29 (fun _=>by kernel_rfl) hbr rfl rfl rfl _) ⟨V_A,M.below⟩ ?_
                   refine xrH 24 79 rfl (.int .i64 (bl rtt bx)) (fun _ hS=>load1 3 _ (adR.add bx) _ rfl rfl (fun _=>by kernel_rfl) (SrcI.atE21 (SrcI.below hsrc hS.2 (xnR _)) hgR hbr)) ⟨V_A,M.below⟩ ?_; refine xrH 25 80 rfl (.bool false) (fun _ hS=>lssI .i64 _ _ _ _ _ _ rfl rfl rfl false (decide_eq_false hcl) _) ⟨V_A,M.below⟩ ?_
                   refine xrH 26 81 rfl (.bool false) (fun _ hS=>(by kernel_rfl)) ⟨V_A,M.below⟩ ?_; refine xrH 27 82 rfl (.bool false) (fun _ hS=>(by kernel_rfl)) ⟨V_A,M.below⟩ ?_
                   refine wpAnyH_done (by kernel_rfl) ?_ _
                   first | show Exit.then _ _ _ _ _ | show Exit.inBlock _ _ _ _ _
                   have hb9:=show Hid _ from (show bst u (bl rtt) (k+1)=bst u (bl rtt) k from (bst_succ u (bl rtt) k).trans (if_neg (fun h_=>by first | (rw [huk] at h_; cases h_.1; done) | exact hcl (h_.2 bx hbx)))); have hbxH:=show Hid _ from hbx
                   have HS:=show Hid _ from (show I w33 (.pointer (some ⟨Ra,0,none⟩)) (fs5 last m (uf5 u)) ga∧OwnI w33 w0.heap.size (lv5 m) (.slice sA (lv5 m).length cA)∧Mm w0 ((obs sA)++(ga++([]:List (Nat × List Value)))) w33 from ⟨hIa,V_A,M⟩); clear M hIa V_A hbx; go_wp2
                   go_roundw
                   case rel=>exact ⟨k+1,by omega,by rw [hb9.out] <;> rw [hbxH.out] <;> rfl,by go_num,HS.out⟩
                   case measure=>simp [intOf]; omega
           · obtain rfl:m=k:=by omega
             obtain ⟨b,hb⟩:=bst_some (bl rtt) hufr m hfr
             rw [hb]
             obtain ⟨hbm,hub⟩:=bst_lt u (bl rtt) m b hb
             have hpN:=pick_fl5 last (m:=m) u rtt
             rw [hb] at hpN
             have hpN2:spN (fs5 last m (uf5 u)) (lv5 m) rtt=((5*b:Nat):Int):=hpN
             have hpA:spA (fs5 last m (uf5 u)) (lv5 m) rtt=((5*b:Nat):Int):=by unfold spA; rw [hpN2,if_neg (by omega)]
             have hpB:spB (fs5 last m (uf5 u)) (lv5 m) rtt=true:=by unfold spB; rw [hpN2]; exact decide_eq_true (by omega)
             have hpC:spc (fs5 last m (uf5 u)) (lv5 m) rtt=fs5 ((5*b:Nat):Int) m (uf5 u):=by unfold spc; rw [hpN2,if_neg (by omega)]; rfl
             go_upto_region 16 with fail; refine wp_region_list ?_; refine xpL (.int .i64 ((m:Nat):Int)) ?_; refine xpL (.slice sA ((lv5 m).length) cA) ?_; refine readL (.int .i64 (((lv5 m).length:Nat):Int)) rfl (lenS _ 29 3 sA ((lv5 m).length) cA rfl Try.underlying29 rfl _) ?_; simp only [aP,lI,l0,lS]
             refine xaL (.bool false) (lssI .i64 _ _ _ _ _ _ rfl rfl rfl false (decide_eq_false (by rw [lv5_len]; omega)) _) ?_; refine xT ?_; go_upto_region 20 with fail; refine wp_region_list ?_; refine xpL (.pointer (some ⟨Ra,0,none⟩)) ?_; refine xpL (.slice sA ((lv5 m).length) cA) ?_; refine xpL (.slice sp rtt.length cap) ?_
             have Mp:=M.perm (pull1 ([]:List (Nat × List Value)) (obs sA) ga ([]:List (Nat × List Value)))
             have key:=hK.pck w0 _ _ (fs5 last m (uf5 u)) ga _ (lv5 m) sA cA rtt sp cap (fs5_w hl1 hl2 hm16 (uf5_w u)) (Nat.lt_of_le_of_lt (fs5_sz _ (uf5_sz u) _) (by omega)) (by rw [lv5_len]; omega) (Own.le V_A) (Own.nilCap V_A) (lv5_in (by omega)) (OwnI.src21 V_A) (fun b_ hb_ _=>Mp.awayS (fun p_ hp_=>by simp [hp_]) b_ hb_) (by omega) hcap hnil hri (SrcI.below hsrc M.below (xnR _)) (fun b_ hb_ hne_ hm_=>by have h1_:=SrcI.old21 hsrc (List.length_pos_iff.2 hne_) b_ hm_; have h2_:=Mp.los b_ hb_; omega) hIa Mp
             rw [hpA] at key
             rw [hpB] at key
             rw [hpC] at key
             refine xcL key ?_; clear key; rintro e w34 ⟨ba1,rfl,hI_,M',o1⟩; replace V_A:=ownsRow_away V_A o1 (Mp.awayS (fun p_ hp_=>by simp [hp_])); clear o1 Mp M hIa; have hIa:=hI_; clear hI_
             have M:Mm w0 ((ba1++((obs sA)++([]:List (Nat × List Value))))) w34:=M'.perm (pull0 ([]:List (Nat × List Value)) ba1 ((obs sA)++([]:List (Nat × List Value)))).symm
             clear M'; refine xeL ?_; refine xpL (.tuple #[.int .i64 ((5*b:Nat):Int),.bool true]) ?_; refine xpL (.int .i64 ((5*b:Nat):Int)) ?_; refine xpL (.bool true) ?_; refine xpL (.int .i64 ((5*b:Nat):Int)) ?_; refine xpL (.bool true) ?_; refine xT ?_; go_upto_region 21 with fail; refine wp_region_list ?_; refine xpL (.bool true) ?_; refine xpL (.bool false) ?_
             refine xpL (.bool false) ?_; refine xpL (.int .i64 ((b:Nat):Int)) ?_; refine xaL (.bool false) (lssI .i64 _ _ _ _ _ _ rfl rfl rfl false (decide_eq_false (show ¬ ((b:Nat):Int)<0 by omega)) _) ?_; refine xpL (.bool false) ?_; refine xpL (.bool false) ?_; refine xpL (.int .i64 ((5*b:Nat):Int)) ?_; refine xpL (.slice sA ((lv5 m).length) cA) ?_
             refine xpL (.int .i64 ((b:Nat):Int)) ?_; refine xaL (.pointer (some (adA.add b))) (idxSlE 29 3 _ _ .i64 _ adA hgA b _ _ Try.underlying29 (fun _=>by kernel_rfl) (by rw [lv5_len]; exact hbm) rfl rfl rfl _) ?_
             refine xaL (.int .i64 ((5*b:Nat):Int)) (load1 3 _ (adA.add b) _ rfl rfl (fun _=>by kernel_rfl) ((SrcI.atE21 (OwnI.src21 V_A) hgA (by rw [lv5_len]; exact hbm)).trans (by rw [lv5_bl hbm]))) ?_; refine xaL (.bool false) (neqI .i64 _ _ _ _ _ _ rfl rfl rfl false (by rw [bne_eq_false_iff_eq]) _) ?_; refine xpL (.bool false) ?_; refine xT ?_; go_upto_region 23 with fail
             refine wp_region_list ?_; refine xpL (.int .i64 0) ?_; refine xT ?_; replace M:=(M.perm (pull1 ([]:List (Nat × List Value)) ba1 (obs sA) ([]:List (Nat × List Value)))).perm (pull0 ([]:List (Nat × List Value)) (obs sA) (ba1++([]:List (Nat × List Value)))).symm
             replace M:Mm w0 (((obs sA)++(ba1++([]:List (Nat × List Value))))) w34:=M
             rw [← up5_zero hub] at hIa
             have HI:=show Hid _ from (show I w34 (.pointer (some ⟨Ra,0,none⟩)) (fs5 ((5*b:Nat):Int) m (up5 u b 0)) ba1∧OwnI w34 w0.heap.size (lv5 m) (.slice sA (lv5 m).length cA)∧Mm w0 ((obs sA)++(ba1++([]:List (Nat × List Value)))) w34 from ⟨hIa,V_A,M⟩); clear M hIa V_A hpN hpN2 hpA hpB hpC hb; go_wp2
             go_loopw [12] (fun c_ w'=>∃ (c:Nat) (ga:List (Nat × List Value)),c≤4∧c_=.int .i64 (c:Int)∧I w' (.pointer (some ⟨Ra,0,none⟩)) (fs5 ((5*b:Nat):Int) m (up5 u b c)) ga∧OwnI w' w0.heap.size (lv5 m) (.slice sA (lv5 m).length cA)∧Mm w0 ((obs sA)++(ga++([]:List (Nat × List Value)))) w') (fun c_ _=>4-(intOf c_).toNat)
             case atStart=>exact ⟨0,_,by omega,rfl,HI.out⟩
             case round =>
              clear HI
              obtain ⟨c,ga,hc,rfl,hIa,V_A,M⟩:=hrel
              by_cases hc4:c<4
              · go_upto_region 24 with fail
                refine wp_region_list ?_; refine xpL (.int .i64 ((c:Nat):Int)) ?_; refine xaL (.bool true) (lssI .i64 _ _ _ _ _ _ rfl rfl rfl true (decide_eq_true (by omega)) _) ?_; refine xT ?_; go_upto_region 26 with fail; refine wp_region_list ?_; refine xpL (.pointer (some ⟨Ra,0,none⟩)) ?_; refine xpL (.int .i64 ((5*b:Nat):Int)) ?_; refine xpL (.int .i64 ((c:Nat):Int)) ?_
                have Mp:=M.perm (pull1 ([]:List (Nat × List Value)) (obs sA) ga ([]:List (Nat × List Value)))
                have key:=hK.snt w0 _ _ (fs5 ((5*b:Nat):Int) m (up5 u b c)) ga _ ((5*b:Nat):Int) ((c:Nat):Int) 0 [] none 0 (fs5_w (by omega) (by omega) hm16 (up5_w u b (by omega))) (Nat.lt_of_le_of_lt (fs5_sz _ (up5_sz u b (by omega)) _) (by omega)) (by unfold i64; omega) (by unfold i64; omega) (by unfold i64; decide) (by decide) (fun _ h_=>by cases h_) (RgW.nil0 _) (fun _ _ h_=>absurd rfl h_) hIa Mp
                rw [sent_fl5 _ m u b c hbm hc4] at key
                refine xcL key ?_; clear key; rintro e w35 ⟨ba1,rfl,hI_,M',o1⟩; replace V_A:=ownsRow_away V_A o1 (Mp.awayS (fun p_ hp_=>by simp [hp_])); clear o1 Mp M hIa; have hIa:=hI_; clear hI_
                have M:Mm w0 ((ba1++((obs sA)++([]:List (Nat × List Value))))) w35:=M'.perm (pull0 ([]:List (Nat × List Value)) ba1 ((obs sA)++([]:List (Nat × List Value)))).symm
                clear M'; refine xeL ?_; refine xT ?_; replace M:=(M.perm (pull1 ([]:List (Nat × List Value)) ba1 (obs sA) ([]:List (Nat × List Value)))).perm (pull0 ([]:List (Nat × List Value)) (obs sA) (ba1++([]:List (Nat × List Value)))).symm
                replace M:Mm w0 (((obs sA)++(ba1++([]:List (Nat × List Value))))) w35:=M
                have HS:=show Hid _ from (show I w35 (.pointer (some ⟨Ra,0,none⟩)) (fs5 ((5*b:Nat):Int) m (up5 u b (c+1))) ba1∧OwnI w35 w0.heap.size (lv5 m) (.slice sA (lv5 m).length cA)∧Mm w0 ((obs sA)++(ba1++([]:List (Nat × List Value)))) w35 from ⟨hIa,V_A,M⟩); clear M hIa V_A; go_wp2
                go_roundw
                case rel=>exact ⟨c+1,_,by omega,by go_num,HS.out⟩
                case measure=>simp [intOf]; omega
              · go_upto_region 24 with fail
                refine wp_region_list ?_; refine xpL (.int .i64 ((c:Nat):Int)) ?_; refine xaL (.bool false) (lssI .i64 _ _ _ _ _ _ rfl rfl rfl false (decide_eq_false (by omega)) _) ?_; refine xT ?_
                obtain rfl:c=4:=by omega
                rw [up5_four] at hIa
                have hcn2:=show Hid _ from (show ucn (uput u b) m=n+1 by rw [ucn_put hub,if_pos hbm,hcn.out]); have HS:=show Hid _ from (show I wr (.pointer (some ⟨Ra,0,none⟩)) (fs5 ((5*b:Nat):Int) m (uf5 (uput u b))) ga∧OwnI wr w0.heap.size (lv5 m) (.slice sA (lv5 m).length cA)∧Mm w0 ((obs sA)++(ga++([]:List (Nat × List Value)))) wr from ⟨hIa,V_A,M⟩)
                clear M hIa V_A; go_wp2
                go_roundw
                case rel=>exact ⟨n+1,_,_,_,by omega,hcn2,by omega,by omega,by go_num,HS.out⟩
                case measure=>simp [intOf]; omega
        · have hnm:n=m:=by omega
          have hall:=ucn_full u m (hcn.out.trans hnm); have hpN:=pick_fl5 last (m:=m) u rtt
          rw [bst_none (bl rtt) hall] at hpN
          have hpN2:spN (fs5 last m (uf5 u)) (lv5 m) rtt=-1:=hpN
          have hpA:spA (fs5 last m (uf5 u)) (lv5 m) rtt=0:=by unfold spA; rw [hpN2,if_pos (by decide)]
          have hpB:spB (fs5 last m (uf5 u)) (lv5 m) rtt=false:=by unfold spB; rw [hpN2]; rfl
          have hpC:spc (fs5 last m (uf5 u)) (lv5 m) rtt=fs5 last m (uf5 u):=by unfold spc; rw [hpN2,if_pos (by decide)]
          go_upto_region 12 with fail; refine wp_region_list ?_; refine xpL (.int .i64 ((n:Nat):Int)) ?_; refine xpL (.slice sA ((lv5 m).length) cA) ?_; refine readL (.int .i64 (((lv5 m).length:Nat):Int)) rfl (lenS _ 29 3 sA ((lv5 m).length) cA rfl Try.underlying29 rfl _) ?_; simp only [aP,lI,l0,lS]
          refine xaL (.bool false) (lssI .i64 _ _ _ _ _ _ rfl rfl rfl false (decide_eq_false (by rw [lv5_len]; omega)) _) ?_; refine xT ?_; go_upto_region 27 with fail; refine wp_region_list ?_; refine xpL (.pointer (some ⟨Ra,0,none⟩)) ?_; refine xpL (.slice sA ((lv5 m).length) cA) ?_; refine xpL (.slice sp rtt.length cap) ?_
          have Mp:=M.perm (pull1 ([]:List (Nat × List Value)) (obs sA) ga ([]:List (Nat × List Value)))
          have key:=hK.pck w0 _ _ (fs5 last m (uf5 u)) ga _ (lv5 m) sA cA rtt sp cap (fs5_w hl1 hl2 hm16 (uf5_w u)) (Nat.lt_of_le_of_lt (fs5_sz _ (uf5_sz u) _) (by omega)) (by rw [lv5_len]; omega) (Own.le V_A) (Own.nilCap V_A) (lv5_in (by omega)) (OwnI.src21 V_A) (fun b_ hb_ _=>Mp.awayS (fun p_ hp_=>by simp [hp_]) b_ hb_) (by omega) hcap hnil hri (SrcI.below hsrc M.below (xnR _)) (fun b_ hb_ hne_ hm_=>by have h1_:=SrcI.old21 hsrc (List.length_pos_iff.2 hne_) b_ hm_; have h2_:=Mp.los b_ hb_; omega) hIa Mp
          rw [hpA] at key
          rw [hpB] at key
          rw [hpC] at key
          refine xcL key ?_; clear key; rintro e w36 ⟨ba1,rfl,hI_,M',o1⟩; replace V_A:=ownsRow_away V_A o1 (Mp.awayS (fun p_ hp_=>by simp [hp_])); clear o1 Mp M hIa; have hIa:=hI_; clear hI_
          have M:Mm w0 ((ba1++((obs sA)++([]:List (Nat × List Value))))) w36:=M'.perm (pull0 ([]:List (Nat × List Value)) ba1 ((obs sA)++([]:List (Nat × List Value)))).symm
          clear M'; refine xeL ?_; refine xpL (.tuple #[.int .i64 0,.bool false]) ?_; refine xpL (.int .i64 0) ?_; refine xpL (.bool false) ?_; refine xpL (.int .i64 0) ?_; refine xpL (.bool false) ?_; refine xT ?_; clear hpN hpN2 hpA hpB hpC; go_upto_region 28 with fail; refine wp_region_list ?_; refine xpL (.bool false) ?_; refine xpL (.bool true) ?_; refine xpL (.bool true) ?_; refine xT ?_
          have hbel:=M.below; clear M hIa V_A; go_wp2; go_ret
          exact ⟨rfl,hbel⟩
  · as_aux_lemma =>
     go_upto_region 7 with fail; refine wp_region_list ?_; refine xpL (.int .i64 ((i:Nat):Int)) ?_; refine xpL (.slice sp rtt.length cap) ?_; refine xaL (.int .i64 ((rtt.length:Nat):Int)) (lenS _ 29 3 sp rtt.length cap rfl Try.underlying29 rfl _) ?_; refine xaL (.bool false) (lssI .i64 _ _ _ _ _ _ rfl rfl rfl false (decide_eq_false (by omega)) _) ?_; refine xpL (.bool false) ?_
     with_reducible refine skipL ?_ ?_
     · rfl
     simp only [aP,lI,l0,lS]
     with_reducible refine skipL ?_ ?_
     · rfl
     simp only [aP,lI,l0,lS]; refine xpL (.bool false) ?_; refine xT ?_
     obtain ⟨m,hm⟩:∃ m_,m_=i:=⟨_,rfl⟩
     subst hm
     have hm16:m≤16:=hi
     have hml:m≤rtt.length:=hil
     go_upto_region 11 with fail; refine wp_region_list ?_; refine xpL (.int .i64 0) ?_; refine xT ?_; have HI:=show Hid _ from (show I wr (.pointer (some ⟨Ra,0,none⟩)) (fs5 (-1) m (uf5 (fun _=>false))) ga∧OwnI wr w0.heap.size (lv5 m) (.slice sA (lv5 m).length cA)∧Mm w0 ((obs sA)++(ga++([]:List (Nat × List Value)))) wr from ⟨hIa,V_A,M⟩); clear M hIa V_A; go_wp2
     go_loopw [7] (fun n_ w'=>∃ (n:Nat) (u:Nat→Bool) (last:Int) (ga:List (Nat × List Value)),n≤m∧Hid (ucn u m=n)∧-1≤last∧last<9223372036854775808∧n_=.int .i64 (n:Int)∧I w' (.pointer (some ⟨Ra,0,none⟩)) (fs5 last m (uf5 u)) ga∧OwnI w' w0.heap.size (lv5 m) (.slice sA (lv5 m).length cA)∧Mm w0 ((obs sA)++(ga++([]:List (Nat × List Value)))) w') (fun n_ _=>m-(intOf n_).toNat)
     case atStart=>exact ⟨0,fun _=>false,-1,_,Nat.zero_le _,ucn_none m,by decide,by decide,rfl,HI.out⟩
     case round =>
      clear HI
      obtain ⟨n,u,last,ga,hn,hcn,hl1,hl2,rfl,hIa,V_A,M⟩:=hrel
      by_cases hnm2:n<m
      · go_upto_region 12 with fail
        refine wp_region_list ?_; refine xpL (.int .i64 ((n:Nat):Int)) ?_; refine xpL (.slice sA ((lv5 m).length) cA) ?_; refine readL (.int .i64 (((lv5 m).length:Nat):Int)) rfl (lenS _ 29 3 sA ((lv5 m).length) cA rfl Try.underlying29 rfl _) ?_; simp only [aP,lI,l0,lS]; refine xaL (.bool true) (lssI .i64 _ _ _ _ _ _ rfl rfl rfl true (decide_eq_true (by rw [lv5_len]; omega)) _) ?_
        refine xT ?_; go_upto_region 14 with fail; refine wp_region_list ?_; refine xpL (.int .i64 (-1)) ?_; refine xT ?_; go_upto_region 15 with fail; refine wp_region_list ?_; refine xpL (.int .i64 0) ?_; refine xT ?_
        obtain ⟨fr,hfr,hufr⟩:=ucn_free u m (by have:=hcn.out; omega)
        obtain ⟨adA,hgA⟩:=SrcI.some21 (OwnI.src21 V_A) (by rw [lv5_len]; omega)
        obtain ⟨adR,hgR⟩:=SrcI.some21 hsrc (by omega)
        have HI:=show Hid _ from (show I wr (.pointer (some ⟨Ra,0,none⟩)) (fs5 last m (uf5 u)) ga∧OwnI wr w0.heap.size (lv5 m) (.slice sA (lv5 m).length cA)∧Mm w0 ((obs sA)++(ga++([]:List (Nat × List Value)))) wr from ⟨hIa,V_A,M⟩); clear M hIa V_A; go_wp2
        go_loopw [8,9] (fun b_ k_ w'=>∃ (k:Nat),k≤m∧b_=.int .i64 (bno (bst u (bl rtt) k))∧k_=.int .i64 (k:Int)∧I w' (.pointer (some ⟨Ra,0,none⟩)) (fs5 last m (uf5 u)) ga∧OwnI w' w0.heap.size (lv5 m) (.slice sA (lv5 m).length cA)∧Mm w0 ((obs sA)++(ga++([]:List (Nat × List Value)))) w') (fun _ k_ _=>m-(intOf k_).toNat)
        case atStart=>exact ⟨0,Nat.zero_le _,rfl,rfl,HI.out⟩
        case round =>
         clear HI
         obtain ⟨k,hk,rfl,rfl,hIa,V_A,M⟩:=hrel
         by_cases hk2:k<m
         · have hkm:k<m:=hk2
           have hkr:k<rtt.length:=by omega
           cases huk:u k with
           | true =>
             go_upto_region 16 with fail; refine wp_region_list ?_; refine xpL (.int .i64 ((k:Nat):Int)) ?_; refine xpL (.slice sA ((lv5 m).length) cA) ?_; refine readL (.int .i64 (((lv5 m).length:Nat):Int)) rfl (lenS _ 29 3 sA ((lv5 m).length) cA rfl Try.underlying29 rfl _) ?_; simp only [aP,lI,l0,lS]
             refine xaL (.bool true) (lssI .i64 _ _ _ _ _ _ rfl rfl rfl true (decide_eq_true (by rw [lv5_len]; omega)) _) ?_; refine xT ?_; go_upto_region 18 with fail; have hdr:=(Below.refl wr.heap.size wr).drew; replace M:=M.drew; replace hIa:=hK.bel hIa hdr; replace V_A:=Own.below V_A hdr; clear hdr
             refine wp_region_held_drew (S:=fun w'=>OwnI w' w0.heap.size (lv5 m) (.slice sA (lv5 m).length cA)∧Below w0.heap.size w0 w') (by kernel_rfl) ⟨V_A,M.below⟩ ?_; intro _; generalize wr.drew=w7 at M hIa V_A ⊢; refine xrH 0 55 rfl (.pointer (some ⟨Ra,0,none⟩)) (fun _ hS=>(by kernel_rfl)) ⟨V_A,M.below⟩ ?_
             refine xrH 1 56 rfl (.slice sA ((lv5 m).length) cA) (fun _ hS=>(by kernel_rfl)) ⟨V_A,M.below⟩ ?_; refine xrH 2 57 rfl (.int .i64 ((k:Nat):Int)) (fun _ hS=>(by kernel_rfl)) ⟨V_A,M.below⟩ ?_
             refine xrH 3 58 rfl (.pointer (some (adA.add k))) (fun _ hS=>idxSlE 29 3 _ _ .i64 _ adA hgA k _ _ Try.underlying29 (fun _=>by kernel_rfl) (by rw [lv5_len]; exact hkm) rfl rfl rfl _) ⟨V_A,M.below⟩ ?_
             refine xrH 4 59 rfl (.int .i64 ((5*k:Nat):Int)) (fun _ hS=>load1 3 _ (adA.add k) _ rfl rfl (fun _=>by kernel_rfl) ((SrcI.atE21 (OwnI.src21 hS.1) hgA (by rw [lv5_len]; exact hkm)).trans (by rw [lv5_bl hkm]))) ⟨V_A,M.below⟩ ?_; refine xrH 6 61 rfl (.pointer (some ⟨Ra,0,none⟩)) (fun _ hS=>(by kernel_rfl)) ⟨V_A,M.below⟩ ?_
             refine xrH 7 62 rfl (.slice sA ((lv5 m).length) cA) (fun _ hS=>(by kernel_rfl)) ⟨V_A,M.below⟩ ?_; refine xrH 8 63 rfl (.int .i64 ((k:Nat):Int)) (fun _ hS=>(by kernel_rfl)) ⟨V_A,M.below⟩ ?_
             refine xrH 9 64 rfl (.pointer (some (adA.add k))) (fun _ hS=>idxSlE 29 3 _ _ .i64 _ adA hgA k _ _ Try.underlying29 (fun _=>by kernel_rfl) (by rw [lv5_len]; exact hkm) rfl rfl rfl _) ⟨V_A,M.below⟩ ?_
             refine xrH 10 65 rfl (.int .i64 ((5*k:Nat):Int)) (fun _ hS=>load1 3 _ (adA.add k) _ rfl rfl (fun _=>by kernel_rfl) ((SrcI.atE21 (OwnI.src21 hS.1) hgA (by rw [lv5_len]; exact hkm)).trans (by rw [lv5_bl hkm]))) ⟨V_A,M.below⟩ ?_; have Mp:=M.perm (pull1 ([]:List (Nat × List Value)) (obs sA) ga ([]:List (Nat × List Value)))
             have key:=hK.und w0 _ _ (fs5 last m (uf5 u)) ga _ ((5*k:Nat):Int) (fs5_w hl1 hl2 hm16 (uf5_w u)) (Nat.lt_of_le_of_lt (fs5_sz _ (uf5_sz u) _) (by omega)) (by unfold i64; omega) hIa Mp; clear Mp
             rw [(seen_fl5 last m u k hkm).1] at key
             rw [if_pos huk] at key
             refine callH (i:=5) (some 60) rfl (by kernel_rfl) rfl rfl (fun _=>by kernel_rfl) key ?_; clear key; rintro e w8 ⟨rfl,l_⟩; replace M:=M.call l_; replace hIa:=hK.bel hIa l_; replace V_A:=Own.below V_A l_; clear l_
             refine ⟨_,rfl,⟨V_A,M.below⟩,?_⟩
             simp only [aP,lI,l0,lS]; have Mp:=M.perm (pull1 ([]:List (Nat × List Value)) (obs sA) ga ([]:List (Nat × List Value))); have key:=hK.win w0 _ _ (fs5 last m (uf5 u)) ga _ ((5*k:Nat):Int) (fs5_w hl1 hl2 hm16 (uf5_w u)) (Nat.lt_of_le_of_lt (fs5_sz _ (uf5_sz u) _) (by omega)) (by unfold i64; omega) hIa Mp; clear Mp
             rw [(seen_fl5 last m u k hkm).2] at key
             refine callH (i:=11) (some 66) rfl (by kernel_rfl) rfl rfl (fun _=>by kernel_rfl) key ?_; clear key; rintro e w9 ⟨rfl,l_⟩; replace M:=M.call l_; replace hIa:=hK.bel hIa l_; replace V_A:=Own.below V_A l_; clear l_
             refine ⟨_,rfl,⟨V_A,M.below⟩,?_⟩
             simp only [aP,lI,l0,lS]; refine xrH 12 67 rfl (.bool false) (fun _ hS=>lssI .i64 _ _ _ _ _ _ rfl rfl rfl false rfl _) ⟨V_A,M.below⟩ ?_; refine xrH 13 68 rfl (.bool false) (fun _ hS=>(by kernel_rfl)) ⟨V_A,M.below⟩ ?_
             refine mayH (i:=14) (some 69) rfl false undef undef rfl rfl rfl (fun hc=>by cases hc) (by kernel_rfl) (by kernel_rfl) (by kernel_rfl) (fun _ _ _ h=>h) ⟨V_A,M.below⟩ ?_; simp only [aP,lI,l0,lS]; refine mayH (i:=15) (some 70) rfl false undef undef rfl rfl rfl (fun hc=>by cases hc) (by kernel_rfl) (by kernel_rfl) (by kernel_rfl) (fun _ _ _ h=>h) ⟨V_A,M.below⟩ ?_
             simp only [aP,lI,l0,lS]; refine mayH (i:=16) (some 71) rfl false undef undef rfl rfl rfl (fun hc=>by cases hc) (by kernel_rfl) (by kernel_rfl) (by kernel_rfl) (fun _ _ _ h=>h) ⟨V_A,M.below⟩ ?_; simp only [aP,lI,l0,lS]
             refine mayH (i:=17) (some 72) rfl false undef undef rfl rfl rfl (fun hc=>by cases hc) (by kernel_rfl) (by kernel_rfl) (by kernel_rfl) (fun _ _ _ h=>h) ⟨V_A,M.below⟩ ?_; simp only [aP,lI,l0,lS]; refine mayH (i:=18) (some 73) rfl false undef undef rfl rfl rfl (fun hc=>by cases hc) (by kernel_rfl) (by kernel_rfl) (by kernel_rfl) (fun _ _ _ h=>h) ⟨V_A,M.below⟩ ?_
             simp only [aP,lI,l0,lS]; refine mayH (i:=19) (some 74) rfl false undef undef rfl rfl rfl (fun hc=>by cases hc) (by kernel_rfl) (by kernel_rfl) (by kernel_rfl) (fun _ _ _ h=>h) ⟨V_A,M.below⟩ ?_; simp only [aP,lI,l0,lS]
             refine mayH (i:=20) (some 75) rfl false undef undef rfl rfl rfl (fun hc=>by cases hc) (by kernel_rfl) (by kernel_rfl) (by kernel_rfl) (fun _ _ _ h=>h) ⟨V_A,M.below⟩ ?_; simp only [aP,lI,l0,lS]; refine mayH (i:=21) (some 76) rfl false undef undef rfl rfl rfl (fun hc=>by cases hc) (by kernel_rfl) (by kernel_rfl) (by kernel_rfl) (fun _ _ _ h=>h) ⟨V_A,M.below⟩ ?_
             simp only [aP,lI,l0,lS]; refine mayH (i:=22) (some 77) rfl false undef undef rfl rfl rfl (fun hc=>by cases hc) (by kernel_rfl) (by kernel_rfl) (by kernel_rfl) (fun _ _ _ h=>h) ⟨V_A,M.below⟩ ?_; simp only [aP,lI,l0,lS]
             refine mayH (i:=23) (some 78) rfl false undef undef rfl rfl rfl (fun hc=>by cases hc) (by kernel_rfl) (by kernel_rfl) (by kernel_rfl) (fun _ _ _ h=>h) ⟨V_A,M.below⟩ ?_; simp only [aP,lI,l0,lS]; refine mayH (i:=24) (some 79) rfl false undef undef rfl rfl rfl (fun hc=>by cases hc) (by kernel_rfl) (by kernel_rfl) (by kernel_rfl) (fun _ _ _ h=>h) ⟨V_A,M.below⟩ ?_
             simp only [aP,lI,l0,lS]; refine mayH (i:=25) (some 80) rfl false undef undef rfl rfl rfl (fun hc=>by cases hc) (by kernel_rfl) (by kernel_rfl) (by kernel_rfl) (fun _ _ _ h=>h) ⟨V_A,M.below⟩ ?_; simp only [aP,lI,l0,lS]
             refine mayH (i:=26) (some 81) rfl false undef undef rfl rfl rfl (fun hc=>by cases hc) (by kernel_rfl) (by kernel_rfl) (by kernel_rfl) (fun _ _ _ h=>h) ⟨V_A,M.below⟩ ?_; simp only [aP,lI,l0,lS]; refine xrH 27 82 rfl (.bool false) (fun _ hS=>(by kernel_rfl)) ⟨V_A,M.below⟩ ?_
             refine wpAnyH_done (by kernel_rfl) ?_ _
             first | show Exit.then _ _ _ _ _ | show Exit.inBlock _ _ _ _ _
             have hb9:=show Hid _ from (show bst u (bl rtt) (k+1)=bst u (bl rtt) k from (bst_succ u (bl rtt) k).trans (if_neg (fun h_=>by first | (rw [huk] at h_; cases h_.1; done) | exact hcl (h_.2 bx hbx))))
             have HS:=show Hid _ from (show I w9 (.pointer (some ⟨Ra,0,none⟩)) (fs5 last m (uf5 u)) ga∧OwnI w9 w0.heap.size (lv5 m) (.slice sA (lv5 m).length cA)∧Mm w0 ((obs sA)++(ga++([]:List (Nat × List Value)))) w9 from ⟨hIa,V_A,M⟩); clear M hIa V_A; go_wp2
             go_roundw
             case rel=>exact ⟨k+1,by omega,by rw [hb9.out] <;> rfl,by go_num,HS.out⟩
             case measure=>simp [intOf]; omega
           | false =>
             cases hbx:bst u (bl rtt) k with
             | none =>
               go_upto_region 16 with fail; refine wp_region_list ?_; refine xpL (.int .i64 ((k:Nat):Int)) ?_; refine xpL (.slice sA ((lv5 m).length) cA) ?_; refine readL (.int .i64 (((lv5 m).length:Nat):Int)) rfl (lenS _ 29 3 sA ((lv5 m).length) cA rfl Try.underlying29 rfl _) ?_; simp only [aP,lI,l0,lS]
               refine xaL (.bool true) (lssI .i64 _ _ _ _ _ _ rfl rfl rfl true (decide_eq_true (by rw [lv5_len]; omega)) _) ?_; refine xT ?_; go_upto_region 18 with fail; have hdr:=(Below.refl wr.heap.size wr).drew; replace M:=M.drew; replace hIa:=hK.bel hIa hdr; replace V_A:=Own.below V_A hdr; clear hdr
               refine wp_region_held_drew (S:=fun w'=>OwnI w' w0.heap.size (lv5 m) (.slice sA (lv5 m).length cA)∧Below w0.heap.size w0 w') (by kernel_rfl) ⟨V_A,M.below⟩ ?_; intro _; generalize wr.drew=w10 at M hIa V_A ⊢; refine xrH 0 55 rfl (.pointer (some ⟨Ra,0,none⟩)) (fun _ hS=>(by kernel_rfl)) ⟨V_A,M.below⟩ ?_
               refine xrH 1 56 rfl (.slice sA ((lv5 m).length) cA) (fun _ hS=>(by kernel_rfl)) ⟨V_A,M.below⟩ ?_; refine xrH 2 57 rfl (.int .i64 ((k:Nat):Int)) (fun _ hS=>(by kernel_rfl)) ⟨V_A,M.below⟩ ?_
               refine xrH 3 58 rfl (.pointer (some (adA.add k))) (fun _ hS=>idxSlE 29 3 _ _ .i64 _ adA hgA k _ _ Try.underlying29 (fun _=>by kernel_rfl) (by rw [lv5_len]; exact hkm) rfl rfl rfl _) ⟨V_A,M.below⟩ ?_
               refine xrH 4 59 rfl (.int .i64 ((5*k:Nat):Int)) (fun _ hS=>load1 3 _ (adA.add k) _ rfl rfl (fun _=>by kernel_rfl) ((SrcI.atE21 (OwnI.src21 hS.1) hgA (by rw [lv5_len]; exact hkm)).trans (by rw [lv5_bl hkm]))) ⟨V_A,M.below⟩ ?_; refine xrH 6 61 rfl (.pointer (some ⟨Ra,0,none⟩)) (fun _ hS=>(by kernel_rfl)) ⟨V_A,M.below⟩ ?_
               refine xrH 7 62 rfl (.slice sA ((lv5 m).length) cA) (fun _ hS=>(by kernel_rfl)) ⟨V_A,M.below⟩ ?_; refine xrH 8 63 rfl (.int .i64 ((k:Nat):Int)) (fun _ hS=>(by kernel_rfl)) ⟨V_A,M.below⟩ ?_
               refine xrH 9 64 rfl (.pointer (some (adA.add k))) (fun _ hS=>idxSlE 29 3 _ _ .i64 _ adA hgA k _ _ Try.underlying29 (fun _=>by kernel_rfl) (by rw [lv5_len]; exact hkm) rfl rfl rfl _) ⟨V_A,M.below⟩ ?_
               refine xrH 10 65 rfl (.int .i64 ((5*k:Nat):Int)) (fun _ hS=>load1 3 _ (adA.add k) _ rfl rfl (fun _=>by kernel_rfl) ((SrcI.atE21 (OwnI.src21 hS.1) hgA (by rw [lv5_len]; exact hkm)).trans (by rw [lv5_bl hkm]))) ⟨V_A,M.below⟩ ?_; have Mp:=M.perm (pull1 ([]:List (Nat × List Value)) (obs sA) ga ([]:List (Nat × List Value)))
               have key:=hK.und w0 _ _ (fs5 last m (uf5 u)) ga _ ((5*k:Nat):Int) (fs5_w hl1 hl2 hm16 (uf5_w u)) (Nat.lt_of_le_of_lt (fs5_sz _ (uf5_sz u) _) (by omega)) (by unfold i64; omega) hIa Mp; clear Mp
               rw [(seen_fl5 last m u k hkm).1] at key
               rw [if_neg (show ¬ u k=true by rw [huk]; decide)] at key
               refine callH (i:=5) (some 60) rfl (by kernel_rfl) rfl rfl (fun _=>by kernel_rfl) key ?_; clear key; rintro e w11 ⟨rfl,l_⟩; replace M:=M.call l_; replace hIa:=hK.bel hIa l_; replace V_A:=Own.below V_A l_; clear l_
               refine ⟨_,rfl,⟨V_A,M.below⟩,?_⟩
               simp only [aP,lI,l0,lS]; have Mp:=M.perm (pull1 ([]:List (Nat × List Value)) (obs sA) ga ([]:List (Nat × List Value))); have key:=hK.win w0 _ _ (fs5 last m (uf5 u)) ga _ ((5*k:Nat):Int) (fs5_w hl1 hl2 hm16 (uf5_w u)) (Nat.lt_of_le_of_lt (fs5_sz _ (uf5_sz u) _) (by omega)) (by unfold i64; omega) hIa Mp; clear Mp
               rw [(seen_fl5 last m u k hkm).2] at key
               refine callH (i:=11) (some 66) rfl (by kernel_rfl) rfl rfl (fun _=>by kernel_rfl) key ?_; clear key; rintro e w12 ⟨rfl,l_⟩; replace M:=M.call l_; replace hIa:=hK.bel hIa l_; replace V_A:=Own.below V_A l_; clear l_
               refine ⟨_,rfl,⟨V_A,M.below⟩,?_⟩
               simp only [aP,lI,l0,lS]; refine xrH 12 67 rfl (.bool true) (fun _ hS=>lssI .i64 _ _ _ _ _ _ rfl rfl rfl true rfl _) ⟨V_A,M.below⟩ ?_; refine xrH 13 68 rfl (.bool true) (fun _ hS=>(by kernel_rfl)) ⟨V_A,M.below⟩ ?_; refine xrH 14 69 rfl (.int .i64 (-1)) (fun _ hS=>(by kernel_rfl)) ⟨V_A,M.below⟩ ?_
               refine xrH 15 70 rfl (.bool true) (fun _ hS=>lssI .i64 _ _ _ _ _ _ rfl rfl rfl true rfl _) ⟨V_A,M.below⟩ ?_; refine xrH 16 71 rfl (.bool true) (fun _ hS=>(by kernel_rfl)) ⟨V_A,M.below⟩ ?_; refine mayH (i:=17) (some 72) rfl false undef undef rfl rfl rfl (fun hc=>by cases hc) (by kernel_rfl) (by kernel_rfl) (by kernel_rfl) (fun _ _ _ h=>h) ⟨V_A,M.below⟩ ?_
               simp only [aP,lI,l0,lS]; refine mayH (i:=18) (some 73) rfl false undef undef rfl rfl rfl (fun hc=>by cases hc) (by kernel_rfl) (by kernel_rfl) (by kernel_rfl) (fun _ _ _ h=>h) ⟨V_A,M.below⟩ ?_; simp only [aP,lI,l0,lS]
               refine mayH (i:=19) (some 74) rfl false undef undef rfl rfl rfl (fun hc=>by cases hc) (by kernel_rfl) (by kernel_rfl) (by kernel_rfl) (fun _ _ _ h=>h) ⟨V_A,M.below⟩ ?_; simp only [aP,lI,l0,lS]; refine mayH (i:=20) (some 75) rfl false undef undef rfl rfl rfl (fun hc=>by cases hc) (by kernel_rfl) (by kernel_rfl) (by kernel_rfl) (fun _ _ _ h=>h) ⟨V_A,M.below⟩ ?_
               simp only [aP,lI,l0,lS]; refine mayH (i:=21) (some 76) rfl false undef undef rfl rfl rfl (fun hc=>by cases hc) (by kernel_rfl) (by kernel_rfl) (by kernel_rfl) (fun _ _ _ h=>h) ⟨V_A,M.below⟩ ?_; simp only [aP,lI,l0,lS]
               refine mayH (i:=22) (some 77) rfl false undef undef rfl rfl rfl (fun hc=>by cases hc) (by kernel_rfl) (by kernel_rfl) (by kernel_rfl) (fun _ _ _ h=>h) ⟨V_A,M.below⟩ ?_; simp only [aP,lI,l0,lS]; refine mayH (i:=23) (some 78) rfl false undef undef rfl rfl rfl (fun hc=>by cases hc) (by kernel_rfl) (by kernel_rfl) (by kernel_rfl) (fun _ _ _ h=>h) ⟨V_A,M.below⟩ ?_
               simp only [aP,lI,l0,lS]; refine mayH (i:=24) (some 79) rfl false undef undef rfl rfl rfl (fun hc=>by cases hc) (by kernel_rfl) (by kernel_rfl) (by kernel_rfl) (fun _ _ _ h=>h) ⟨V_A,M.below⟩ ?_; simp only [aP,lI,l0,lS]
               refine mayH (i:=25) (some 80) rfl false undef undef rfl rfl rfl (fun hc=>by cases hc) (by kernel_rfl) (by kernel_rfl) (by kernel_rfl) (fun _ _ _ h=>h) ⟨V_A,M.below⟩ ?_; simp only [aP,lI,l0,lS]; refine xrH 26 81 rfl (.bool true) (fun _ hS=>(by kernel_rfl)) ⟨V_A,M.below⟩ ?_; refine xrH 27 82 rfl (.bool true) (fun _ hS=>(by kernel_rfl)) ⟨V_A,M.below⟩ ?_
               refine wpAnyH_done (by kernel_rfl) ?_ _
               first | show Exit.then _ _ _ _ _ | show Exit.inBlock _ _ _ _ _
               go_upto_region 19 with fail; refine wp_region_list ?_; refine xpL (.int .i64 ((k:Nat):Int)) ?_; refine xpL (.int .i64 ((k:Nat):Int)) ?_; refine xT ?_
               have hb9:=show Hid _ from (show bst u (bl rtt) (k+1)=some k from (bst_succ u (bl rtt) k).trans (if_pos ⟨huk,fun b_ hb_=>by rw [hbx] at hb_; first | (cases hb_; done) | (obtain rfl:=Option.some.inj hb_; exact hcl)⟩)); have hbxH:=show Hid _ from hbx
               have HS:=show Hid _ from (show I w12 (.pointer (some ⟨Ra,0,none⟩)) (fs5 last m (uf5 u)) ga∧OwnI w12 w0.heap.size (lv5 m) (.slice sA (lv5 m).length cA)∧Mm w0 ((obs sA)++(ga++([]:List (Nat × List Value)))) w12 from ⟨hIa,V_A,M⟩); clear M hIa V_A hbx; go_wp2
               go_roundw
               case rel=>exact ⟨k+1,by omega,by rw [hb9.out] <;> rfl,by go_num,HS.out⟩
               case measure=>simp [intOf]; omega
             | some bx =>
               have hbr:bx<rtt.length:=by have:=(bst_lt u (bl rtt) k bx hbx).1; omega
               by_cases hcl:bl rtt k<bl rtt bx
               · go_upto_region 16 with fail
                 refine wp_region_list ?_; refine xpL (.int .i64 ((k:Nat):Int)) ?_; refine xpL (.slice sA ((lv5 m).length) cA) ?_; refine readL (.int .i64 (((lv5 m).length:Nat):Int)) rfl (lenS _ 29 3 sA ((lv5 m).length) cA rfl Try.underlying29 rfl _) ?_; simp only [aP,lI,l0,lS]
                 refine xaL (.bool true) (lssI .i64 _ _ _ _ _ _ rfl rfl rfl true (decide_eq_true (by rw [lv5_len]; omega)) _) ?_; refine xT ?_; go_upto_region 18 with fail; have hdr:=(Below.refl wr.heap.size wr).drew; replace M:=M.drew; replace hIa:=hK.bel hIa hdr; replace V_A:=Own.below V_A hdr; clear hdr
                 refine wp_region_held_drew (S:=fun w'=>OwnI w' w0.heap.size (lv5 m) (.slice sA (lv5 m).length cA)∧Below w0.heap.size w0 w') (by kernel_rfl) ⟨V_A,M.below⟩ ?_; intro _; generalize wr.drew=w13 at M hIa V_A ⊢; refine xrH 0 55 rfl (.pointer (some ⟨Ra,0,none⟩)) (fun _ hS=>(by kernel_rfl)) ⟨V_A,M.below⟩ ?_
                 refine xrH 1 56 rfl (.slice sA ((lv5 m).length) cA) (fun _ hS=>(by kernel_rfl)) ⟨V_A,M.below⟩ ?_; refine xrH 2 57 rfl (.int .i64 ((k:Nat):Int)) (fun _ hS=>(by kernel_rfl)) ⟨V_A,M.below⟩ ?_
                 refine xrH 3 58 rfl (.pointer (some (adA.add k))) (fun _ hS=>idxSlE 29 3 _ _ .i64 _ adA hgA k _ _ Try.underlying29 (fun _=>by kernel_rfl) (by rw [lv5_len]; exact hkm) rfl rfl rfl _) ⟨V_A,M.below⟩ ?_
                 refine xrH 4 59 rfl (.int .i64 ((5*k:Nat):Int)) (fun _ hS=>load1 3 _ (adA.add k) _ rfl rfl (fun _=>by kernel_rfl) ((SrcI.atE21 (OwnI.src21 hS.1) hgA (by rw [lv5_len]; exact hkm)).trans (by rw [lv5_bl hkm]))) ⟨V_A,M.below⟩ ?_; refine xrH 6 61 rfl (.pointer (some ⟨Ra,0,none⟩)) (fun _ hS=>(by kernel_rfl)) ⟨V_A,M.below⟩ ?_
                 refine xrH 7 62 rfl (.slice sA ((lv5 m).length) cA) (fun _ hS=>(by kernel_rfl)) ⟨V_A,M.below⟩ ?_; refine xrH 8 63 rfl (.int .i64 ((k:Nat):Int)) (fun _ hS=>(by kernel_rfl)) ⟨V_A,M.below⟩ ?_
                 refine xrH 9 64 rfl (.pointer (some (adA.add k))) (fun _ hS=>idxSlE 29 3 _ _ .i64 _ adA hgA k _ _ Try.underlying29 (fun _=>by kernel_rfl) (by rw [lv5_len]; exact hkm) rfl rfl rfl _) ⟨V_A,M.below⟩ ?_
                 refine xrH 10 65 rfl (.int .i64 ((5*k:Nat):Int)) (fun _ hS=>load1 3 _ (adA.add k) _ rfl rfl (fun _=>by kernel_rfl) ((SrcI.atE21 (OwnI.src21 hS.1) hgA (by rw [lv5_len]; exact hkm)).trans (by rw [lv5_bl hkm]))) ⟨V_A,M.below⟩ ?_; have Mp:=M.perm (pull1 ([]:List (Nat × List Value)) (obs sA) ga ([]:List (Nat × List Value)))
                 have key:=hK.und w0 _ _ (fs5 last m (uf5 u)) ga _ ((5*k:Nat):Int) (fs5_w hl1 hl2 hm16 (uf5_w u)) (Nat.lt_of_le_of_lt (fs5_sz _ (uf5_sz u) _) (by omega)) (by unfold i64; omega) hIa Mp; clear Mp
                 rw [(seen_fl5 last m u k hkm).1] at key
                 rw [if_neg (show ¬ u k=true by rw [huk]; decide)] at key
                 refine callH (i:=5) (some 60) rfl (by kernel_rfl) rfl rfl (fun _=>by kernel_rfl) key ?_; clear key; rintro e w14 ⟨rfl,l_⟩; replace M:=M.call l_; replace hIa:=hK.bel hIa l_; replace V_A:=Own.below V_A l_; clear l_
                 refine ⟨_,rfl,⟨V_A,M.below⟩,?_⟩
                 simp only [aP,lI,l0,lS]; have Mp:=M.perm (pull1 ([]:List (Nat × List Value)) (obs sA) ga ([]:List (Nat × List Value))); have key:=hK.win w0 _ _ (fs5 last m (uf5 u)) ga _ ((5*k:Nat):Int) (fs5_w hl1 hl2 hm16 (uf5_w u)) (Nat.lt_of_le_of_lt (fs5_sz _ (uf5_sz u) _) (by omega)) (by unfold i64; omega) hIa Mp; clear Mp
                 rw [(seen_fl5 last m u k hkm).2] at key
                 refine callH (i:=11) (some 66) rfl (by kernel_rfl) rfl rfl (fun _=>by kernel_rfl) key ?_; clear key; rintro e w15 ⟨rfl,l_⟩; replace M:=M.call l_; replace hIa:=hK.bel hIa l_; replace V_A:=Own.below V_A l_; clear l_
                 refine ⟨_,rfl,⟨V_A,M.below⟩,?_⟩
                 simp only [aP,lI,l0,lS]; refine xrH 12 67 rfl (.bool true) (fun _ hS=>lssI .i64 _ _ _ _ _ _ rfl rfl rfl true rfl _) ⟨V_A,M.below⟩ ?_; refine xrH 13 68 rfl (.bool true) (fun _ hS=>(by kernel_rfl)) ⟨V_A,M.below⟩ ?_; refine xrH 14 69 rfl (.int .i64 ((bx:Nat):Int)) (fun _ hS=>(by kernel_rfl)) ⟨V_A,M.below⟩ ?_
                 refine xrH 15 70 rfl (.bool false) (fun _ hS=>lssI .i64 _ _ _ _ _ _ rfl rfl rfl false (decide_eq_false (show ¬ ((bx:Nat):Int)<0 by omega)) _) ⟨V_A,M.below⟩ ?_; refine xrH 16 71 rfl (.bool false) (fun _ hS=>(by kernel_rfl)) ⟨V_A,M.below⟩ ?_; refine xrH 17 72 rfl (.slice sp rtt.length cap) (fun _ hS=>(by kernel_rfl)) ⟨V_A,M.below⟩ ?_
                 refine xrH 18 73 rfl (.int .i64 ((k:Nat):Int)) (fun _ hS=>(by kernel_rfl)) ⟨V_A,M.below⟩ ?_; refine xrH 19 74 rfl (.pointer (some (adR.add k))) (fun _ hS=>idxSlE 29 3 _ _ .i64 _ adR hgR k _ _ Try.underlying29 (fun _=>by kernel_rfl) hkr rfl rfl rfl _) ⟨V_A,M.below⟩ ?_
                 refine xrH 20 75 rfl (.int .i64 (bl rtt k)) (fun _ hS=>load1 3 _ (adR.add k) _ rfl rfl (fun _=>by kernel_rfl) (SrcI.atE21 (SrcI.below hsrc hS.2 (xnR _)) hgR hkr)) ⟨V_A,M.below⟩ ?_; refine xrH 21 76 rfl (.slice sp rtt.length cap) (fun _ hS=>(by kernel_rfl)) ⟨V_A,M.below⟩ ?_
                 refine xrH 22 77 rfl (.int .i64 ((bx:Nat):Int)) (fun _ hS=>(by kernel_rfl)) ⟨V_A,M.below⟩ ?_; refine xrH 23 78 rfl (.pointer (some (adR.add bx))) (fun _ hS=>idxSlE 29 3 _ _ .i64 _ adR hgR bx _ _ Try.underlying29 (fun _=>by kernel_rfl) hbr rfl rfl rfl _) ⟨V_A,M.below⟩ ?_
                 refine xrH 24 79 rfl (.int .i64 (bl rtt bx)) (fun _ hS=>load1 3 _ (adR.add bx) _ rfl rfl (fun _=>by kernel_rfl) (SrcI.atE21 (SrcI.below hsrc hS.2 (xnR _)) hgR hbr)) ⟨V_A,M.below⟩ ?_; refine xrH 25 80 rfl (.bool true) (fun _ hS=>lssI .i64 _ _ _ _ _ _ rfl rfl rfl true (decide_eq_true hcl) _) ⟨V_A,M.below⟩ ?_
                 refine xrH 26 81 rfl (.bool true) (fun _ hS=>(by kernel_rfl)) ⟨V_A,M.below⟩ ?_; refine xrH 27 82 rfl (.bool true) (fun _ hS=>(by kernel_rfl)) ⟨V_A,M.below⟩ ?_
                 refine wpAnyH_done (by kernel_rfl) ?_ _
                 first | show Exit.then _ _ _ _ _ | show Exit.inBlock _ _ _ _ _
                 go_upto_region 19 with fail; refine wp_region_list ?_; refine xpL (.int .i64 ((k:Nat):Int)) ?_; refine xpL (.int .i64 ((k:Nat):Int)) ?_; refine xT ?_
                 have hb9:=show Hid _ from (show bst u (bl rtt) (k+1)=some k from (bst_succ u (bl rtt) k).trans (if_pos ⟨huk,fun b_ hb_=>by rw [hbx] at hb_; first | (cases hb_; done) | (obtain rfl:=Option.some.inj hb_; exact hcl)⟩)); have hbxH:=show Hid _ from hbx
                 have HS:=show Hid _ from (show I w15 (.pointer (some ⟨Ra,0,none⟩)) (fs5 last m (uf5 u)) ga∧OwnI w15 w0.heap.size (lv5 m) (.slice sA (lv5 m).length cA)∧Mm w0 ((obs sA)++(ga++([]:List (Nat × List Value)))) w15 from ⟨hIa,V_A,M⟩); clear M hIa V_A hbx; go_wp2
                 go_roundw
                 case rel=>exact ⟨k+1,by omega,by rw [hb9.out] <;> rfl,by go_num,HS.out⟩
                 case measure=>simp [intOf]; omega
               · go_upto_region 16 with fail
                 refine wp_region_list ?_; refine xpL (.int .i64 ((k:Nat):Int)) ?_; refine xpL (.slice sA ((lv5 m).length) cA) ?_; refine readL (.int .i64 (((lv5 m).length:Nat):Int)) rfl (lenS _ 29 3 sA ((lv5 m).length) cA rfl Try.underlying29 rfl _) ?_; simp only [aP,lI,l0,lS]
                 refine xaL (.bool true) (lssI .i64 _ _ _ _ _ _ rfl rfl rfl true (decide_eq_true (by rw [lv5_len]; omega)) _) ?_; refine xT ?_; go_upto_region 18 with fail; have hdr:=(Below.refl wr.heap.size wr).drew; replace M:=M.drew; replace hIa:=hK.bel hIa hdr; replace V_A:=Own.below V_A hdr; clear hdr
                 refine wp_region_held_drew (S:=fun w'=>OwnI w' w0.heap.size (lv5 m) (.slice sA (lv5 m).length cA)∧Below w0.heap.size w0 w') (by kernel_rfl) ⟨V_A,M.below⟩ ?_; intro _; generalize wr.drew=w16 at M hIa V_A ⊢; refine xrH 0 55 rfl (.pointer (some ⟨Ra,0,none⟩)) (fun _ hS=>(by kernel_rfl)) ⟨V_A,M.below⟩ ?_
                 refine xrH 1 56 rfl (.slice sA ((lv5 m).length) cA) (fun _ hS=>(by kernel_rfl)) ⟨V_A,M.below⟩ ?_; refine xrH 2 57 rfl (.int .i64 ((k:Nat):Int)) (fun _ hS=>(by kernel_rfl)) ⟨V_A,M.below⟩ ?_
                 refine xrH 3 58 rfl (.pointer (some (adA.add k))) (fun _ hS=>idxSlE 29 3 _ _ .i64 _ adA hgA k _ _ Try.underlying29 (fun _=>by kernel_rfl) (by rw [lv5_len]; exact hkm) rfl rfl rfl _) ⟨V_A,M.below⟩ ?_
                 refine xrH 4 59 rfl (.int .i64 ((5*k:Nat):Int)) (fun _ hS=>load1 3 _ (adA.add k) _ rfl rfl (fun _=>by kernel_rfl) ((SrcI.atE21 (OwnI.src21 hS.1) hgA (by rw [lv5_len]; exact hkm)).trans (by rw [lv5_bl hkm]))) ⟨V_A,M.below⟩ ?_; refine xrH 6 61 rfl (.pointer (some ⟨Ra,0,none⟩)) (fun _ hS=>(by kernel_rfl)) ⟨V_A,M.below⟩ ?_
                 refine xrH 7 62 rfl (.slice sA ((lv5 m).length) cA) (fun _ hS=>(by kernel_rfl)) ⟨V_A,M.below⟩ ?_; refine xrH 8 63 rfl (.int .i64 ((k:Nat):Int)) (fun _ hS=>(by kernel_rfl)) ⟨V_A,M.below⟩ ?_
                 refine xrH 9 64 rfl (.pointer (some (adA.add k))) (fun _ hS=>idxSlE 29 3 _ _ .i64 _ adA hgA k _ _ Try.underlying29 (fun _=>by kernel_rfl) (by rw [lv5_len]; exact hkm) rfl rfl rfl _) ⟨V_A,M.below⟩ ?_
                 refine xrH 10 65 rfl (.int .i64 ((5*k:Nat):Int)) (fun _ hS=>load1 3 _ (adA.add k) _ rfl rfl (fun _=>by kernel_rfl) ((SrcI.atE21 (OwnI.src21 hS.1) hgA (by rw [lv5_len]; exact hkm)).trans (by rw [lv5_bl hkm]))) ⟨V_A,M.below⟩ ?_; have Mp:=M.perm (pull1 ([]:List (Nat × List Value)) (obs sA) ga ([]:List (Nat × List Value)))
                 have key:=hK.und w0 _ _ (fs5 last m (uf5 u)) ga _ ((5*k:Nat):Int) (fs5_w hl1 hl2 hm16 (uf5_w u)) (Nat.lt_of_le_of_lt (fs5_sz _ (uf5_sz u) _) (by omega)) (by unfold i64; omega) hIa Mp; clear Mp
                 rw [(seen_fl5 last m u k hkm).1] at key
                 rw [if_neg (show ¬ u k=true by rw [huk]; decide)] at key
                 refine callH (i:=5) (some 60) rfl (by kernel_rfl) rfl rfl (fun _=>by kernel_rfl) key ?_; clear key; rintro e w17 ⟨rfl,l_⟩; replace M:=M.call l_; replace hIa:=hK.bel hIa l_; replace V_A:=Own.below V_A l_; clear l_
                 refine ⟨_,rfl,⟨V_A,M.below⟩,?_⟩
                 simp only [aP,lI,l0,lS]; have Mp:=M.perm (pull1 ([]:List (Nat × List Value)) (obs sA) ga ([]:List (Nat × List Value))); have key:=hK.win w0 _ _ (fs5 last m (uf5 u)) ga _ ((5*k:Nat):Int) (fs5_w hl1 hl2 hm16 (uf5_w u)) (Nat.lt_of_le_of_lt (fs5_sz _ (uf5_sz u) _) (by omega)) (by unfold i64; omega) hIa Mp; clear Mp
                 rw [(seen_fl5 last m u k hkm).2] at key
                 refine callH (i:=11) (some 66) rfl (by kernel_rfl) rfl rfl (fun _=>by kernel_rfl) key ?_; clear key; rintro e w18 ⟨rfl,l_⟩; replace M:=M.call l_; replace hIa:=hK.bel hIa l_; replace V_A:=Own.below V_A l_; clear l_
                 refine ⟨_,rfl,⟨V_A,M.below⟩,?_⟩
                 simp only [aP,lI,l0,lS]; refine xrH 12 67 rfl (.bool true) (fun _ hS=>lssI .i64 _ _ _ _ _ _ rfl rfl rfl true rfl _) ⟨V_A,M.below⟩ ?_; refine xrH 13 68 rfl (.bool true) (fun _ hS=>(by kernel_rfl)) ⟨V_A,M.below⟩ ?_; refine xrH 14 69 rfl (.int .i64 ((bx:Nat):Int)) (fun _ hS=>(by kernel_rfl)) ⟨V_A,M.below⟩ ?_
                 refine xrH 15 70 rfl (.bool false) (fun _ hS=>lssI .i64 _ _ _ _ _ _ rfl rfl rfl false (decide_eq_false (show ¬ ((bx:Nat):Int)<0 by omega)) _) ⟨V_A,M.below⟩ ?_; refine xrH 16 71 rfl (.bool false) (fun _ hS=>(by kernel_rfl)) ⟨V_A,M.below⟩ ?_; refine xrH 17 72 rfl (.slice sp rtt.length cap) (fun _ hS=>(by kernel_rfl)) ⟨V_A,M.below⟩ ?_
                 refine xrH 18 73 rfl (.int .i64 ((k:Nat):Int)) (fun _ hS=>(by kernel_rfl)) ⟨V_A,M.below⟩ ?_; refine xrH 19 74 rfl (.pointer (some (adR.add k))) (fun _ hS=>idxSlE 29 3 _ _ .i64 _ adR hgR k _ _ Try.underlying29 (fun _=>by kernel_rfl) hkr rfl rfl rfl _) ⟨V_A,M.below⟩ ?_
                 refine xrH 20 75 rfl (.int .i64 (bl rtt k)) (fun _ hS=>load1 3 _ (adR.add k) _ rfl rfl (fun _=>by kernel_rfl) (SrcI.atE21 (SrcI.below hsrc hS.2 (xnR _)) hgR hkr)) ⟨V_A,M.below⟩ ?_; refine xrH 21 76 rfl (.slice sp rtt.length cap) (fun _ hS=>(by kernel_rfl)) ⟨V_A,M.below⟩ ?_
                 refine xrH 22 77 rfl (.int .i64 ((bx:Nat):Int)) (fun _ hS=>(by kernel_rfl)) ⟨V_A,M.below⟩ ?_; refine xrH 23 78 rfl (.pointer (some (adR.add bx))) (fun _ hS=>idxSlE 29 3 _ _ .i64 _ adR hgR bx _ _ Try.underlying29 (fun _=>by kernel_rfl) hbr rfl rfl rfl _) ⟨V_A,M.below⟩ ?_
                 refine xrH 24 79 rfl (.int .i64 (bl rtt bx)) (fun _ hS=>load1 3 _ (adR.add bx) _ rfl rfl (fun _=>by kernel_rfl) (SrcI.atE21 (SrcI.below hsrc hS.2 (xnR _)) hgR hbr)) ⟨V_A,M.below⟩ ?_; refine xrH 25 80 rfl (.bool false) (fun _ hS=>lssI .i64 _ _ _ _ _ _ rfl rfl rfl false (decide_eq_false hcl) _) ⟨V_A,M.below⟩ ?_
                 refine xrH 26 81 rfl (.bool false) (fun _ hS=>(by kernel_rfl)) ⟨V_A,M.below⟩ ?_; refine xrH 27 82 rfl (.bool false) (fun _ hS=>(by kernel_rfl)) ⟨V_A,M.below⟩ ?_
                 refine wpAnyH_done (by kernel_rfl) ?_ _
                 first | show Exit.then _ _ _ _ _ | show Exit.inBlock _ _ _ _ _
                 have hb9:=show Hid _ from (show bst u (bl rtt) (k+1)=bst u (bl rtt) k from (bst_succ u (bl rtt) k).trans (if_neg (fun h_=>by first | (rw [huk] at h_; cases h_.1; done) | exact hcl (h_.2 bx hbx)))); have hbxH:=show Hid _ from hbx
                 have HS:=show Hid _ from (show I w18 (.pointer (some ⟨Ra,0,none⟩)) (fs5 last m (uf5 u)) ga∧OwnI w18 w0.heap.size (lv5 m) (.slice sA (lv5 m).length cA)∧Mm w0 ((obs sA)++(ga++([]:List (Nat × List Value)))) w18 from ⟨hIa,V_A,M⟩); clear M hIa V_A hbx; go_wp2
                 go_roundw
                 case rel=>exact ⟨k+1,by omega,by rw [hb9.out] <;> rw [hbxH.out] <;> rfl,by go_num,HS.out⟩
                 case measure=>simp [intOf]; omega
         · obtain rfl:m=k:=by omega
           obtain ⟨b,hb⟩:=bst_some (bl rtt) hufr m hfr
           rw [hb]
           obtain ⟨hbm,hub⟩:=bst_lt u (bl rtt) m b hb
           have hpN:=pick_fl5 last (m:=m) u rtt
           rw [hb] at hpN
           have hpN2:spN (fs5 last m (uf5 u)) (lv5 m) rtt=((5*b:Nat):Int):=hpN
           have hpA:spA (fs5 last m (uf5 u)) (lv5 m) rtt=((5*b:Nat):Int):=by unfold spA; rw [hpN2,if_neg (by omega)]
           have hpB:spB (fs5 last m (uf5 u)) (lv5 m) rtt=true:=by unfold spB; rw [hpN2]; exact decide_eq_true (by omega)
           have hpC:spc (fs5 last m (uf5 u)) (lv5 m) rtt=fs5 ((5*b:Nat):Int) m (uf5 u):=by unfold spc; rw [hpN2,if_neg (by omega)]; rfl
           go_upto_region 16 with fail; refine wp_region_list ?_; refine xpL (.int .i64 ((m:Nat):Int)) ?_; refine xpL (.slice sA ((lv5 m).length) cA) ?_; refine readL (.int .i64 (((lv5 m).length:Nat):Int)) rfl (lenS _ 29 3 sA ((lv5 m).length) cA rfl Try.underlying29 rfl _) ?_; simp only [aP,lI,l0,lS]
           refine xaL (.bool false) (lssI .i64 _ _ _ _ _ _ rfl rfl rfl false (decide_eq_false (by rw [lv5_len]; omega)) _) ?_; refine xT ?_; go_upto_region 20 with fail; refine wp_region_list ?_; refine xpL (.pointer (some ⟨Ra,0,none⟩)) ?_; refine xpL (.slice sA ((lv5 m).length) cA) ?_; refine xpL (.slice sp rtt.length cap) ?_
           have Mp:=M.perm (pull1 ([]:List (Nat × List Value)) (obs sA) ga ([]:List (Nat × List Value)))
           have key:=hK.pck w0 _ _ (fs5 last m (uf5 u)) ga _ (lv5 m) sA cA rtt sp cap (fs5_w hl1 hl2 hm16 (uf5_w u)) (Nat.lt_of_le_of_lt (fs5_sz _ (uf5_sz u) _) (by omega)) (by rw [lv5_len]; omega) (Own.le V_A) (Own.nilCap V_A) (lv5_in (by omega)) (OwnI.src21 V_A) (fun b_ hb_ _=>Mp.awayS (fun p_ hp_=>by simp [hp_]) b_ hb_) (by omega) hcap hnil hri (SrcI.below hsrc M.below (xnR _)) (fun b_ hb_ hne_ hm_=>by have h1_:=SrcI.old21 hsrc (List.length_pos_iff.2 hne_) b_ hm_; have h2_:=Mp.los b_ hb_; omega) hIa Mp
           rw [hpA] at key
           rw [hpB] at key
           rw [hpC] at key
           refine xcL key ?_; clear key; rintro e w19 ⟨ba1,rfl,hI_,M',o1⟩; replace V_A:=ownsRow_away V_A o1 (Mp.awayS (fun p_ hp_=>by simp [hp_])); clear o1 Mp M hIa; have hIa:=hI_; clear hI_
           have M:Mm w0 ((ba1++((obs sA)++([]:List (Nat × List Value))))) w19:=M'.perm (pull0 ([]:List (Nat × List Value)) ba1 ((obs sA)++([]:List (Nat × List Value)))).symm
           clear M'; refine xeL ?_; refine xpL (.tuple #[.int .i64 ((5*b:Nat):Int),.bool true]) ?_; refine xpL (.int .i64 ((5*b:Nat):Int)) ?_; refine xpL (.bool true) ?_; refine xpL (.int .i64 ((5*b:Nat):Int)) ?_; refine xpL (.bool true) ?_; refine xT ?_; go_upto_region 21 with fail; refine wp_region_list ?_; refine xpL (.bool true) ?_; refine xpL (.bool false) ?_
           refine xpL (.bool false) ?_; refine xpL (.int .i64 ((b:Nat):Int)) ?_; refine xaL (.bool false) (lssI .i64 _ _ _ _ _ _ rfl rfl rfl false (decide_eq_false (show ¬ ((b:Nat):Int)<0 by omega)) _) ?_; refine xpL (.bool false) ?_; refine xpL (.bool false) ?_; refine xpL (.int .i64 ((5*b:Nat):Int)) ?_; refine xpL (.slice sA ((lv5 m).length) cA) ?_
           refine xpL (.int .i64 ((b:Nat):Int)) ?_; refine xaL (.pointer (some (adA.add b))) (idxSlE 29 3 _ _ .i64 _ adA hgA b _ _ Try.underlying29 (fun _=>by kernel_rfl) (by rw [lv5_len]; exact hbm) rfl rfl rfl _) ?_
           refine xaL (.int .i64 ((5*b:Nat):Int)) (load1 3 _ (adA.add b) _ rfl rfl (fun _=>by kernel_rfl) ((SrcI.atE21 (OwnI.src21 V_A) hgA (by rw [lv5_len]; exact hbm)).trans (by rw [lv5_bl hbm]))) ?_; refine xaL (.bool false) (neqI .i64 _ _ _ _ _ _ rfl rfl rfl false (by rw [bne_eq_false_iff_eq]) _) ?_; refine xpL (.bool false) ?_; refine xT ?_; go_upto_region 23 with fail
           refine wp_region_list ?_; refine xpL (.int .i64 0) ?_; refine xT ?_; replace M:=(M.perm (pull1 ([]:List (Nat × List Value)) ba1 (obs sA) ([]:List (Nat × List Value)))).perm (pull0 ([]:List (Nat × List Value)) (obs sA) (ba1++([]:List (Nat × List Value)))).symm
           replace M:Mm w0 (((obs sA)++(ba1++([]:List (Nat × List Value))))) w19:=M
           rw [← up5_zero hub] at hIa
           have HI:=show Hid _ from (show I w19 (.pointer (some ⟨Ra,0,none⟩)) (fs5 ((5*b:Nat):Int) m (up5 u b 0)) ba1∧OwnI w19 w0.heap.size (lv5 m) (.slice sA (lv5 m).length cA)∧Mm w0 ((obs sA)++(ba1++([]:List (Nat × List Value)))) w19 from ⟨hIa,V_A,M⟩); clear M hIa V_A hpN hpN2 hpA hpB hpC hb; go_wp2
           go_loopw [12] (fun c_ w'=>∃ (c:Nat) (ga:List (Nat × List Value)),c≤4∧c_=.int .i64 (c:Int)∧I w' (.pointer (some ⟨Ra,0,none⟩)) (fs5 ((5*b:Nat):Int) m (up5 u b c)) ga∧OwnI w' w0.heap.size (lv5 m) (.slice sA (lv5 m).length cA)∧Mm w0 ((obs sA)++(ga++([]:List (Nat × List Value)))) w') (fun c_ _=>4-(intOf c_).toNat)
           case atStart=>exact ⟨0,_,by omega,rfl,HI.out⟩
           case round =>
            clear HI
            obtain ⟨c,ga,hc,rfl,hIa,V_A,M⟩:=hrel
            by_cases hc4:c<4
            · go_upto_region 24 with fail
              refine wp_region_list ?_; refine xpL (.int .i64 ((c:Nat):Int)) ?_; refine xaL (.bool true) (lssI .i64 _ _ _ _ _ _ rfl rfl rfl true (decide_eq_true (by omega)) _) ?_; refine xT ?_; go_upto_region 26 with fail; refine wp_region_list ?_; refine xpL (.pointer (some ⟨Ra,0,none⟩)) ?_; refine xpL (.int .i64 ((5*b:Nat):Int)) ?_; refine xpL (.int .i64 ((c:Nat):Int)) ?_
              have Mp:=M.perm (pull1 ([]:List (Nat × List Value)) (obs sA) ga ([]:List (Nat × List Value)))
              have key:=hK.snt w0 _ _ (fs5 ((5*b:Nat):Int) m (up5 u b c)) ga _ ((5*b:Nat):Int) ((c:Nat):Int) 0 [] none 0 (fs5_w (by omega) (by omega) hm16 (up5_w u b (by omega))) (Nat.lt_of_le_of_lt (fs5_sz _ (up5_sz u b (by omega)) _) (by omega)) (by unfold i64; omega) (by unfold i64; omega) (by unfold i64; decide) (by decide) (fun _ h_=>by cases h_) (RgW.nil0 _) (fun _ _ h_=>absurd rfl h_) hIa Mp
              rw [sent_fl5 _ m u b c hbm hc4] at key
              refine xcL key ?_; clear key; rintro e w20 ⟨ba1,rfl,hI_,M',o1⟩; replace V_A:=ownsRow_away V_A o1 (Mp.awayS (fun p_ hp_=>by simp [hp_])); clear o1 Mp M hIa; have hIa:=hI_; clear hI_
              have M:Mm w0 ((ba1++((obs sA)++([]:List (Nat × List Value))))) w20:=M'.perm (pull0 ([]:List (Nat × List Value)) ba1 ((obs sA)++([]:List (Nat × List Value)))).symm
              clear M'; refine xeL ?_; refine xT ?_; replace M:=(M.perm (pull1 ([]:List (Nat × List Value)) ba1 (obs sA) ([]:List (Nat × List Value)))).perm (pull0 ([]:List (Nat × List Value)) (obs sA) (ba1++([]:List (Nat × List Value)))).symm
              replace M:Mm w0 (((obs sA)++(ba1++([]:List (Nat × List Value))))) w20:=M
              have HS:=show Hid _ from (show I w20 (.pointer (some ⟨Ra,0,none⟩)) (fs5 ((5*b:Nat):Int) m (up5 u b (c+1))) ba1∧OwnI w20 w0.heap.size (lv5 m) (.slice sA (lv5 m).length cA)∧Mm w0 ((obs sA)++(ba1++([]:List (Nat × List Value)))) w20 from ⟨hIa,V_A,M⟩); clear M hIa V_A; go_wp2
              go_roundw
              case rel=>exact ⟨c+1,_,by omega,by go_num,HS.out⟩
              case measure=>simp [intOf]; omega
            · go_upto_region 24 with fail
              refine wp_region_list ?_; refine xpL (.int .i64 ((c:Nat):Int)) ?_; refine xaL (.bool false) (lssI .i64 _ _ _ _ _ _ rfl rfl rfl false (decide_eq_false (by omega)) _) ?_; refine xT ?_
              obtain rfl:c=4:=by omega
              rw [up5_four] at hIa
              have hcn2:=show Hid _ from (show ucn (uput u b) m=n+1 by rw [ucn_put hub,if_pos hbm,hcn.out]); have HS:=show Hid _ from (show I wr (.pointer (some ⟨Ra,0,none⟩)) (fs5 ((5*b:Nat):Int) m (uf5 (uput u b))) ga∧OwnI wr w0.heap.size (lv5 m) (.slice sA (lv5 m).length cA)∧Mm w0 ((obs sA)++(ga++([]:List (Nat × List Value)))) wr from ⟨hIa,V_A,M⟩)
              clear M hIa V_A; go_wp2
              go_roundw
              case rel=>exact ⟨n+1,_,_,_,by omega,hcn2,by omega,by omega,by go_num,HS.out⟩
              case measure=>simp [intOf]; omega
      · have hnm:n=m:=by omega
        have hall:=ucn_full u m (hcn.out.trans hnm); have hpN:=pick_fl5 last (m:=m) u rtt
        rw [bst_none (bl rtt) hall] at hpN
        have hpN2:spN (fs5 last m (uf5 u)) (lv5 m) rtt=-1:=hpN
        have hpA:spA (fs5 last m (uf5 u)) (lv5 m) rtt=0:=by unfold spA; rw [hpN2,if_pos (by decide)]
        have hpB:spB (fs5 last m (uf5 u)) (lv5 m) rtt=false:=by unfold spB; rw [hpN2]; rfl
        have hpC:spc (fs5 last m (uf5 u)) (lv5 m) rtt=fs5 last m (uf5 u):=by unfold spc; rw [hpN2,if_pos (by decide)]
        go_upto_region 12 with fail; refine wp_region_list ?_; refine xpL (.int .i64 ((n:Nat):Int)) ?_; refine xpL (.slice sA ((lv5 m).length) cA) ?_; refine readL (.int .i64 (((lv5 m).length:Nat):Int)) rfl (lenS _ 29 3 sA ((lv5 m).length) cA rfl Try.underlying29 rfl _) ?_; simp only [aP,lI,l0,lS]
        refine xaL (.bool false) (lssI .i64 _ _ _ _ _ _ rfl rfl rfl false (decide_eq_false (by rw [lv5_len]; omega)) _) ?_; refine xT ?_; go_upto_region 27 with fail; refine wp_region_list ?_; refine xpL (.pointer (some ⟨Ra,0,none⟩)) ?_; refine xpL (.slice sA ((lv5 m).length) cA) ?_; refine xpL (.slice sp rtt.length cap) ?_
        have Mp:=M.perm (pull1 ([]:List (Nat × List Value)) (obs sA) ga ([]:List (Nat × List Value)))
        have key:=hK.pck w0 _ _ (fs5 last m (uf5 u)) ga _ (lv5 m) sA cA rtt sp cap (fs5_w hl1 hl2 hm16 (uf5_w u)) (Nat.lt_of_le_of_lt (fs5_sz _ (uf5_sz u) _) (by omega)) (by rw [lv5_len]; omega) (Own.le V_A) (Own.nilCap V_A) (lv5_in (by omega)) (OwnI.src21 V_A) (fun b_ hb_ _=>Mp.awayS (fun p_ hp_=>by simp [hp_]) b_ hb_) (by omega) hcap hnil hri (SrcI.below hsrc M.below (xnR _)) (fun b_ hb_ hne_ hm_=>by have h1_:=SrcI.old21 hsrc (List.length_pos_iff.2 hne_) b_ hm_; have h2_:=Mp.los b_ hb_; omega) hIa Mp
        rw [hpA] at key
        rw [hpB] at key
        rw [hpC] at key
        refine xcL key ?_; clear key; rintro e w21 ⟨ba1,rfl,hI_,M',o1⟩; replace V_A:=ownsRow_away V_A o1 (Mp.awayS (fun p_ hp_=>by simp [hp_])); clear o1 Mp M hIa; have hIa:=hI_; clear hI_
        have M:Mm w0 ((ba1++((obs sA)++([]:List (Nat × List Value))))) w21:=M'.perm (pull0 ([]:List (Nat × List Value)) ba1 ((obs sA)++([]:List (Nat × List Value)))).symm
        clear M'; refine xeL ?_; refine xpL (.tuple #[.int .i64 0,.bool false]) ?_; refine xpL (.int .i64 0) ?_; refine xpL (.bool false) ?_; refine xpL (.int .i64 0) ?_; refine xpL (.bool false) ?_; refine xT ?_; clear hpN hpN2 hpA hpB hpC; go_upto_region 28 with fail; refine wp_region_list ?_; refine xpL (.bool false) ?_; refine xpL (.bool true) ?_; refine xpL (.bool true) ?_; refine xT ?_
        have hbel:=M.below; clear M hIa V_A; go_wp2; go_ret
        exact ⟨rfl,hbel⟩
end Go.Proofs.Ytmedjdadhmdpgaa
