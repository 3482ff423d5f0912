/- Texts of Ly Lp, joined. -/
import Derived.Test.YtklnibmfpcmeeaaGreatDoorP26ShakeAgrees
set_option maxRecDepth 20000
set_option maxHeartbeats 64000000
namespace Go.Proofs.YtklnibmfpcmeeaaGreatDoor
open Go.RowKit
theorem byts_app {a b:List Int} (ha:Byts a) (hb:Byts b):Byts (a++b):=fun x hx=>(List.mem_append.1 hx).elim (ha x) (hb x)
theorem shF_ok {s:Shk} {t m:List Int} {A:Shk} (h:shF LD s t=.ok (m,A)) (ht:Byts t) (hw:ShkW s):m.length=t.length+96∧Byts m∧A.step=1∧ShkW A:=by
 have hE:shE (shF LD s t)=0:=by rw [h]; rfl
 have hw':=shF_w hw t
 rw [h] at hw'
 by_cases c1:s.role≠0∨s.step≠0
 · rw [shF_state c1] at h; cases h
 by_cases c2:128<t.length
 · rw [shF_long c1 c2] at h; cases h
 by_cases c3:tm s.drw (bl s.its)=0
 · rw [shF_z1 c1 c2 c3] at h; cases h
 by_cases c4:tm s.sec (bl s.its)=0
 · rw [shF_z2 c1 c2 c3 c4] at h; cases h
 rw [shF_eq (L:=LD) (Decidable.not_not.1 (not_or.1 c1).1) (Decidable.not_not.1 (not_or.1 c1).2) (by omega) (LD_some c3) (LD_some c4)] at h
 injection h with h
 injection h with h1 h2
 subst h1 h2
 refine ⟨?_,byts_app (LD_ok.byt _) (byts_app (sout_byts (LD_ok.byt _)) (sout_byts ht)),rfl,hw'⟩
 rw [List.length_append,List.length_append,LD_ok.len,sout_len rfl,sout_len rfl,LD_ok.len]
 omega
theorem shS_ok {s:Shk} {t m:List Int} {A:Shk} (h:shS LD s t=.ok (m,A)) (ht:Byts t) (hw:ShkW s):m.length=t.length+48∧Byts m∧ShkW A:=by
 have hw':=shS_w hw t
 rw [h] at hw'
 by_cases c1:s.role≠1∨s.step≠1
 · rw [shS_state c1] at h; cases h
 by_cases c2:128<t.length
 · rw [shS_long c1 c2] at h; cases h
 by_cases c3:tm s.drw (bl s.drn)=0
 · rw [shS_z1 c1 c2 c3] at h; cases h
 by_cases c4:tm s.drw (bl s.its)=0
 · rw [shS_z2 c1 c2 c3 c4] at h; cases h
 rw [shS_eq (L:=LD) (Decidable.not_not.1 (not_or.1 c1).1) (Decidable.not_not.1 (not_or.1 c1).2) (by omega) (LD_some c3) (LD_some c4)] at h
 injection h with h
 injection h with h1 h2
 subst h1 h2
 refine ⟨?_,byts_app (LD_ok.byt _) (sout_byts ht),hw'⟩
 rw [List.length_append,LD_ok.len,sout_len rfl]
 omega
theorem shTF_okw {s:Shk} {b m:List Int} {A:Shk} (h:shTF LD s b=.ok (m,A)) (hb:Byts b) (hw:ShkW s):ShkW A:=by
 have hw':=shTF_w hw b hb
 rw [h] at hw'
 exact hw'
theorem shTS_okw {s:Shk} {b m:List Int} {A:Shk} (h:shTS LD s b=.ok (m,A)) (hw:ShkW s):ShkW A:=by
 have hw':=shTS_w hw b
 rw [h] at hw'
 exact hw'
theorem shown13_any {I:Value→Shk→List (Nat × List Value)→Prop} (hK:ShkOK I) (w0:World) (hg:HGlob13 w0) :
 Calls Tryz.prog 6 #[] w0 fun e w'=>e=.returned (.bool true)∧Below w0.heap.size w0 w':=by
 obtain ⟨m1,A1,B1,m2,A2,B2,h1,h2,h3,h4,h5,h6,h7,-⟩:=sh_agree LD_ok (one 1) (one 3) (one 2) (one 4) [104,105] [121,111] (by decide) (by unfold Byts; decide) (by decide) (by unfold Byts; decide)
 have hwa:=shBegin_w (one_b 1 (by decide) (by decide)) (one_b 3 (by decide) (by decide)) (LD_ok.len (one 2)) (LD_ok.byt (one 2)); have hwb:=shAwait_w (one_b 2 (by decide) (by decide)) (one_b 4 (by decide) (by decide))
 obtain ⟨l1,y1,s1,hwA1⟩:=shF_ok h1 (by unfold Byts; decide) hwa
 have hwB1:=shTF_okw h2 y1 hwb
 obtain ⟨l2,y2,hwB2⟩:=shS_ok h3 (by unfold Byts; decide) hwB1
 have hwA2:=shTS_okw h4 hwA1
 have e0:shTS LD (shBegin (one 1) (one 3) (LD.pub (one 2))) (szs 48)=.error 4:=shTS_state (.inr (by decide))
 have e1:shF LD A1 [104,105]=.error 4:=shF_state (.inr (by rw [s1]; decide))
 have e2:=shF_shz (one 1) (one 3); have k1:=shK_2 h6; have k2:=shK_2 h7
 rw [← h5] at k2
 have d1:=shD_2 h6; have d2:=shD_2 h7
 have g1:m1.length=98:=l1
 have g2:m2.length=50:=l2
 clear l1 l2 s1; replace h1:=show Hid _ from h1; replace h2:=show Hid _ from h2; replace h3:=show Hid _ from h3; replace h4:=show Hid _ from h4; replace h5:=show Hid _ from h5; replace h6:=show Hid _ from h6; replace h7:=show Hid _ from h7; replace e0:=show Hid _ from e0; replace e1:=show Hid _ from e1; replace e2:=show Hid _ from e2; replace k1:=show Hid _ from k1
 replace k2:=show Hid _ from k2; replace d1:=show Hid _ from d1; replace d2:=show Hid _ from d2; replace g1:=show Hid _ from g1; replace g2:=show Hid _ from g2; have M:=Mm.init w0
 go_enter Tryz.func6,Tryz.ntmps6
 go_upto_region 0 with fail; refine wp_region_list ?_; refine xpL (.bool false) ?_; refine xT ?_; go_upto_region 1 with fail; refine wp_region_list ?_; refine xpL (.agg (row .u8 32 (one 1)).toArray) ?_; refine xpL (.agg (row .u8 32 (one 3)).toArray) ?_; refine xpL (.agg (row .u8 32 (one 2)).toArray) ?_; refine xcL (lpublic_any (one 2) (one_b 2 (by decide) (by decide)) _ (hg.mm M).k (hg.mm M).t) ?_
 rintro e w1 ⟨rfl,l⟩; replace M:=M.call l; clear l; refine xeL ?_; have key:=hK.beg w0 _ _ (one 1) (one 3) (LD.pub (one 2)) hg (one_b 1 (by decide) (by decide)) (one_b 3 (by decide) (by decide)) (LD_ok.len (one 2)) (LD_ok.byt (one 2)) M; refine xcL key ?_; clear key; rintro e w2 ⟨v_,ba0,rfl,hIa,-,M',l⟩
 obtain ⟨Ra,rfl⟩:=hK.ptr _ _ _ hIa
 have hqa:=M'.lts
 have hWa:ShkW (shBegin (one 1) (one 3) (LD.pub (one 2))):=hwa
 have hbz_a:=xnR w2.heap.size; clear M; have M:=M'.perm (pull0 ([]:List (Nat × List Value)) ba0 ([]:List (Nat × List Value))).symm; clear M'; clear l
 replace M:Mm w0 ((ba0++([]:List (Nat × List Value)))) w2:=M
 refine xeL ?_; refine xpL (.pointer (some ⟨Ra,0,none⟩)) ?_; refine xT ?_; go_upto_region 2 with fail; refine wp_region_list ?_; refine xpL (.agg (row .u8 32 (one 2)).toArray) ?_; refine xpL (.agg (row .u8 32 (one 4)).toArray) ?_; have key:=hK.awt w0 _ _ (one 2) (one 4) hg (one_b 2 (by decide) (by decide)) (one_b 4 (by decide) (by decide)) M; refine xcL key ?_; clear key
 rintro e w3 ⟨v_,bb0,rfl,hIb,-,M',l⟩
 obtain ⟨Rb,rfl⟩:=hK.ptr _ _ _ hIb
 have hqb:=M'.lts
 have hWb:ShkW (shAwait LD (one 2) (one 4)):=hwb
 have hbz_b:=xnR w3.heap.size; clear M; have M:=M'.perm (pull0 ([]:List (Nat × List Value)) bb0 (ba0++([]:List (Nat × List Value)))).symm; clear M'; replace hbz_a:=xnT hbz_a l.size; clear l
 replace M:Mm w0 ((bb0++(ba0++([]:List (Nat × List Value))))) w3:=M
 refine xeL ?_; refine xpL (.pointer (some ⟨Rb,0,none⟩)) ?_; refine xT ?_; go_upto_region 3 with fail; refine wp_region_list ?_; refine xpL (.agg (row .u8 32 (one 1)).toArray) ?_; refine xpL (.agg (row .u8 32 (one 3)).toArray) ?_; refine xpL (.agg (row .u8 32 (fun _=>0)).toArray) ?_
 have key:=hK.beg w0 _ _ (one 1) (one 3) shz hg (one_b 1 (by decide) (by decide)) (one_b 3 (by decide) (by decide)) rfl (szs_byts 32) M; refine xcL key ?_; clear key; rintro e w4 ⟨v_,bc0,rfl,hIc,-,M',l⟩
 obtain ⟨Rc,rfl⟩:=hK.ptr _ _ _ hIc
 have hqc:=M'.lts
 have hWc:ShkW (shBegin (one 1) (one 3) shz):=shBegin_w (one_b 1 (by decide) (by decide)) (one_b 3 (by decide) (by decide)) rfl (szs_byts 32)
 have hbz_c:=xnR w4.heap.size; clear M; have M:=M'.perm (pull0 ([]:List (Nat × List Value)) bc0 (bb0++(ba0++([]:List (Nat × List Value))))).symm; clear M'; replace hbz_a:=xnT hbz_a l.size; replace hbz_b:=xnT hbz_b l.size; clear l
 replace M:Mm w0 ((bc0++(bb0++(ba0++([]:List (Nat × List Value)))))) w4:=M
 refine xeL ?_; refine xpL (.pointer (some ⟨Rc,0,none⟩)) ?_; refine xT ?_; go_upto_region 4 with fail; refine wp_region_list ?_; refine xpL (.pointer (some ⟨Ra,0,none⟩)) ?_; refine xpL (.bool false) ?_; refine xpL (.bool false) ?_; refine xpL (.pointer (some ⟨Rb,0,none⟩)) ?_; refine xpL (.bool false) ?_; refine xpL (.bool false) ?_; refine xpL (.bool false) ?_
 refine xpL (.pointer (some ⟨Rc,0,none⟩)) ?_; refine xpL (.bool false) ?_; refine xpL (.bool false) ?_; refine xT ?_; go_upto_region 6 with fail; refine wp_region_list ?_; refine xpL (.pointer (some ⟨Ra,0,none⟩)) ?_; have hlb:=(Below.refl w4.heap.size w4).alloc (xnR _) (.cells (row .u8 48 (bl (szs 48))).toArray 5)
 refine actL (w':=w4.alloc (.cells (row .u8 48 (bl (szs 48))).toArray 5)) (.slice (some ⟨w4.heap.size,0,none⟩) 48 48) rfl (by kernel_rfl) ?_; simp only [aP,lI,l0,lS]; replace hbz_a:=xnT hbz_a hlb.size; replace hbz_b:=xnT hbz_b hlb.size; replace hbz_c:=xnT hbz_c hlb.size; replace M:=M.box (row .u8 48 (bl (szs 48))).toArray 5 w4.heap.size rfl; clear hlb
 generalize w4.alloc (.cells (row .u8 48 (bl (szs 48))).toArray 5)=w5 at M hbz_a hbz_b hbz_c ⊢
 have hA_B5:w4.heap.size≤w4.heap.size:=xnR _
 generalize eB_:w4.heap.size=B5 at M hA_B5 ⊢
 replace hA_B5:w4.heap.size≤B5:=Nat.le_of_eq eB_
 clear eB_
 replace M:Mm w0 ((B5,row .u8 48 (bl (szs 48)))::(bc0++(bb0++(ba0++([]:List (Nat × List Value)))))) w5:=M
 have Mp:=M.perm (pull2 ([(B5,row .u8 48 (bl (szs 48)))]:List (Nat × List Value)) bc0 bb0 ba0 ([]:List (Nat × List Value)))
 have key:=hK.tsn w0 _ _ (shBegin (one 1) (one 3) (LD.pub (one 2))) ba0 _ hg hIa hWa (some ⟨B5,0,none⟩) 48 (szs 48) (by rw [szs_len]; decide) (by rw [szs_len]; decide) (fun e=>by cases e) (szs_byts 48) Mp (show SrcA _ _ _ _ _ from ⟨(by rw [szs_len]; exact M.srcRow mS 0 48 _ (by rw [List.drop_zero,List.take_length])),fun ad e _=>by cases e; exact Mp.beside mS⟩)
 rw [e0.out] at key
 simp only [shE,shB,shN] at key
 refine xcL key ?_; clear key; rintro e w6 ⟨⟨v6,rfl,N_6⟩,ba1,hI_,hsub,M',o1⟩
 have hq_:∀ b∈ba1.map Prod.fst,b<_:=fun b hb=>by
  obtain ⟨p,hp,rfl⟩:=List.mem_map.1 hb
  exact hqa _ (hsub p hp)
 have hs_6_a:=hbz_a; replace hbz_a:=xnT hbz_a o1.size; have hs_6_b:=hbz_b; replace hbz_b:=xnT hbz_b o1.size; have hs_6_c:=hbz_c; replace hbz_c:=xnT hbz_c o1.size; clear o1 hsub Mp M hIa hqa; have hIa:=hI_; have hqa:=hq_; clear hI_ hq_
 replace hWa:ShkW (shBegin (one 1) (one 3) (LD.pub (one 2))):=hwa
 have M:Mm w0 ((B5,row .u8 48 (bl (szs 48)))::(bc0++(bb0++(ba1++([]:List (Nat × List Value)))))) w6:=M'.perm (pull2 ([(B5,row .u8 48 (bl (szs 48)))]:List (Nat × List Value)) bc0 bb0 ba1 ([]:List (Nat × List Value))).symm
 clear M' ba0
 obtain ⟨p6,c6,rfl,hcc_6,hnn_6,_,_⟩:=id N_6
 refine xeL ?_; refine xpL (.tuple #[.slice p6 (([]:List Int).length) c6,.int .i64 4]) ?_; refine xpL (.slice p6 (([]:List Int).length) c6) ?_; refine xpL (.int .i64 4) ?_; refine xpL (.slice p6 (([]:List Int).length) c6) ?_; refine xpL (.int .i64 4) ?_; refine xT ?_; go_upto_region 7 with fail; refine wp_region_list ?_; refine xpL (.pointer (some ⟨Ra,0,none⟩)) ?_
 refine actL (w':=w6.alloc (.cells #[.int .u8 104,.int .u8 105] 5)) (.slice (some ⟨w6.heap.size,0,none⟩) 2 2) rfl (by kernel_rfl) ?_; simp only [aP,lI,l0,lS]
 refine actL (w':=w6.alloc (.cells #[.int .u8 104,.int .u8 105] 5 ((#[.int .u8 104,.int .u8 105]:Array Value).size,(#[.int .u8 104,.int .u8 105]:Array Value).size+1))) (.slice (some ⟨w6.heap.size,0,none⟩) 2 2) rfl (conv_const 32 5 #[.int .u8 104,.int .u8 105] 2 2 _ rfl rfl Tryz.underlying32 Tryz.underlying5) ?_; simp only [aP,lI,l0,lS]
 have hlb:=(Below.refl w6.heap.size w6).alloc (xnR _) (.cells #[.int .u8 104,.int .u8 105] 5 ((#[.int .u8 104,.int .u8 105]:Array Value).size,(#[.int .u8 104,.int .u8 105]:Array Value).size+1)); replace hbz_a:=xnT hbz_a hlb.size; replace hbz_b:=xnT hbz_b hlb.size; replace hbz_c:=xnT hbz_c hlb.size; replace N_6:=NewF.below N_6 hlb
 replace M:=M.boxC #[.int .u8 104,.int .u8 105] 5 (((#[.int .u8 104,.int .u8 105]:Array Value)).size,((#[.int .u8 104,.int .u8 105]:Array Value)).size+1) w6.heap.size rfl (xnR _); clear hlb
 generalize w6.alloc (.cells #[.int .u8 104,.int .u8 105] 5 ((#[.int .u8 104,.int .u8 105]:Array Value).size,(#[.int .u8 104,.int .u8 105]:Array Value).size+1))=w7 at M hbz_a hbz_b hbz_c N_6 ⊢
 have hA_B7:w6.heap.size≤w6.heap.size:=xnR _
 generalize eB_:w6.heap.size=B7 at M hA_B7 ⊢
 replace hA_B7:w6.heap.size≤B7:=Nat.le_of_eq eB_
 clear eB_
 replace M:Mm w0 ((B7,[.int .u8 104,.int .u8 105])::(B5,row .u8 48 (bl (szs 48)))::(bc0++(bb0++(ba1++([]:List (Nat × List Value)))))) w7:=M
 have Mp:=M.perm (pull2 ([(B7,[.int .u8 104,.int .u8 105]),(B5,row .u8 48 (bl (szs 48)))]:List (Nat × List Value)) bc0 bb0 ba1 ([]:List (Nat × List Value)))
 have key:=hK.fst w0 _ _ (shBegin (one 1) (one 3) (LD.pub (one 2))) ba1 _ hg hIa hWa (some ⟨B7,0,none⟩) 2 ([104,105]) (by decide) (by decide) (fun e=>by cases e) (by unfold Byts; decide) Mp (show SrcA _ _ _ _ _ from ⟨(M.src mS [104,105] rfl),fun ad e _=>by cases e; exact Mp.beside mS⟩)
 rw [h1.out] at key
 simp only [shE,shB,shN] at key
 refine xcL key ?_; clear key; rintro e w8 ⟨⟨v8,rfl,N_8⟩,ba2,hI_,hsub,M',o1⟩
 have hq_:∀ b∈ba2.map Prod.fst,b<_:=fun b hb=>by
  obtain ⟨p,hp,rfl⟩:=List.mem_map.1 hb
  exact hqa _ (hsub p hp)
 have hs_8_a:=hbz_a; replace hbz_a:=xnT hbz_a o1.size; have hs_8_b:=hbz_b; replace hbz_b:=xnT hbz_b o1.size; have hs_8_c:=hbz_c; replace hbz_c:=xnT hbz_c o1.size; replace N_6:=NewF.off N_6 o1 (fun b_ hb_=>xnL (hqa b_ hb_) hs_6_a); clear o1 hsub Mp M hIa hqa; have hIa:=hI_; have hqa:=hq_; clear hI_ hq_
 replace hWa:ShkW A1:=hwA1
 have M:Mm w0 ((B7,[.int .u8 104,.int .u8 105])::(B5,row .u8 48 (bl (szs 48)))::(bc0++(bb0++(ba2++([]:List (Nat × List Value)))))) w8:=M'.perm (pull2 ([(B7,[.int .u8 104,.int .u8 105]),(B5,row .u8 48 (bl (szs 48)))]:List (Nat × List Value)) bc0 bb0 ba2 ([]:List (Nat × List Value))).symm
 clear M' ba1
 obtain ⟨p8,c8,rfl,hcc_8,hnn_8,_,_⟩:=id N_8
 refine xeL ?_; refine xpL (.tuple #[.slice p8 ((m1).length) c8,.int .i64 0]) ?_; refine xpL (.slice p8 ((m1).length) c8) ?_; refine xpL (.int .i64 0) ?_; refine xpL (.slice p8 ((m1).length) c8) ?_; refine xpL (.int .i64 0) ?_; refine xT ?_; go_upto_region 8 with fail; refine wp_region_list ?_; refine xpL (.pointer (some ⟨Ra,0,none⟩)) ?_
 refine actL (w':=w8.alloc (.cells #[.int .u8 104,.int .u8 105] 5)) (.slice (some ⟨w8.heap.size,0,none⟩) 2 2) rfl (by kernel_rfl) ?_; simp only [aP,lI,l0,lS]
 refine actL (w':=w8.alloc (.cells #[.int .u8 104,.int .u8 105] 5 ((#[.int .u8 104,.int .u8 105]:Array Value).size,(#[.int .u8 104,.int .u8 105]:Array Value).size+1))) (.slice (some ⟨w8.heap.size,0,none⟩) 2 2) rfl (conv_const 32 5 #[.int .u8 104,.int .u8 105] 2 2 _ rfl rfl Tryz.underlying32 Tryz.underlying5) ?_; simp only [aP,lI,l0,lS]
 have hlb:=(Below.refl w8.heap.size w8).alloc (xnR _) (.cells #[.int .u8 104,.int .u8 105] 5 ((#[.int .u8 104,.int .u8 105]:Array Value).size,(#[.int .u8 104,.int .u8 105]:Array Value).size+1)); replace hbz_a:=xnT hbz_a hlb.size; replace hbz_b:=xnT hbz_b hlb.size; replace hbz_c:=xnT hbz_c hlb.size; replace N_6:=NewF.below N_6 hlb; replace N_8:=NewF.below N_8 hlb
 replace M:=M.boxC #[.int .u8 104,.int .u8 105] 5 (((#[.int .u8 104,.int .u8 105]:Array Value)).size,((#[.int .u8 104,.int .u8 105]:Array Value)).size+1) w8.heap.size rfl (xnR _); clear hlb
 generalize w8.alloc (.cells #[.int .u8 104,.int .u8 105] 5 ((#[.int .u8 104,.int .u8 105]:Array Value).size,(#[.int .u8 104,.int .u8 105]:Array Value).size+1))=w9 at M hbz_a hbz_b hbz_c N_6 N_8 ⊢
 have hA_B9:w8.heap.size≤w8.heap.size:=xnR _
 generalize eB_:w8.heap.size=B9 at M hA_B9 ⊢
 replace hA_B9:w8.heap.size≤B9:=Nat.le_of_eq eB_
 clear eB_
 replace M:Mm w0 ((B9,[.int .u8 104,.int .u8 105])::(B7,[.int .u8 104,.int .u8 105])::(B5,row .u8 48 (bl (szs 48)))::(bc0++(bb0++(ba2++([]:List (Nat × List Value)))))) w9:=M
 have Mp:=M.perm (pull2 ([(B9,[.int .u8 104,.int .u8 105]),(B7,[.int .u8 104,.int .u8 105]),(B5,row .u8 48 (bl (szs 48)))]:List (Nat × List Value)) bc0 bb0 ba2 ([]:List (Nat × List Value)))
 have key:=hK.fst w0 _ _ A1 ba2 _ hg hIa hWa (some ⟨B9,0,none⟩) 2 ([104,105]) (by decide) (by decide) (fun e=>by cases e) (by unfold Byts; decide) Mp (show SrcA _ _ _ _ _ from ⟨(M.src mS [104,105] rfl),fun ad e _=>by cases e; exact Mp.beside mS⟩)
 rw [e1.out] at key
 simp only [shE,shB,shN] at key
 refine xcL key ?_; clear key; rintro e w10 ⟨⟨v10,rfl,N_10⟩,ba3,hI_,hsub,M',o1⟩
 have hq_:∀ b∈ba3.map Prod.fst,b<_:=fun b hb=>by
  obtain ⟨p,hp,rfl⟩:=List.mem_map.1 hb
  exact hqa _ (hsub p hp)
 have hs_10_a:=hbz_a; replace hbz_a:=xnT hbz_a o1.size; have hs_10_b:=hbz_b; replace hbz_b:=xnT hbz_b o1.size; have hs_10_c:=hbz_c; replace hbz_c:=xnT hbz_c o1.size; replace N_6:=NewF.off N_6 o1 (fun b_ hb_=>xnL (hqa b_ hb_) hs_6_a); replace N_8:=NewF.off N_8 o1 (fun b_ hb_=>xnL (hqa b_ hb_) hs_8_a); clear o1 hsub Mp M hIa hqa; have hIa:=hI_; have hqa:=hq_; clear hI_ hq_
 replace hWa:ShkW A1:=hwA1
 have M:Mm w0 ((B9,[.int .u8 104,.int .u8 105])::(B7,[.int .u8 104,.int .u8 105])::(B5,row .u8 48 (bl (szs 48)))::(bc0++(bb0++(ba3++([]:List (Nat × List Value)))))) w10:=M'.perm (pull2 ([(B9,[.int .u8 104,.int .u8 105]),(B7,[.int .u8 104,.int .u8 105]),(B5,row .u8 48 (bl (szs 48)))]:List (Nat × List Value)) bc0 bb0 ba3 ([]:List (Nat × List Value))).symm
 clear M' ba2
 obtain ⟨p10,c10,rfl,hcc_10,hnn_10,_,_⟩:=id N_10
 refine xeL ?_; refine xpL (.tuple #[.slice p10 (([]:List Int).length) c10,.int .i64 4]) ?_; refine xpL (.slice p10 (([]:List Int).length) c10) ?_; refine xpL (.int .i64 4) ?_; refine xpL (.slice p10 (([]:List Int).length) c10) ?_; refine xpL (.int .i64 4) ?_; refine xT ?_; go_upto_region 9 with fail; refine wp_region_list ?_; refine xpL (.pointer (some ⟨Rb,0,none⟩)) ?_
 refine xpL (.slice p8 ((m1).length) c8) ?_; have Mp:=M.perm (pull1 ([(B9,[.int .u8 104,.int .u8 105]),(B7,[.int .u8 104,.int .u8 105]),(B5,row .u8 48 (bl (szs 48)))]:List (Nat × List Value)) bc0 bb0 (ba3++([]:List (Nat × List Value))))
 have key:=hK.tfs w0 _ _ (shAwait LD (one 2) (one 4)) bb0 _ hg hIb hWb p8 c8 m1 (by rw [g1.out]; decide) hcc_8 hnn_8 y1 Mp (NewF.srcA N_8 (fun b_ hb_=>xnL (hqb b_ hb_) hs_8_b))
 rw [h2.out] at key
 simp only [shE,shB,shN] at key
 refine xcL key ?_; clear key; rintro e w11 ⟨⟨v11,rfl,N_11⟩,bb1,hI_,hsub,M',o1⟩
 have hq_:∀ b∈bb1.map Prod.fst,b<_:=fun b hb=>by
  obtain ⟨p,hp,rfl⟩:=List.mem_map.1 hb
  exact hqb _ (hsub p hp)
 have hs_11_a:=hbz_a; replace hbz_a:=xnT hbz_a o1.size; have hs_11_b:=hbz_b; replace hbz_b:=xnT hbz_b o1.size; have hs_11_c:=hbz_c; replace hbz_c:=xnT hbz_c o1.size; replace N_6:=NewF.off N_6 o1 (fun b_ hb_=>xnL (hqb b_ hb_) hs_6_b); replace N_8:=NewF.off N_8 o1 (fun b_ hb_=>xnL (hqb b_ hb_) hs_8_b); replace N_10:=NewF.off N_10 o1 (fun b_ hb_=>xnL (hqb b_ hb_) hs_10_b)
 clear o1 hsub Mp M hIb hqb; have hIb:=hI_; have hqb:=hq_; clear hI_ hq_
 replace hWb:ShkW B1:=hwB1
 have M:Mm w0 ((B9,[.int .u8 104,.int .u8 105])::(B7,[.int .u8 104,.int .u8 105])::(B5,row .u8 48 (bl (szs 48)))::(bc0++(bb1++(ba3++([]:List (Nat × List Value)))))) w11:=M'.perm (pull1 ([(B9,[.int .u8 104,.int .u8 105]),(B7,[.int .u8 104,.int .u8 105]),(B5,row .u8 48 (bl (szs 48)))]:List (Nat × List Value)) bc0 bb1 (ba3++([]:List (Nat × List Value)))).symm
 clear M' bb0
 obtain ⟨p11,c11,rfl,hcc_11,hnn_11,_,_⟩:=id N_11
 refine xeL ?_; refine xpL (.tuple #[.slice p11 (([104,105]).length) c11,.int .i64 0]) ?_; refine xpL (.slice p11 (([104,105]).length) c11) ?_; refine xpL (.int .i64 0) ?_; refine xpL (.slice p11 (([104,105]).length) c11) ?_; refine xpL (.int .i64 0) ?_; refine xT ?_; go_upto_region 10 with fail; refine wp_region_list ?_; refine xpL (.pointer (some ⟨Rb,0,none⟩)) ?_
 refine actL (w':=w11.alloc (.cells #[.int .u8 121,.int .u8 111] 5)) (.slice (some ⟨w11.heap.size,0,none⟩) 2 2) rfl (by kernel_rfl) ?_; simp only [aP,lI,l0,lS]
 refine actL (w':=w11.alloc (.cells #[.int .u8 121,.int .u8 111] 5 ((#[.int .u8 121,.int .u8 111]:Array Value).size,(#[.int .u8 121,.int .u8 111]:Array Value).size+1))) (.slice (some ⟨w11.heap.size,0,none⟩) 2 2) rfl (conv_const 32 5 #[.int .u8 121,.int .u8 111] 2 2 _ rfl rfl Tryz.underlying32 Tryz.underlying5) ?_; simp only [aP,lI,l0,lS]
 have hlb:=(Below.refl w11.heap.size w11).alloc (xnR _) (.cells #[.int .u8 121,.int .u8 111] 5 ((#[.int .u8 121,.int .u8 111]:Array Value).size,(#[.int .u8 121,.int .u8 111]:Array Value).size+1)); replace hbz_a:=xnT hbz_a hlb.size; replace hbz_b:=xnT hbz_b hlb.size; replace hbz_c:=xnT hbz_c hlb.size; replace N_6:=NewF.below N_6 hlb; replace N_8:=NewF.below N_8 hlb
 replace N_10:=NewF.below N_10 hlb; replace N_11:=NewF.below N_11 hlb; replace M:=M.boxC #[.int .u8 121,.int .u8 111] 5 (((#[.int .u8 121,.int .u8 111]:Array Value)).size,((#[.int .u8 121,.int .u8 111]:Array Value)).size+1) w11.heap.size rfl (xnR _); clear hlb
 generalize w11.alloc (.cells #[.int .u8 121,.int .u8 111] 5 ((#[.int .u8 121,.int .u8 111]:Array Value).size,(#[.int .u8 121,.int .u8 111]:Array Value).size+1))=w12 at M hbz_a hbz_b hbz_c N_6 N_8 N_10 N_11 ⊢
 have hA_B12:w11.heap.size≤w11.heap.size:=xnR _
 generalize eB_:w11.heap.size=B12 at M hA_B12 ⊢
 replace hA_B12:w11.heap.size≤B12:=Nat.le_of_eq eB_
 clear eB_
 replace M:Mm w0 ((B12,[.int .u8 121,.int .u8 111])::(B9,[.int .u8 104,.int .u8 105])::(B7,[.int .u8 104,.int .u8 105])::(B5,row .u8 48 (bl (szs 48)))::(bc0++(bb1++(ba3++([]:List (Nat × List Value)))))) w12:=M
 have Mp:=M.perm (pull1 ([(B12,[.int .u8 121,.int .u8 111]),(B9,[.int .u8 104,.int .u8 105]),(B7,[.int .u8 104,.int .u8 105]),(B5,row .u8 48 (bl (szs 48)))]:List (Nat × List Value)) bc0 bb1 (ba3++([]:List (Nat × List Value))))
 have key:=hK.snd w0 _ _ B1 bb1 _ hg hIb hWb (some ⟨B12,0,none⟩) 2 ([121,111]) (by decide) (by decide) (fun e=>by cases e) (by unfold Byts; decide) Mp (show SrcA _ _ _ _ _ from ⟨(M.src mS [121,111] rfl),fun ad e _=>by cases e; exact Mp.beside mS⟩)
 rw [h3.out] at key
 simp only [shE,shB,shN] at key
 refine xcL key ?_; clear key; rintro e w13 ⟨⟨v13,rfl,N_13⟩,bb2,hI_,hsub,M',o1⟩
 have hq_:∀ b∈bb2.map Prod.fst,b<_:=fun b hb=>by
  obtain ⟨p,hp,rfl⟩:=List.mem_map.1 hb
  exact hqb _ (hsub p hp)
 have hs_13_a:=hbz_a; replace hbz_a:=xnT hbz_a o1.size; have hs_13_b:=hbz_b; replace hbz_b:=xnT hbz_b o1.size; have hs_13_c:=hbz_c; replace hbz_c:=xnT hbz_c o1.size; replace N_6:=NewF.off N_6 o1 (fun b_ hb_=>xnL (hqb b_ hb_) hs_6_b); replace N_8:=NewF.off N_8 o1 (fun b_ hb_=>xnL (hqb b_ hb_) hs_8_b); replace N_10:=NewF.off N_10 o1 (fun b_ hb_=>xnL (hqb b_ hb_) hs_10_b)
 replace N_11:=NewF.off N_11 o1 (fun b_ hb_=>xnL (hqb b_ hb_) hs_11_b); clear o1 hsub Mp M hIb hqb; have hIb:=hI_; have hqb:=hq_; clear hI_ hq_
 replace hWb:ShkW B2:=hwB2
 have M:Mm w0 ((B12,[.int .u8 121,.int .u8 111])::(B9,[.int .u8 104,.int .u8 105])::(B7,[.int .u8 104,.int .u8 105])::(B5,row .u8 48 (bl (szs 48)))::(bc0++(bb2++(ba3++([]:List (Nat × List Value)))))) w13:=M'.perm (pull1 ([(B12,[.int .u8 121,.int .u8 111]),(B9,[.int .u8 104,.int .u8 105]),(B7,[.int .u8 104,.int .u8 105]),(B5,row .u8 48 (bl (szs 48)))]:List (Nat × List Value)) bc0 bb2 (ba3++([]:List (Nat × List Value)))).symm
 clear M' bb1
 obtain ⟨p13,c13,rfl,hcc_13,hnn_13,_,_⟩:=id N_13
 refine xeL ?_; refine xpL (.tuple #[.slice p13 ((m2).length) c13,.int .i64 0]) ?_; refine xpL (.slice p13 ((m2).length) c13) ?_; refine xpL (.int .i64 0) ?_; refine xpL (.slice p13 ((m2).length) c13) ?_; refine xpL (.int .i64 0) ?_; refine xT ?_; go_upto_region 11 with fail; refine wp_region_list ?_; refine xpL (.pointer (some ⟨Ra,0,none⟩)) ?_; refine xpL (.slice p13 ((m2).length) c13) ?_
 have Mp:=M.perm (pull2 ([(B12,[.int .u8 121,.int .u8 111]),(B9,[.int .u8 104,.int .u8 105]),(B7,[.int .u8 104,.int .u8 105]),(B5,row .u8 48 (bl (szs 48)))]:List (Nat × List Value)) bc0 bb2 ba3 ([]:List (Nat × List Value))); have key:=hK.tsn w0 _ _ A1 ba3 _ hg hIa hWa p13 c13 m2 (by rw [g2.out]; decide) hcc_13 hnn_13 y2 Mp (NewF.srcA N_13 (fun b_ hb_=>xnL (hqa b_ hb_) hs_13_a))
 rw [h4.out] at key
 simp only [shE,shB,shN] at key
 refine xcL key ?_; clear key; rintro e w14 ⟨⟨v14,rfl,N_14⟩,ba4,hI_,hsub,M',o1⟩
 have hq_:∀ b∈ba4.map Prod.fst,b<_:=fun b hb=>by
  obtain ⟨p,hp,rfl⟩:=List.mem_map.1 hb
  exact hqa _ (hsub p hp)
 have hs_14_a:=hbz_a; replace hbz_a:=xnT hbz_a o1.size; have hs_14_b:=hbz_b; replace hbz_b:=xnT hbz_b o1.size; have hs_14_c:=hbz_c; replace hbz_c:=xnT hbz_c o1.size; replace N_6:=NewF.off N_6 o1 (fun b_ hb_=>xnL (hqa b_ hb_) hs_6_a); replace N_8:=NewF.off N_8 o1 (fun b_ hb_=>xnL (hqa b_ hb_) hs_8_a); replace N_10:=NewF.off N_10 o1 (fun b_ hb_=>xnL (hqa b_ hb_) hs_10_a)
 replace N_11:=NewF.off N_11 o1 (fun b_ hb_=>xnL (hqa b_ hb_) hs_11_a); replace N_13:=NewF.off N_13 o1 (fun b_ hb_=>xnL (hqa b_ hb_) hs_13_a); clear o1 hsub Mp M hIa hqa; have hIa:=hI_; have hqa:=hq_; clear hI_ hq_
 replace hWa:ShkW A2:=hwA2
 have M:Mm w0 ((B12,[.int .u8 121,.int .u8 111])::(B9,[.int .u8 104,.int .u8 105])::(B7,[.int .u8 104,.int .u8 105])::(B5,row .u8 48 (bl (szs 48)))::(bc0++(bb2++(ba4++([]:List (Nat × List Value)))))) w14:=M'.perm (pull2 ([(B12,[.int .u8 121,.int .u8 111]),(B9,[.int .u8 104,.int .u8 105]),(B7,[.int .u8 104,.int .u8 105]),(B5,row .u8 48 (bl (szs 48)))]:List (Nat × List Value)) bc0 bb2 ba4 ([]:List (Nat × List Value))).symm
 clear M' ba3
 obtain ⟨p14,c14,rfl,hcc_14,hnn_14,_,_⟩:=id N_14
 refine xeL ?_; refine xpL (.tuple #[.slice p14 (([121,111]).length) c14,.int .i64 0]) ?_; refine xpL (.slice p14 (([121,111]).length) c14) ?_; refine xpL (.int .i64 0) ?_; refine xpL (.slice p14 (([121,111]).length) c14) ?_; refine xpL (.int .i64 0) ?_; refine xT ?_; go_upto_region 12 with fail; refine wp_region_list ?_; refine xpL (.pointer (some ⟨Ra,0,none⟩)) ?_
 have Mp:=M.perm (pull2 ([(B12,[.int .u8 121,.int .u8 111]),(B9,[.int .u8 104,.int .u8 105]),(B7,[.int .u8 104,.int .u8 105]),(B5,row .u8 48 (bl (szs 48)))]:List (Nat × List Value)) bc0 bb2 ba4 ([]:List (Nat × List Value))); have key:=hK.kys w0 _ _ A2 ba4 _ hg hIa hWa Mp
 rw [k1.out,d1.out] at key
 clear Mp; refine xcL (key) ?_; rintro e w15 ⟨rfl,l⟩; replace M:=M.call l; replace hbz_a:=xnT hbz_a l.size; replace hbz_b:=xnT hbz_b l.size; replace hbz_c:=xnT hbz_c l.size; replace N_6:=NewF.below N_6 l; replace N_8:=NewF.below N_8 l; replace N_10:=NewF.below N_10 l; replace N_11:=NewF.below N_11 l; replace N_13:=NewF.below N_13 l; replace N_14:=NewF.below N_14 l; clear l
 refine xeL ?_; clear key; refine xpL (.tuple #[.agg ([row .u8 32 (kA A2.st.c 0 (bl [])),row .u8 32 (kB A2.st.c 0 (bl []))].flatten).toArray,.bool true]) ?_; refine xpL (.agg ([row .u8 32 (kA A2.st.c 0 (bl [])),row .u8 32 (kB A2.st.c 0 (bl []))].flatten).toArray) ?_; refine xpL (.bool true) ?_; have hnew:=Below.refl w15.heap.size w15
 have hlb:=(Below.refl w15.heap.size w15).alloc (xnR _) (.cells ([row .u8 32 (fun _=>0),row .u8 32 (fun _=>0)].flatten).toArray 41); refine actL (w':=w15.alloc (.cells ([row .u8 32 (fun _=>0),row .u8 32 (fun _=>0)].flatten).toArray 41)) (.pointer (some ⟨w15.heap.size,0,none⟩)) rfl (by kernel_rfl) ?_; simp only [aP,lI,l0,lS]; replace hnew:=hnew.trans (hlb.mono hnew.size)
 replace M:=M.box ([row .u8 32 (fun _=>0),row .u8 32 (fun _=>0)].flatten).toArray 41 w15.heap.size rfl; clear hlb; generalize w15.alloc (.cells ([row .u8 32 (fun _=>0),row .u8 32 (fun _=>0)].flatten).toArray 41)=w16 at M hnew ⊢
 have hA_B16:w15.heap.size≤w15.heap.size:=xnR _
 generalize eB_:w15.heap.size=B16 at M hA_B16 ⊢
 replace hA_B16:w15.heap.size≤B16:=Nat.le_of_eq eB_
 clear eB_
 replace M:Mm w0 ((B16,[row .u8 32 (fun _=>0),row .u8 32 (fun _=>0)].flatten)::(B12,[.int .u8 121,.int .u8 111])::(B9,[.int .u8 104,.int .u8 105])::(B7,[.int .u8 104,.int .u8 105])::(B5,row .u8 48 (bl (szs 48)))::(bc0++(bb2++(ba4++([]:List (Nat × List Value)))))) w16:=M
 refine skipOpL rfl (storeP ([row .u8 32 (kA A2.st.c 0 (bl [])),row .u8 32 (kB A2.st.c 0 (bl []))].flatten) B16 0 41 _ _ rfl rfl rfl (M.thereP mS 0 64 (by rw [flat_len _ [32,32] (by kernel_rfl)]; decide)) (by rw [List.size_toArray,flat_len _ [32,32] (by kernel_rfl)]; kernel_rfl) (flat_one _ (fun p_ hp_=>by
  simp only [List.mem_cons,List.not_mem_nil,or_false] at hp_
  rcases hp_ with rfl | rfl <;> first | exact row_one .u8 32 _ | exact pcs12_one _ | (intro u hu; obtain rfl:=xm1 hu; rfl)))) ?_
 simp only [Act.put]; replace M:=M.setAll ([row .u8 32 (kA A2.st.c 0 (bl [])),row .u8 32 (kB A2.st.c 0 (bl []))].flatten) (by rw [flat_len _ [32,32] (by kernel_rfl),flat_len _ [32,32] (by kernel_rfl)]); replace hnew:=below_setAll hnew B16 (by have:=hnew.size; omega) 0 ([row .u8 32 (kA A2.st.c 0 (bl [])),row .u8 32 (kB A2.st.c 0 (bl []))].flatten)
 generalize w16.setCells B16 0 ([row .u8 32 (kA A2.st.c 0 (bl [])),row .u8 32 (kB A2.st.c 0 (bl []))].flatten)=w17 at M hnew ⊢; refine xpL (.bool true) ?_; refine xT ?_; replace hbz_a:=xnT hbz_a hnew.size; replace hbz_b:=xnT hbz_b hnew.size; replace hbz_c:=xnT hbz_c hnew.size; replace N_6:=NewF.below N_6 hnew; replace N_8:=NewF.below N_8 hnew; replace N_10:=NewF.below N_10 hnew
 replace N_11:=NewF.below N_11 hnew; replace N_13:=NewF.below N_13 hnew; replace N_14:=NewF.below N_14 hnew; clear hnew; go_upto_region 13 with fail; refine wp_region_list ?_; refine xpL (.pointer (some ⟨Rb,0,none⟩)) ?_
 have Mp:=M.perm (pull1 ([(B16,[row .u8 32 (kA A2.st.c 0 (bl [])),row .u8 32 (kB A2.st.c 0 (bl []))].flatten),(B12,[.int .u8 121,.int .u8 111]),(B9,[.int .u8 104,.int .u8 105]),(B7,[.int .u8 104,.int .u8 105]),(B5,row .u8 48 (bl (szs 48)))]:List (Nat × List Value)) bc0 bb2 (ba4++([]:List (Nat × List Value)))); have key:=hK.kys w0 _ _ B2 bb2 _ hg hIb hWb Mp
 rw [k2.out,d2.out] at key
 clear Mp; refine xcL (key) ?_; rintro e w18 ⟨rfl,l⟩; replace M:=M.call l; replace hbz_a:=xnT hbz_a l.size; replace hbz_b:=xnT hbz_b l.size; replace hbz_c:=xnT hbz_c l.size; replace N_6:=NewF.below N_6 l; replace N_8:=NewF.below N_8 l; replace N_10:=NewF.below N_10 l; replace N_11:=NewF.below N_11 l; replace N_13:=NewF.below N_13 l; replace N_14:=NewF.below N_14 l; clear l
 refine xeL ?_; clear key; refine xpL (.tuple #[.agg ([row .u8 32 (kA A2.st.c 0 (bl [])),row .u8 32 (kB A2.st.c 0 (bl []))].flatten).toArray,.bool true]) ?_; refine xpL (.agg ([row .u8 32 (kA A2.st.c 0 (bl [])),row .u8 32 (kB A2.st.c 0 (bl []))].flatten).toArray) ?_; refine xpL (.bool true) ?_; have hnew:=Below.refl w18.heap.size w18
 have hlb:=(Below.refl w18.heap.size w18).alloc (xnR _) (.cells ([row .u8 32 (fun _=>0),row .u8 32 (fun _=>0)].flatten).toArray 41); refine actL (w':=w18.alloc (.cells ([row .u8 32 (fun _=>0),row .u8 32 (fun _=>0)].flatten).toArray 41)) (.pointer (some ⟨w18.heap.size,0,none⟩)) rfl (by kernel_rfl) ?_; simp only [aP,lI,l0,lS]; replace hnew:=hnew.trans (hlb.mono hnew.size)
 replace M:=M.box ([row .u8 32 (fun _=>0),row .u8 32 (fun _=>0)].flatten).toArray 41 w18.heap.size rfl; clear hlb; generalize w18.alloc (.cells ([row .u8 32 (fun _=>0),row .u8 32 (fun _=>0)].flatten).toArray 41)=w19 at M hnew ⊢
 have hA_B19:w18.heap.size≤w18.heap.size:=xnR _
 generalize eB_:w18.heap.size=B19 at M hA_B19 ⊢
 replace hA_B19:w18.heap.size≤B19:=Nat.le_of_eq eB_
 clear eB_
 replace M:Mm w0 ((B19,[row .u8 32 (fun _=>0),row .u8 32 (fun _=>0)].flatten)::(B16,[row .u8 32 (kA A2.st.c 0 (bl [])),row .u8 32 (kB A2.st.c 0 (bl []))].flatten)::(B12,[.int .u8 121,.int .u8 111])::(B9,[.int .u8 104,.int .u8 105])::(B7,[.int .u8 104,.int .u8 105])::(B5,row .u8 48 (bl (szs 48)))::(bc0++(bb2++(ba4++([]:List (Nat × List Value)))))) w19:=M
 refine skipOpL rfl (storeP ([row .u8 32 (kA A2.st.c 0 (bl [])),row .u8 32 (kB A2.st.c 0 (bl []))].flatten) B19 0 41 _ _ rfl rfl rfl (M.thereP mS 0 64 (by rw [flat_len _ [32,32] (by kernel_rfl)]; decide)) (by rw [List.size_toArray,flat_len _ [32,32] (by kernel_rfl)]; kernel_rfl) (flat_one _ (fun p_ hp_=>by
  simp only [List.mem_cons,List.not_mem_nil,or_false] at hp_
  rcases hp_ with rfl | rfl <;> first | exact row_one .u8 32 _ | exact pcs12_one _ | (intro u hu; obtain rfl:=xm1 hu; rfl)))) ?_
 simp only [Act.put]; replace M:=M.setAll ([row .u8 32 (kA A2.st.c 0 (bl [])),row .u8 32 (kB A2.st.c 0 (bl []))].flatten) (by rw [flat_len _ [32,32] (by kernel_rfl),flat_len _ [32,32] (by kernel_rfl)]); replace hnew:=below_setAll hnew B19 (by have:=hnew.size; omega) 0 ([row .u8 32 (kA A2.st.c 0 (bl [])),row .u8 32 (kB A2.st.c 0 (bl []))].flatten)
 generalize w19.setCells B19 0 ([row .u8 32 (kA A2.st.c 0 (bl [])),row .u8 32 (kB A2.st.c 0 (bl []))].flatten)=w20 at M hnew ⊢; refine xpL (.bool true) ?_; refine xT ?_; replace hbz_a:=xnT hbz_a hnew.size; replace hbz_b:=xnT hbz_b hnew.size; replace hbz_c:=xnT hbz_c hnew.size; replace N_6:=NewF.below N_6 hnew; replace N_8:=NewF.below N_8 hnew; replace N_10:=NewF.below N_10 hnew
 replace N_11:=NewF.below N_11 hnew; replace N_13:=NewF.below N_13 hnew; replace N_14:=NewF.below N_14 hnew; clear hnew; go_upto_region 14 with fail; refine wp_region_list ?_; refine xpL (.pointer (some ⟨Rc,0,none⟩)) ?_
 have Mp:=M.perm (pull0 ([(B19,[row .u8 32 (kA A2.st.c 0 (bl [])),row .u8 32 (kB A2.st.c 0 (bl []))].flatten),(B16,[row .u8 32 (kA A2.st.c 0 (bl [])),row .u8 32 (kB A2.st.c 0 (bl []))].flatten),(B12,[.int .u8 121,.int .u8 111]),(B9,[.int .u8 104,.int .u8 105]),(B7,[.int .u8 104,.int .u8 105]),(B5,row .u8 48 (bl (szs 48)))]:List (Nat × List Value)) bc0 (bb2++(ba4++([]:List (Nat × List Value)))))
 have key:=hK.fst w0 _ _ (shBegin (one 1) (one 3) shz) bc0 _ hg hIc hWc none 0 ([]) (by decide) (xnR 0) (fun _=>rfl) (by unfold Byts; decide) Mp (show SrcA _ _ none 0 _ from ⟨fun j hj=>absurd hj (xnZ j),fun ad e=>by cases e⟩)
 rw [e2.out] at key
 simp only [shE,shB,shN] at key
 refine xcL key ?_; clear key; rintro e w21 ⟨⟨v21,rfl,N_21⟩,bc1,hI_,hsub,M',o1⟩
 have hq_:∀ b∈bc1.map Prod.fst,b<_:=fun b hb=>by
  obtain ⟨p,hp,rfl⟩:=List.mem_map.1 hb
  exact hqc _ (hsub p hp)
 have hs_21_a:=hbz_a; replace hbz_a:=xnT hbz_a o1.size; have hs_21_b:=hbz_b; replace hbz_b:=xnT hbz_b o1.size; have hs_21_c:=hbz_c; replace hbz_c:=xnT hbz_c o1.size; replace N_6:=NewF.off N_6 o1 (fun b_ hb_=>xnL (hqc b_ hb_) hs_6_c); replace N_8:=NewF.off N_8 o1 (fun b_ hb_=>xnL (hqc b_ hb_) hs_8_c); replace N_10:=NewF.off N_10 o1 (fun b_ hb_=>xnL (hqc b_ hb_) hs_10_c)
 replace N_11:=NewF.off N_11 o1 (fun b_ hb_=>xnL (hqc b_ hb_) hs_11_c); replace N_13:=NewF.off N_13 o1 (fun b_ hb_=>xnL (hqc b_ hb_) hs_13_c); replace N_14:=NewF.off N_14 o1 (fun b_ hb_=>xnL (hqc b_ hb_) hs_14_c); clear o1 hsub Mp M hIc hqc; have hIc:=hI_; have hqc:=hq_; clear hI_ hq_
 replace hWc:ShkW (shBegin (one 1) (one 3) shz):=hWc
 have M:Mm w0 ((B19,[row .u8 32 (kA A2.st.c 0 (bl [])),row .u8 32 (kB A2.st.c 0 (bl []))].flatten)::(B16,[row .u8 32 (kA A2.st.c 0 (bl [])),row .u8 32 (kB A2.st.c 0 (bl []))].flatten)::(B12,[.int .u8 121,.int .u8 111])::(B9,[.int .u8 104,.int .u8 105])::(B7,[.int .u8 104,.int .u8 105])::(B5,row .u8 48 (bl (szs 48)))::(bc1++(bb2++(ba4++([]:List (Nat × List Value)))))) w21:=M'.perm (pull0 ([(B19,[row .u8 32 (kA A2.st.c 0 (bl [])),row .u8 32 (kB A2.st.c 0 (bl []))].flatten),(B16,[row .u8 32 (kA A2.st.c 0 (bl [])),row .u8 32 (kB A2.st.c 0 (bl []))].flatten),(B12,[.int .u8 121,.int .u8 111]),(B9,[.int .u8 104,.int .u8 105]),(B7,[.int .u8 104,.int .u8 105]),(B5,row .u8 48 (bl (szs 48)))]:List (Nat × List Value)) bc1 (bb2++(ba4++([]:List (Nat × List Value))))).symm
 clear M' bc0
 obtain ⟨p21,c21,rfl,hcc_21,hnn_21,_,_⟩:=id N_21
 refine xeL ?_; refine xpL (.tuple #[.slice p21 (([]:List Int).length) c21,.int .i64 20]) ?_; refine xpL (.slice p21 (([]:List Int).length) c21) ?_; refine xpL (.int .i64 20) ?_; refine xpL (.slice p21 (([]:List Int).length) c21) ?_; refine xpL (.int .i64 20) ?_; refine xT ?_; go_upto_region 15 with fail; refine wp_region_list ?_; refine xpL (.int .i64 4) ?_
 refine xaL (.bool true) (eqlI .i64 _ _ _ _ _ _ rfl rfl rfl true (by decide) _) ?_; refine xpL (.bool true) ?_; refine xpL (.slice p8 ((m1).length) c8) ?_; refine readL (.int .i64 (((m1).length:Nat):Int)) rfl (lenS _ 32 5 p8 ((m1).length) c8 rfl Tryz.underlying32 rfl _) ?_; simp only [aP,lI,l0,lS]; refine xaL (.bool true) (eqlI .i64 _ _ _ _ _ _ rfl rfl rfl true (by rw [g1.out]; rfl) _) ?_
 refine xpL (.bool true) ?_; refine xpL (.bool true) ?_; refine xpL (.int .i64 0) ?_; refine xaL (.bool true) (eqlI .i64 _ _ _ _ _ _ rfl rfl rfl true (by decide) _) ?_; refine xpL (.bool true) ?_; refine xpL (.bool true) ?_; refine xpL (.int .i64 4) ?_; refine xaL (.bool true) (eqlI .i64 _ _ _ _ _ _ rfl rfl rfl true (by decide) _) ?_; refine xpL (.bool true) ?_; refine xpL (.bool true) ?_
 refine xpL (.slice p11 (([104,105]).length) c11) ?_; refine readL (.string (txt (([104,105]).length) (bl ([104,105])))) rfl (conv_txt 32 5 9 _ rfl Tryz.underlying32 Tryz.underlying5 Tryz.underlying9 p11 (([104,105]).length) c11 (bl ([104,105])) rfl _ (NewF.src N_11) (fun e=>by have h1:=hnn_11 e; have h2:=hcc_11; omega)) ?_; simp only [aP,lI,l0,lS]
 refine xaL (.bool true) (eqlS _ _ _ _ _ _ rfl rfl rfl rfl _) ?_; refine xpL (.bool true) ?_; refine xpL (.bool true) ?_; refine xpL (.int .i64 0) ?_; refine xaL (.bool true) (eqlI .i64 _ _ _ _ _ _ rfl rfl rfl true (by decide) _) ?_; refine xpL (.bool true) ?_; refine xpL (.bool true) ?_; refine xpL (.slice p13 ((m2).length) c13) ?_
 refine readL (.int .i64 (((m2).length:Nat):Int)) rfl (lenS _ 32 5 p13 ((m2).length) c13 rfl Tryz.underlying32 rfl _) ?_; simp only [aP,lI,l0,lS]; refine xaL (.bool true) (eqlI .i64 _ _ _ _ _ _ rfl rfl rfl true (by rw [g2.out]; rfl) _) ?_; refine xpL (.bool true) ?_; refine xpL (.bool true) ?_; refine xpL (.int .i64 0) ?_
 refine xaL (.bool true) (eqlI .i64 _ _ _ _ _ _ rfl rfl rfl true (by decide) _) ?_; refine xpL (.bool true) ?_; refine xpL (.bool true) ?_; refine xpL (.slice p14 (([121,111]).length) c14) ?_
 refine readL (.string (txt (([121,111]).length) (bl ([121,111])))) rfl (conv_txt 32 5 9 _ rfl Tryz.underlying32 Tryz.underlying5 Tryz.underlying9 p14 (([121,111]).length) c14 (bl ([121,111])) rfl _ (NewF.src N_14) (fun e=>by have h1:=hnn_14 e; have h2:=hcc_14; omega)) ?_; simp only [aP,lI,l0,lS]; refine xaL (.bool true) (eqlS _ _ _ _ _ _ rfl rfl rfl rfl _) ?_
 refine xpL (.bool true) ?_; refine xpL (.bool true) ?_; refine xpL (.int .i64 0) ?_; refine xaL (.bool true) (eqlI .i64 _ _ _ _ _ _ rfl rfl rfl true (by decide) _) ?_; refine xpL (.bool true) ?_; refine xpL (.bool true) ?_; refine xpL (.bool true) ?_; refine xpL (.bool true) ?_; refine xpL (.bool true) ?_; refine xpL (.bool true) ?_; refine xpL (.bool true) ?_; refine xpL (.bool true) ?_
 refine readL (.agg ([row .u8 32 (kA A2.st.c 0 (bl [])),row .u8 32 (kB A2.st.c 0 (bl []))].flatten).toArray) rfl (loadN 41 _ ⟨B16,0,none⟩ ([row .u8 32 (kA A2.st.c 0 (bl [])),row .u8 32 (kB A2.st.c 0 (bl []))].flatten) rfl rfl (fun _=>by kernel_rfl) (fun _=>by rw [flat_len _ [32,32] (by kernel_rfl)]; kernel_rfl) (M.part (mT _ mS) 0 _ (flat_mid [] [row .u8 32 (kA A2.st.c 0 (bl [])),row .u8 32 (kB A2.st.c 0 (bl []))] [] 0 (by kernel_rfl)))) ?_
 simp only [aP,lI,l0,lS]
 refine readL (.agg ([row .u8 32 (kA A2.st.c 0 (bl [])),row .u8 32 (kB A2.st.c 0 (bl []))].flatten).toArray) rfl (loadN 41 _ ⟨B19,0,none⟩ ([row .u8 32 (kA A2.st.c 0 (bl [])),row .u8 32 (kB A2.st.c 0 (bl []))].flatten) rfl rfl (fun _=>by kernel_rfl) (fun _=>by rw [flat_len _ [32,32] (by kernel_rfl)]; kernel_rfl) (M.part mS 0 _ (flat_mid [] [row .u8 32 (kA A2.st.c 0 (bl [])),row .u8 32 (kB A2.st.c 0 (bl []))] [] 0 (by kernel_rfl)))) ?_
 simp only [aP,lI,l0,lS]; refine xaL (.bool true) (eqlPr _ _ _ _ rfl rfl rfl _) ?_; refine xpL (.bool true) ?_; refine xpL (.bool true) ?_; refine xpL (.int .i64 20) ?_; refine xaL (.bool true) (eqlI .i64 _ _ _ _ _ _ rfl rfl rfl true (by decide) _) ?_; refine xpL (.bool true) ?_; refine xpL (.bool true) ?_; refine xT ?_; have hbel:=M.below
 clear M hbz_a hbz_b hbz_c N_6 N_8 N_10 N_11 N_13 N_14 N_21; go_wp2; go_ret
 exact ⟨rfl,hbel⟩
theorem results_tmp4 {fn:Func} {t u v x:Tmp} (h:fn.results=#[.tmp t,.tmp u,.tmp v,.tmp x]) (tmps:Array Value) (P:Program) (w:World) :
 (results fn tmps).run P w=.ok (.tuple #[tmps.getD t undef,tmps.getD u undef,tmps.getD v undef,tmps.getD x undef]) w:=by
 simp [results,h]
def TwP (I:Value→Shk→List (Nat × List Value)→Prop) (w0:World) (l:List (Nat × List Value)) (A B:Shk) (e:Ending) (w':World):Prop :=
 ∃ va ba vb bb Rc Qc Rd Qd,e=.returned (.tuple #[va,vb,.pointer (some ⟨Rc,0,none⟩),.pointer (some ⟨Rd,0,none⟩)])∧I va A ba∧I vb B bb∧Mm w0 ([(Rd,shc B Qd),(Qd,stc B.st)]++([(Rc,shc A Qc),(Qc,stc A.st)]++(bb++(ba++l)))) w'
theorem two13_any {I:Value→Shk→List (Nat × List Value)→Prop} (hK:ShkOK I) (w0 w:World) (L0:List (Nat × List Value)) (a d b f:Nat→Int) (wr:Bool) (O:List Int) (ha:In 256 32 a) (hd:In 256 32 d) (hb:In 256 32 b) (hf:In 256 32 f) (hO:O.length=32) (hOb:Byts O) (hg:HGlob13 w0) (M:Mm w0 L0 w) :
 Calls Tryz.prog 7 #[.agg ([row .u8 32 a,row .u8 32 d,row .u8 32 b,row .u8 32 f,[.bool wr],row .u8 32 (bl O)].flatten).toArray] w (TwP I w0 L0 (shBegin a d (bif wr then O else LD.pub b)) (shAwait LD b f)):=by
 go_enter Tryz.func7,Tryz.ntmps7
 go_upto_region 0 with fail; refine wp_region_list ?_; have hlb:=(Below.refl w.heap.size w).alloc (xnR _) (.cells ([row .u8 32 a,row .u8 32 d,row .u8 32 b,row .u8 32 f,[Value.bool wr],row .u8 32 (bl O)].flatten).toArray 25)
 refine actL (w':=w.alloc (.cells ([row .u8 32 a,row .u8 32 d,row .u8 32 b,row .u8 32 f,[Value.bool wr],row .u8 32 (bl O)].flatten).toArray 25)) (.pointer (some ⟨w.heap.size,0,none⟩)) rfl (by kernel_rfl) ?_; simp only [aP,lI,l0,lS]; replace M:=M.box ([row .u8 32 a,row .u8 32 d,row .u8 32 b,row .u8 32 f,[Value.bool wr],row .u8 32 (bl O)].flatten).toArray 25 w.heap.size rfl
 clear hlb; generalize w.alloc (.cells ([row .u8 32 a,row .u8 32 d,row .u8 32 b,row .u8 32 f,[Value.bool wr],row .u8 32 (bl O)].flatten).toArray 25)=w1 at M  ⊢
 have hA_B1:w.heap.size≤w.heap.size:=xnR _
 generalize eB_:w.heap.size=B1 at M hA_B1 ⊢
 replace hA_B1:w.heap.size≤B1:=Nat.le_of_eq eB_
 clear eB_
 replace M:Mm w0 ((B1,[row .u8 32 a,row .u8 32 d,row .u8 32 b,row .u8 32 f,[Value.bool wr],row .u8 32 (bl O)].flatten)::L0) w1:=M
 refine xpL (.pointer none) ?_; refine xpL (.pointer none) ?_; refine xpL (.pointer none) ?_; refine xpL (.pointer none) ?_; refine xT ?_; go_upto_region 1 with fail; refine wp_region_list ?_; refine xpL (.pointer (some ⟨B1,64,none⟩)) ?_
 refine xaL (.agg (row .u8 32 b).toArray) (loadN 23 _ ⟨B1,64,none⟩ (row .u8 32 b) rfl rfl (fun _=>by kernel_rfl) (fun _=>by rw [row32]; kernel_rfl) (M.part mS 64 _ (flat_part _ [32,32,32,32,1,32] (by kernel_rfl) 2 64 _ rfl rfl))) ?_; refine xcL (lrefpublic_any b hb _) ?_; rintro e w2 ⟨rfl,l⟩; replace M:=M.call l; clear l; refine xeL ?_
 have hlb:=(Below.refl w2.heap.size w2).alloc (xnR _) (.cells zu8_32 23); refine actL (w':=w2.alloc (.cells zu8_32 23)) (.pointer (some ⟨w2.heap.size,0,none⟩)) rfl (by kernel_rfl) ?_; simp only [aP,lI,l0,lS]; replace M:=M.box zu8_32 23 w2.heap.size rfl; clear hlb; generalize w2.alloc (.cells zu8_32 23)=w3 at M  ⊢
 have hA_B3:w2.heap.size≤w2.heap.size:=xnR _
 generalize eB_:w2.heap.size=B3 at M hA_B3 ⊢
 replace hA_B3:w2.heap.size≤B3:=Nat.le_of_eq eB_
 clear eB_
 replace M:Mm w0 ((B3,row .u8 32 (fun _=>0))::(B1,[row .u8 32 a,row .u8 32 d,row .u8 32 b,row .u8 32 f,[Value.bool wr],row .u8 32 (bl O)].flatten)::L0) w3:=M
 refine skipOpL rfl (storeP (row .u8 32 (bl (LD.pub b))) B3 0 23 _ _ rfl rfl rfl (M.thereP mS 0 32 (Nat.le_of_ble_eq_true rfl)) (by kernel_rfl) (row_one .u8 32 (bl (LD.pub b)))) ?_; simp only [Act.put]; replace M:=M.setAll (row .u8 32 (bl (LD.pub b))) (by first | (rw [row32,row32]; done) | (rw [row32]; rfl) | (rw [row32]; done))
 generalize w3.setCells B3 0 (row .u8 32 (bl (LD.pub b)))=w4 at M  ⊢; refine xT ?_; go_upto_region 2 with fail; refine wp_region_list ?_; refine xpL (.pointer (some ⟨B1,128,none⟩)) ?_; refine xaL (.bool wr) (load1 4 _ ⟨B1,128,none⟩ _ rfl rfl (fun _=>by kernel_rfl) (M.get (mT _ mS) 128 _ (flat_get _ [32,32,32,32,1,32] (by kernel_rfl) 4 128 _ rfl rfl))) ?_; refine xT ?_
 cases wr with
 | true =>
   go_upto_region 3 with fail; refine wp_region_list ?_; refine xpL (.pointer (some ⟨B1,129,none⟩)) ?_; refine xaL (.agg (row .u8 32 (bl O)).toArray) (loadN 23 _ ⟨B1,129,none⟩ (row .u8 32 (bl O)) rfl rfl (fun _=>by kernel_rfl) (fun _=>by rw [row32]; kernel_rfl) (M.part (mT _ mS) 129 _ (flat_part _ [32,32,32,32,1,32] (by kernel_rfl) 5 129 _ rfl rfl))) ?_
   refine skipOpL rfl (storeP (row .u8 32 (bl O)) B3 0 23 _ _ rfl rfl rfl (M.thereP mS 0 32 (Nat.le_of_ble_eq_true rfl)) (by kernel_rfl) (row_one .u8 32 (bl O))) ?_; simp only [Act.put]; replace M:=M.setAll (row .u8 32 (bl O)) (by first | (rw [row32,row32]; done) | (rw [row32]; rfl) | (rw [row32]; done)); generalize w4.setCells B3 0 (row .u8 32 (bl O))=w5 at M  ⊢; refine xT ?_
   go_upto_region 4 with fail; refine wp_region_held_drew (S:=fun w'=>Mm w0 ((B3,row .u8 32 (bl O))::(B1,[row .u8 32 a,row .u8 32 d,row .u8 32 b,row .u8 32 f,[Value.bool true],row .u8 32 (bl O)].flatten)::L0) w') (by kernel_rfl) M.drew ?_; intro _; replace M:=M.drew; have hdr:=(Below.refl w5.heap.size w5).drew; clear hdr; generalize w5.drew=w6 at M  ⊢
   refine xrH 0 14 rfl (.pointer (some ⟨B1,0,none⟩)) (fun _ M=>(by kernel_rfl)) M ?_; refine xrH 1 15 rfl (.agg (row .u8 32 a).toArray) (fun _ M=>loadN 23 _ ⟨B1,0,none⟩ (row .u8 32 a) rfl rfl (fun _=>by kernel_rfl) (fun _=>by rw [row32]; kernel_rfl) (M.part (mT _ mS) 0 _ (flat_part _ [32,32,32,32,1,32] (by kernel_rfl) 0 0 _ rfl rfl))) M ?_
   refine xrH 2 16 rfl (.pointer (some ⟨B1,32,none⟩)) (fun _ M=>(by kernel_rfl)) M ?_; refine xrH 3 17 rfl (.agg (row .u8 32 d).toArray) (fun _ M=>loadN 23 _ ⟨B1,32,none⟩ (row .u8 32 d) rfl rfl (fun _=>by kernel_rfl) (fun _=>by rw [row32]; kernel_rfl) (M.part (mT _ mS) 32 _ (flat_part _ [32,32,32,32,1,32] (by kernel_rfl) 1 32 _ rfl rfl))) M ?_
   refine xrH 4 18 rfl (.agg (row .u8 32 (bl O)).toArray) (fun _ M=>loadN 23 _ ⟨B3,0,none⟩ (row .u8 32 (bl O)) rfl rfl (fun _=>by kernel_rfl) (fun _=>by rw [row32]; kernel_rfl) (M.part mS 0 _ (by rw [List.drop_zero,List.take_length]))) M ?_; refine xrH 6 20 rfl (.pointer (some ⟨B1,64,none⟩)) (fun _ M=>(by kernel_rfl)) M ?_
   refine xrH 7 21 rfl (.agg (row .u8 32 b).toArray) (fun _ M=>loadN 23 _ ⟨B1,64,none⟩ (row .u8 32 b) rfl rfl (fun _=>by kernel_rfl) (fun _=>by rw [row32]; kernel_rfl) (M.part (mT _ mS) 64 _ (flat_part _ [32,32,32,32,1,32] (by kernel_rfl) 2 64 _ rfl rfl))) M ?_; refine xrH 8 22 rfl (.pointer (some ⟨B1,96,none⟩)) (fun _ M=>(by kernel_rfl)) M ?_
   refine xrH 9 23 rfl (.agg (row .u8 32 f).toArray) (fun _ M=>loadN 23 _ ⟨B1,96,none⟩ (row .u8 32 f) rfl rfl (fun _=>by kernel_rfl) (fun _=>by rw [row32]; kernel_rfl) (M.part (mT _ mS) 96 _ (flat_part _ [32,32,32,32,1,32] (by kernel_rfl) 3 96 _ rfl rfl))) M ?_; refine xrH 11 25 rfl (.pointer (some ⟨B1,0,none⟩)) (fun _ M=>(by kernel_rfl)) M ?_
   refine xrH 12 26 rfl (.agg (row .u8 32 a).toArray) (fun _ M=>loadN 23 _ ⟨B1,0,none⟩ (row .u8 32 a) rfl rfl (fun _=>by kernel_rfl) (fun _=>by rw [row32]; kernel_rfl) (M.part (mT _ mS) 0 _ (flat_part _ [32,32,32,32,1,32] (by kernel_rfl) 0 0 _ rfl rfl))) M ?_; refine xrH 13 27 rfl (.pointer (some ⟨B1,32,none⟩)) (fun _ M=>(by kernel_rfl)) M ?_
   refine xrH 14 28 rfl (.agg (row .u8 32 d).toArray) (fun _ M=>loadN 23 _ ⟨B1,32,none⟩ (row .u8 32 d) rfl rfl (fun _=>by kernel_rfl) (fun _=>by rw [row32]; kernel_rfl) (M.part (mT _ mS) 32 _ (flat_part _ [32,32,32,32,1,32] (by kernel_rfl) 1 32 _ rfl rfl))) M ?_
   refine xrH 15 29 rfl (.agg (row .u8 32 (bl O)).toArray) (fun _ M=>loadN 23 _ ⟨B3,0,none⟩ (row .u8 32 (bl O)) rfl rfl (fun _=>by kernel_rfl) (fun _=>by rw [row32]; kernel_rfl) (M.part mS 0 _ (by rw [List.drop_zero,List.take_length]))) M ?_; refine xrH 17 31 rfl (.pointer (some ⟨B1,64,none⟩)) (fun _ M=>(by kernel_rfl)) M ?_
   refine xrH 18 32 rfl (.agg (row .u8 32 b).toArray) (fun _ M=>loadN 23 _ ⟨B1,64,none⟩ (row .u8 32 b) rfl rfl (fun _=>by kernel_rfl) (fun _=>by rw [row32]; kernel_rfl) (M.part (mT _ mS) 64 _ (flat_part _ [32,32,32,32,1,32] (by kernel_rfl) 2 64 _ rfl rfl))) M ?_; refine xrH 19 33 rfl (.pointer (some ⟨B1,96,none⟩)) (fun _ M=>(by kernel_rfl)) M ?_
   refine xrH 20 34 rfl (.agg (row .u8 32 f).toArray) (fun _ M=>loadN 23 _ ⟨B1,96,none⟩ (row .u8 32 f) rfl rfl (fun _=>by kernel_rfl) (fun _=>by rw [row32]; kernel_rfl) (M.part (mT _ mS) 96 _ (flat_part _ [32,32,32,32,1,32] (by kernel_rfl) 3 96 _ rfl rfl))) M ?_; have MH:=M; have key:=hK.beg w0 _ _ a d O hg ha hd hO hOb M
   refine callH (i:=5) (some 19) rfl (by kernel_rfl) rfl rfl (fun _=>by kernel_rfl) key ?_; clear key; rintro e w7 ⟨v_,ba0,rfl,hIa,-,M',l⟩
   obtain ⟨Ra,rfl⟩:=hK.ptr _ _ _ hIa
   have hqa:=M'.lts
   have hWa:ShkW (shBegin a d O):=shBegin_w ha hd hO hOb
   have hbz_a:=xnR w7.heap.size; clear M; have M:=M'.perm (pull0 ([(B3,row .u8 32 (bl O)),(B1,[row .u8 32 a,row .u8 32 d,row .u8 32 b,row .u8 32 f,[Value.bool true],row .u8 32 (bl O)].flatten)]:List (Nat × List Value)) ba0 L0).symm; clear M'; replace MH:=MH.call l; clear l
   replace M:Mm w0 ((B3,row .u8 32 (bl O))::(B1,[row .u8 32 a,row .u8 32 d,row .u8 32 b,row .u8 32 f,[Value.bool true],row .u8 32 (bl O)].flatten)::(ba0++L0)) w7:=M
   refine ⟨_,rfl,MH,?_⟩
   simp only [aP,lI,l0,lS]; have key:=hK.awt w0 _ _ b f hg hb hf M; refine callH (i:=10) (some 24) rfl (by kernel_rfl) rfl rfl (fun _=>by kernel_rfl) key ?_; clear key; rintro e w8 ⟨v_,bb0,rfl,hIb,-,M',l⟩
   obtain ⟨Rb,rfl⟩:=hK.ptr _ _ _ hIb
   have hqb:=M'.lts
   have hWb:ShkW (shAwait LD b f):=shAwait_w hb hf
   have hbz_b:=xnR w8.heap.size; clear M; have M:=M'.perm (pull0 ([(B3,row .u8 32 (bl O)),(B1,[row .u8 32 a,row .u8 32 d,row .u8 32 b,row .u8 32 f,[Value.bool true],row .u8 32 (bl O)].flatten)]:List (Nat × List Value)) bb0 (ba0++L0)).symm; clear M'; replace MH:=MH.call l; replace hbz_a:=xnT hbz_a l.size; clear l
   replace M:Mm w0 ((B3,row .u8 32 (bl O))::(B1,[row .u8 32 a,row .u8 32 d,row .u8 32 b,row .u8 32 f,[Value.bool true],row .u8 32 (bl O)].flatten)::(bb0++(ba0++L0))) w8:=M
   refine ⟨_,rfl,MH,?_⟩
   simp only [aP,lI,l0,lS]; refine callH (i:=16) (some 30) rfl (by kernel_rfl) rfl rfl (fun _=>by kernel_rfl) (rbegin_any w0 _ _ a d O hO hOb M) ?_; rintro e w9 ⟨Rc,Qc,rfl,_,_,M',l⟩; clear M
   have M:=M'.perm (pull0 ([(B3,row .u8 32 (bl O)),(B1,[row .u8 32 a,row .u8 32 d,row .u8 32 b,row .u8 32 f,[Value.bool true],row .u8 32 (bl O)].flatten)]:List (Nat × List Value)) [(Rc,shc (shBegin a d O) Qc),(Qc,stc (shBegin a d O).st)] (bb0++(ba0++L0))).symm; clear M'; replace MH:=MH.call l; clear l
   replace M:Mm w0 ((B3,row .u8 32 (bl O))::(B1,[row .u8 32 a,row .u8 32 d,row .u8 32 b,row .u8 32 f,[Value.bool true],row .u8 32 (bl O)].flatten)::([(Rc,shc (shBegin a d O) Qc),(Qc,stc (shBegin a d O).st)]++(bb0++(ba0++L0)))) w9:=M
   refine ⟨_,rfl,MH,?_⟩
   simp only [aP,lI,l0,lS]; refine callH (i:=21) (some 35) rfl (by kernel_rfl) rfl rfl (fun _=>by kernel_rfl) (rawait_any w0 _ _ b f hb M) ?_; rintro e w10 ⟨Rd,Qd,rfl,_,_,M',l⟩; clear M
   have M:=M'.perm (pull0 ([(B3,row .u8 32 (bl O)),(B1,[row .u8 32 a,row .u8 32 d,row .u8 32 b,row .u8 32 f,[Value.bool true],row .u8 32 (bl O)].flatten)]:List (Nat × List Value)) [(Rd,shc (shAwait LD b f) Qd),(Qd,stc (shAwait LD b f).st)] ([(Rc,shc (shBegin a d O) Qc),(Qc,stc (shBegin a d O).st)]++(bb0++(ba0++L0)))).symm; clear M'; replace MH:=MH.call l; clear l
   replace M:Mm w0 ((B3,row .u8 32 (bl O))::(B1,[row .u8 32 a,row .u8 32 d,row .u8 32 b,row .u8 32 f,[Value.bool true],row .u8 32 (bl O)].flatten)::([(Rd,shc (shAwait LD b f) Qd),(Qd,stc (shAwait LD b f).st)]++([(Rc,shc (shBegin a d O) Qc),(Qc,stc (shBegin a d O).st)]++(bb0++(ba0++L0))))) w10:=M
   refine ⟨_,rfl,MH,?_⟩
   simp only [aP,lI,l0,lS]; refine xrH 22 2 rfl (.pointer (some ⟨Ra,0,none⟩)) (fun _ MH=>(by kernel_rfl)) MH ?_; refine xrH 23 3 rfl (.pointer (some ⟨Rb,0,none⟩)) (fun _ MH=>(by kernel_rfl)) MH ?_; refine xrH 24 4 rfl (.pointer (some ⟨Rc,0,none⟩)) (fun _ MH=>(by kernel_rfl)) MH ?_; refine xrH 25 5 rfl (.pointer (some ⟨Rd,0,none⟩)) (fun _ MH=>(by kernel_rfl)) MH ?_
   refine wpAnyH_done (by kernel_rfl) ?_ _
   first | show Exit.then _ _ _ _ _ | show Exit.inBlock _ _ _ _ _
   have HS:=show Hid _ from (show Mm w0 ([(Rd,shc (shAwait LD b f) Qd),(Qd,stc (shAwait LD b f).st)]++([(Rc,shc (shBegin a d O) Qc),(Qc,stc (shBegin a d O).st)]++(bb0++(ba0++L0)))) w10 from M.sub _ (List.Sublist.cons _ (List.Sublist.cons _ (List.Sublist.refl _)))); have hIa_:=show Hid _ from hIa; have hIb_:=show Hid _ from hIb; clear M hIa hIb hWa hWb hqa hqb hbz_a hbz_b
   go_wp2
   (try simp only [Exit.inBlock,Exit.then])
   refine bodyPost_ret (results_tmp4 rfl _ _ _) rfl ?_
   exact ⟨_,_,_,_,_,_,_,_,rfl,hIa_.out,hIb_.out,HS.out⟩
 | false =>
   go_upto_region 4 with fail; refine wp_region_held_drew (S:=fun w'=>Mm w0 ((B3,row .u8 32 (bl (LD.pub b)))::(B1,[row .u8 32 a,row .u8 32 d,row .u8 32 b,row .u8 32 f,[Value.bool false],row .u8 32 (bl O)].flatten)::L0) w') (by kernel_rfl) M.drew ?_; intro _; replace M:=M.drew; have hdr:=(Below.refl w4.heap.size w4).drew; clear hdr; generalize w4.drew=w11 at M  ⊢
   refine xrH 0 14 rfl (.pointer (some ⟨B1,0,none⟩)) (fun _ M=>(by kernel_rfl)) M ?_; refine xrH 1 15 rfl (.agg (row .u8 32 a).toArray) (fun _ M=>loadN 23 _ ⟨B1,0,none⟩ (row .u8 32 a) rfl rfl (fun _=>by kernel_rfl) (fun _=>by rw [row32]; kernel_rfl) (M.part (mT _ mS) 0 _ (flat_part _ [32,32,32,32,1,32] (by kernel_rfl) 0 0 _ rfl rfl))) M ?_
   refine xrH 2 16 rfl (.pointer (some ⟨B1,32,none⟩)) (fun _ M=>(by kernel_rfl)) M ?_; refine xrH 3 17 rfl (.agg (row .u8 32 d).toArray) (fun _ M=>loadN 23 _ ⟨B1,32,none⟩ (row .u8 32 d) rfl rfl (fun _=>by kernel_rfl) (fun _=>by rw [row32]; kernel_rfl) (M.part (mT _ mS) 32 _ (flat_part _ [32,32,32,32,1,32] (by kernel_rfl) 1 32 _ rfl rfl))) M ?_
   refine xrH 4 18 rfl (.agg (row .u8 32 (bl (LD.pub b))).toArray) (fun _ M=>loadN 23 _ ⟨B3,0,none⟩ (row .u8 32 (bl (LD.pub b))) rfl rfl (fun _=>by kernel_rfl) (fun _=>by rw [row32]; kernel_rfl) (M.part mS 0 _ (by rw [List.drop_zero,List.take_length]))) M ?_; refine xrH 6 20 rfl (.pointer (some ⟨B1,64,none⟩)) (fun _ M=>(by kernel_rfl)) M ?_
   refine xrH 7 21 rfl (.agg (row .u8 32 b).toArray) (fun _ M=>loadN 23 _ ⟨B1,64,none⟩ (row .u8 32 b) rfl rfl (fun _=>by kernel_rfl) (fun _=>by rw [row32]; kernel_rfl) (M.part (mT _ mS) 64 _ (flat_part _ [32,32,32,32,1,32] (by kernel_rfl) 2 64 _ rfl rfl))) M ?_; refine xrH 8 22 rfl (.pointer (some ⟨B1,96,none⟩)) (fun _ M=>(by kernel_rfl)) M ?_
   refine xrH 9 23 rfl (.agg (row .u8 32 f).toArray) (fun _ M=>loadN 23 _ ⟨B1,96,none⟩ (row .u8 32 f) rfl rfl (fun _=>by kernel_rfl) (fun _=>by rw [row32]; kernel_rfl) (M.part (mT _ mS) 96 _ (flat_part _ [32,32,32,32,1,32] (by kernel_rfl) 3 96 _ rfl rfl))) M ?_; refine xrH 11 25 rfl (.pointer (some ⟨B1,0,none⟩)) (fun _ M=>(by kernel_rfl)) M ?_
   refine xrH 12 26 rfl (.agg (row .u8 32 a).toArray) (fun _ M=>loadN 23 _ ⟨B1,0,none⟩ (row .u8 32 a) rfl rfl (fun _=>by kernel_rfl) (fun _=>by rw [row32]; kernel_rfl) (M.part (mT _ mS) 0 _ (flat_part _ [32,32,32,32,1,32] (by kernel_rfl) 0 0 _ rfl rfl))) M ?_; refine xrH 13 27 rfl (.pointer (some ⟨B1,32,none⟩)) (fun _ M=>(by kernel_rfl)) M ?_
   refine xrH 14 28 rfl (.agg (row .u8 32 d).toArray) (fun _ M=>loadN 23 _ ⟨B1,32,none⟩ (row .u8 32 d) rfl rfl (fun _=>by kernel_rfl) (fun _=>by rw [row32]; kernel_rfl) (M.part (mT _ mS) 32 _ (flat_part _ [32,32,32,32,1,32] (by kernel_rfl) 1 32 _ rfl rfl))) M ?_
   refine xrH 15 29 rfl (.agg (row .u8 32 (bl (LD.pub b))).toArray) (fun _ M=>loadN 23 _ ⟨B3,0,none⟩ (row .u8 32 (bl (LD.pub b))) rfl rfl (fun _=>by kernel_rfl) (fun _=>by rw [row32]; kernel_rfl) (M.part mS 0 _ (by rw [List.drop_zero,List.take_length]))) M ?_; refine xrH 17 31 rfl (.pointer (some ⟨B1,64,none⟩)) (fun _ M=>(by kernel_rfl)) M ?_
   refine xrH 18 32 rfl (.agg (row .u8 32 b).toArray) (fun _ M=>loadN 23 _ ⟨B1,64,none⟩ (row .u8 32 b) rfl rfl (fun _=>by kernel_rfl) (fun _=>by rw [row32]; kernel_rfl) (M.part (mT _ mS) 64 _ (flat_part _ [32,32,32,32,1,32] (by kernel_rfl) 2 64 _ rfl rfl))) M ?_; refine xrH 19 33 rfl (.pointer (some ⟨B1,96,none⟩)) (fun _ M=>(by kernel_rfl)) M ?_
   refine xrH 20 34 rfl (.agg (row .u8 32 f).toArray) (fun _ M=>loadN 23 _ ⟨B1,96,none⟩ (row .u8 32 f) rfl rfl (fun _=>by kernel_rfl) (fun _=>by rw [row32]; kernel_rfl) (M.part (mT _ mS) 96 _ (flat_part _ [32,32,32,32,1,32] (by kernel_rfl) 3 96 _ rfl rfl))) M ?_; have MH:=M; have key:=hK.beg w0 _ _ a d (LD.pub b) hg ha hd (LD_ok.len b) (LD_ok.byt b) M
   refine callH (i:=5) (some 19) rfl (by kernel_rfl) rfl rfl (fun _=>by kernel_rfl) key ?_; clear key; rintro e w12 ⟨v_,ba0,rfl,hIa,-,M',l⟩
   obtain ⟨Ra,rfl⟩:=hK.ptr _ _ _ hIa
   have hqa:=M'.lts
   have hWa:ShkW (shBegin a d (LD.pub b)):=shBegin_w ha hd (LD_ok.len b) (LD_ok.byt b)
   have hbz_a:=xnR w12.heap.size; clear M; have M:=M'.perm (pull0 ([(B3,row .u8 32 (bl (LD.pub b))),(B1,[row .u8 32 a,row .u8 32 d,row .u8 32 b,row .u8 32 f,[Value.bool false],row .u8 32 (bl O)].flatten)]:List (Nat × List Value)) ba0 L0).symm; clear M'; replace MH:=MH.call l; clear l
   replace M:Mm w0 ((B3,row .u8 32 (bl (LD.pub b)))::(B1,[row .u8 32 a,row .u8 32 d,row .u8 32 b,row .u8 32 f,[Value.bool false],row .u8 32 (bl O)].flatten)::(ba0++L0)) w12:=M
   refine ⟨_,rfl,MH,?_⟩
   simp only [aP,lI,l0,lS]; have key:=hK.awt w0 _ _ b f hg hb hf M; refine callH (i:=10) (some 24) rfl (by kernel_rfl) rfl rfl (fun _=>by kernel_rfl) key ?_; clear key; rintro e w13 ⟨v_,bb0,rfl,hIb,-,M',l⟩
   obtain ⟨Rb,rfl⟩:=hK.ptr _ _ _ hIb
   have hqb:=M'.lts
   have hWb:ShkW (shAwait LD b f):=shAwait_w hb hf
   have hbz_b:=xnR w13.heap.size; clear M; have M:=M'.perm (pull0 ([(B3,row .u8 32 (bl (LD.pub b))),(B1,[row .u8 32 a,row .u8 32 d,row .u8 32 b,row .u8 32 f,[Value.bool false],row .u8 32 (bl O)].flatten)]:List (Nat × List Value)) bb0 (ba0++L0)).symm; clear M'; replace MH:=MH.call l; replace hbz_a:=xnT hbz_a l.size; clear l
   replace M:Mm w0 ((B3,row .u8 32 (bl (LD.pub b)))::(B1,[row .u8 32 a,row .u8 32 d,row .u8 32 b,row .u8 32 f,[Value.bool false],row .u8 32 (bl O)].flatten)::(bb0++(ba0++L0))) w13:=M
   refine ⟨_,rfl,MH,?_⟩
   simp only [aP,lI,l0,lS]; refine callH (i:=16) (some 30) rfl (by kernel_rfl) rfl rfl (fun _=>by kernel_rfl) (rbegin_any w0 _ _ a d (LD.pub b) (LD_ok.len b) (LD_ok.byt b) M) ?_; rintro e w14 ⟨Rc,Qc,rfl,_,_,M',l⟩; clear M
   have M:=M'.perm (pull0 ([(B3,row .u8 32 (bl (LD.pub b))),(B1,[row .u8 32 a,row .u8 32 d,row .u8 32 b,row .u8 32 f,[Value.bool false],row .u8 32 (bl O)].flatten)]:List (Nat × List Value)) [(Rc,shc (shBegin a d (LD.pub b)) Qc),(Qc,stc (shBegin a d (LD.pub b)).st)] (bb0++(ba0++L0))).symm; clear M'; replace MH:=MH.call l; clear l
   replace M:Mm w0 ((B3,row .u8 32 (bl (LD.pub b)))::(B1,[row .u8 32 a,row .u8 32 d,row .u8 32 b,row .u8 32 f,[Value.bool false],row .u8 32 (bl O)].flatten)::([(Rc,shc (shBegin a d (LD.pub b)) Qc),(Qc,stc (shBegin a d (LD.pub b)).st)]++(bb0++(ba0++L0)))) w14:=M
   refine ⟨_,rfl,MH,?_⟩
   simp only [aP,lI,l0,lS]; refine callH (i:=21) (some 35) rfl (by kernel_rfl) rfl rfl (fun _=>by kernel_rfl) (rawait_any w0 _ _ b f hb M) ?_; rintro e w15 ⟨Rd,Qd,rfl,_,_,M',l⟩; clear M
   have M:=M'.perm (pull0 ([(B3,row .u8 32 (bl (LD.pub b))),(B1,[row .u8 32 a,row .u8 32 d,row .u8 32 b,row .u8 32 f,[Value.bool false],row .u8 32 (bl O)].flatten)]:List (Nat × List Value)) [(Rd,shc (shAwait LD b f) Qd),(Qd,stc (shAwait LD b f).st)] ([(Rc,shc (shBegin a d (LD.pub b)) Qc),(Qc,stc (shBegin a d (LD.pub b)).st)]++(bb0++(ba0++L0)))).symm; clear M'
   replace MH:=MH.call l; clear l
   replace M:Mm w0 ((B3,row .u8 32 (bl (LD.pub b)))::(B1,[row .u8 32 a,row .u8 32 d,row .u8 32 b,row .u8 32 f,[Value.bool false],row .u8 32 (bl O)].flatten)::([(Rd,shc (shAwait LD b f) Qd),(Qd,stc (shAwait LD b f).st)]++([(Rc,shc (shBegin a d (LD.pub b)) Qc),(Qc,stc (shBegin a d (LD.pub b)).st)]++(bb0++(ba0++L0))))) w15:=M
   refine ⟨_,rfl,MH,?_⟩
   simp only [aP,lI,l0,lS]; refine xrH 22 2 rfl (.pointer (some ⟨Ra,0,none⟩)) (fun _ MH=>(by kernel_rfl)) MH ?_; refine xrH 23 3 rfl (.pointer (some ⟨Rb,0,none⟩)) (fun _ MH=>(by kernel_rfl)) MH ?_; refine xrH 24 4 rfl (.pointer (some ⟨Rc,0,none⟩)) (fun _ MH=>(by kernel_rfl)) MH ?_; refine xrH 25 5 rfl (.pointer (some ⟨Rd,0,none⟩)) (fun _ MH=>(by kernel_rfl)) MH ?_
   refine wpAnyH_done (by kernel_rfl) ?_ _
   first | show Exit.then _ _ _ _ _ | show Exit.inBlock _ _ _ _ _
   have HS:=show Hid _ from (show Mm w0 ([(Rd,shc (shAwait LD b f) Qd),(Qd,stc (shAwait LD b f).st)]++([(Rc,shc (shBegin a d (LD.pub b)) Qc),(Qc,stc (shBegin a d (LD.pub b)).st)]++(bb0++(ba0++L0)))) w15 from M.sub _ (List.Sublist.cons _ (List.Sublist.cons _ (List.Sublist.refl _)))); have hIa_:=show Hid _ from hIa; have hIb_:=show Hid _ from hIb
   clear M hIa hIb hWa hWb hqa hqb hbz_a hbz_b; go_wp2
   (try simp only [Exit.inBlock,Exit.then])
   refine bodyPost_ret (results_tmp4 rfl _ _ _) rfl ?_
   exact ⟨_,_,_,_,_,_,_,_,rfl,hIa_.out,hIb_.out,HS.out⟩
end Go.Proofs.YtklnibmfpcmeeaaGreatDoor
