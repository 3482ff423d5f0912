/- Texts of Gf Vc Xc, joined. -/
import Derived.Test.YtknodedhcdpbiaaGreatDoorP4GuardEnds
set_option maxRecDepth 20000
set_option maxHeartbeats 64000000
namespace Go.Proofs.YtknodedhcdpbiaaGreatDoor
open Go.RowKit
def gwl (g:Grd) (n:Nat):Prop:=∀ e p,(g.win e p).length≤n
theorem gwl_at (role:Int) (o i:Nat→Int) (m n:Int):gwl (gat role o i m n) 0:=fun _ _=>xnR 0
theorem gwl_sel {g:Grd} {n:Nat} (h:gwl g n) (p:Int) (k:Nat):gwl (gsN g p k) n:=by
 unfold gsN
 split
 · exact h
 · exact h
theorem gwl_mk {g:Grd} {n:Nat} (h:gwl g n) (p:Pkt):gwl (gmk g p) (n+1):=fun e q=>by
 show (if e=p.epo∧q=p.path then wmk (g.win p.epo p.path) p.ctr else g.win e q).length≤n+1
 split
 · have h1:=wmk_len (g.win p.epo p.path) p.ctr
   have h2:=h p.epo p.path
   omega
 · have:=h e q; omega
theorem gwl_on {g:Grd} {n:Nat} (h:gwl g n):gwl (gon g) n:=fun e q=>by
 show (if e<g.inn.e then [] else g.win e q).length≤n
 split
 · exact Nat.zero_le _
 · exact h e q
theorem gwl_opn {g:Grd} {n:Nat} (h:gwl g n) (b:List Int):gwl (gbN g b) (n+1):=by
 unfold gbN
 split
 · exact fun e q=>Nat.le_succ_of_le (h e q)
 · unfold goN
   split
   · split
     · exact gwl_mk (gwl_on h) _
     · exact gwl_mk h _
   · exact fun e q=>Nat.le_succ_of_le (h e q)
theorem gwl_ok {g:Grd} {n:Nat} (h:gwl g n) (hn:n<1000000):∀ e p,(g.win e p).length<1000000:=fun e p=>Nat.lt_of_le_of_lt (h e p) hn
def ga0:Grd:=gat 0 (gone 1) (gone 2) 0 0
def gb0:Grd:=gat 1 (gone 2) (gone 1) 0 0
def gx0:List Int:=gsB ga0 3 [104,105]
def ga1:Grd:=gsN ga0 3 2
def gb1:Grd:=gbN gb0 gx0
def ga3:Grd:=gaN (gaN ga1)
def gy0:List Int:=gsB ga3 3 [97]
def ga4:Grd:=gsN ga3 3 1
def ga5:Grd:=gkN ga4 3 281474976710656
theorem ga0_w:GrdW ga0:=gat_w 0 (gone_b 1 (by decide) (by decide)) (gone_b 2 (by decide) (by decide)) 0 0
theorem gb0_w:GrdW gb0:=gat_w 1 (gone_b 2 (by decide) (by decide)) (gone_b 1 (by decide) (by decide)) 0 0
theorem ga1_w:GrdW ga1:=gsN_w ga0_w 3 2
theorem gb1_w:GrdW gb1:=gbN_w gb0_w gx0
theorem ga3_w:GrdW ga3:=gaN_w (gaN_w ga1_w)
theorem hi_byts:Byts [104,105]:=by unfold Byts; decide
theorem a_byts:Byts [97]:=by unfold Byts; decide
theorem gs1:gsE ga0 3 2=0:=gsE_zero ⟨by decide,by decide⟩ (by decide) (show (0:Int)≤281474976710655 by decide)
theorem opp0:Opp ga0 gb0:=⟨show ¬ (0:Int)=1 by decide,.inl ⟨rfl,rfl⟩⟩
theorem gx0_ok:gbE gb0 gx0=0∧gbP gb0 gx0=3∧gbC gb0 gx0=0∧gbT gb0 gx0=[104,105]∧gb1=goN gb0 (gpk ga0 3 (gsT ga0 3 [104,105]))∧goR gb0 (gpk ga0 3 (gsT ga0 3 [104,105]))=0:=opp0.opens ga0_w hi_byts gs1 (wchk_zero (by decide) (by decide) (by decide) (by simp):wchk [] 0=0)
theorem gx0_pps:pps gx0=.ok (gpk ga0 3 (gsT ga0 3 [104,105])):=gsB_pps ga0_w gs1
theorem gx0_len:gx0.length=29:=gsB_len gs1
theorem gx0_byts:Byts gx0:=gsB_byts ga0_w hi_byts
theorem go2:gbE gb1 gx0=140:=by rw [gbE_of gx0_pps,gx0_ok.2.2.2.2.1]; exact goR_again gx0_ok.2.2.2.2.2
theorem ga1_role:ga1.role=0:=by unfold ga1 gsN; split <;> rfl
theorem go3:gbE ga1 gx0=110:=gbE_own ga0_w gs1 ga1_role.symm
theorem ga1_e:ga1.out.e=0:=by unfold ga1 gsN; split <;> rfl
theorem gv1:ynE ga1.out=0:=if_neg (by rw [ga1_e]; decide)
theorem ga2_e:(gaN ga1).out.e=1:=by
 rw [gaN_on (by rw [ga1_e]; decide)]
 show (yad ga1.out).e=1
 rw [yad_on (by rw [ga1_e]; decide)]
 show ga1.out.e+1=1
 rw [ga1_e]
 rfl
theorem gv2:ynE (gaN ga1).out=0:=if_neg (by rw [ga2_e]; decide)
theorem ga3_e:ga3.out.e=2:=by
 unfold ga3
 rw [gaN_on (g:=gaN ga1) (by rw [ga2_e]; decide)]
 show (yad (gaN ga1).out).e=2
 rw [yad_on (by rw [ga2_e]; decide)]
 show (gaN ga1).out.e+1=2
 rw [ga2_e]
 rfl
theorem ga3_cnt:ga3.cnt 3=0:=by unfold ga3; rw [gaN_on (g:=gaN ga1) (by rw [ga2_e]; decide)]
theorem ga3_role:ga3.role=0:=by
 unfold ga3
 rw [gaN_on (g:=gaN ga1) (by rw [ga2_e]; decide),gaN_on (g:=ga1) (by rw [ga1_e]; decide)]
 exact ga1_role
theorem gs2:gsE ga3 3 1=0:=gsE_zero ⟨by decide,by decide⟩ (by decide) (by rw [ga3_cnt]; decide)
theorem gb1_e:gb1.inn.e=0:=by rw [gx0_ok.2.2.2.2.1,goN_now (show ¬ (0:Int)=0+1 by decide)]; rfl
theorem gb1_role:gb1.role=1:=by rw [gx0_ok.2.2.2.2.1,goN_role]; rfl
theorem go4:gbE gb1 gy0=150:=by
 have hp:pps gy0=.ok (gpk ga3 3 (gsT ga3 3 [97])):=gsB_pps ga3_w gs2
 rw [gbE_of hp]
 exact goR_far rfl (show ¬ ga3.role=gb1.role by rw [ga3_role,gb1_role]; decide) (.inr (show gb1.inn.e+1<ga3.out.e by rw [gb1_e,ga3_e]; decide))
theorem ga4_cnt:ga4.cnt 3=1:=by
 unfold ga4
 rw [gsN_ok gs2]
 show (if (3:Int)=3 then ga3.cnt 3+1 else ga3.cnt 3)=1
 rw [if_pos rfl,ga3_cnt]
 rfl
theorem gk1:gkE ga4 3 281474976710656=0:=by
 unfold gkE
 rw [if_neg (by rw [ga4_cnt]; decide)]
theorem gs3:gsE ga5 3 1=6:=gsE_end ⟨by decide,by decide⟩ (by decide) (by
 unfold ga5
 rw [gkN_ok gk1]
 show (281474976710655:Int)<(if (3:Int)=3 then 281474976710656 else ga4.cnt 3)
 rw [if_pos rfl]
 decide)
theorem gy0_byts:Byts gy0:=gsB_byts ga3_w a_byts
theorem gy0_len:gy0.length=28:=gsB_len gs2
theorem shown16_any {I:GrdI} (hK:GrdOK I) (hN:GrdNew I) (w0:World) (hg:GGlob w0) :
 Calls Tryz.prog 8 #[] w0 fun e w'=>e=.returned (.bool true)∧Below w0.heap.size w0 w':=by
 have M:=Mm.init w0
 go_enter Tryz.func8,Tryz.ntmps8
 go_upto_region 0 with fail; refine wp_region_list ?_; refine xpL (.bool false) ?_; refine xT ?_; go_upto_region 1 with fail; refine wp_region_list ?_; refine xpL (.agg (row .u8 32 (gone 1)).toArray) ?_; refine xpL (.agg (row .u8 32 (gone 2)).toArray) ?_; have key:=hN w0 _ _ 0 (gone 1) (gone 2) hg (by unfold i64; decide) (gone_b 1 (by decide) (by decide)) (gone_b 2 (by decide) (by decide)) M
 refine xcL key ?_; clear key; rintro e w1 ⟨v_,ba0,rfl,hIa,M',l⟩
 obtain ⟨Ra,rfl⟩:=hK.ptr _ _ _ _ hIa
 clear M; have M:=M'.perm (pull0 ([]:List (Nat × List Value)) ba0 ([]:List (Nat × List Value))).symm; clear M'; clear l
 replace M:Mm w0 ((ba0++([]:List (Nat × List Value)))) w1:=M
 refine xeL ?_; refine xpL (.pointer (some ⟨Ra,0,none⟩)) ?_; refine xT ?_; go_upto_region 2 with fail; refine wp_region_list ?_; refine xpL (.agg (row .u8 32 (gone 2)).toArray) ?_; refine xpL (.agg (row .u8 32 (gone 1)).toArray) ?_; have key:=hN w0 _ _ 1 (gone 2) (gone 1) hg (by unfold i64; decide) (gone_b 2 (by decide) (by decide)) (gone_b 1 (by decide) (by decide)) M; refine xcL key ?_
 clear key; rintro e w2 ⟨v_,bb0,rfl,hIb,M',l⟩
 obtain ⟨Rb,rfl⟩:=hK.ptr _ _ _ _ hIb
 clear M; have M:=M'.perm (pull0 ([]:List (Nat × List Value)) bb0 (ba0++([]:List (Nat × List Value)))).symm; clear M'; replace hIa:=hK.bel hIa l; clear l
 replace M:Mm w0 ((bb0++(ba0++([]:List (Nat × List Value))))) w2:=M
 refine xeL ?_; refine xpL (.pointer (some ⟨Rb,0,none⟩)) ?_; refine xT ?_; go_upto_region 3 with fail; refine wp_region_list ?_; refine xpL (.pointer (some ⟨Ra,0,none⟩)) ?_; refine xpL (.bool false) ?_; refine xpL (.bool false) ?_; refine xpL (.pointer (some ⟨Rb,0,none⟩)) ?_; refine xpL (.bool false) ?_; refine xpL (.bool false) ?_; refine xT ?_; go_upto_region 5 with fail
 refine wp_region_list ?_; refine xpL (.pointer (some ⟨Ra,0,none⟩)) ?_; refine actL (w':=w2.alloc (.cells #[.int .u8 104,.int .u8 105] 5)) (.slice (some ⟨w2.heap.size,0,none⟩) 2 2) rfl (by kernel_rfl) ?_; simp only [aP,lI,l0,lS]
 refine actL (w':=w2.alloc (.cells #[.int .u8 104,.int .u8 105] 5 ((#[.int .u8 104,.int .u8 105]:Array Value).size,(#[.int .u8 104,.int .u8 105]:Array Value).size+1))) (.slice (some ⟨w2.heap.size,0,none⟩) 2 2) rfl (conv_const 29 5 #[.int .u8 104,.int .u8 105] 2 2 _ rfl rfl Tryz.underlying29 Tryz.underlying5) ?_; simp only [aP,lI,l0,lS]
 have hlb:=(Below.refl w2.heap.size w2).alloc (xnR _) (.cells #[.int .u8 104,.int .u8 105] 5 ((#[.int .u8 104,.int .u8 105]:Array Value).size,(#[.int .u8 104,.int .u8 105]:Array Value).size+1)); replace hIa:=hK.bel hIa hlb; replace hIb:=hK.bel hIb hlb
 replace M:=M.boxC #[.int .u8 104,.int .u8 105] 5 (((#[.int .u8 104,.int .u8 105]:Array Value)).size,((#[.int .u8 104,.int .u8 105]:Array Value)).size+1) w2.heap.size rfl (xnR _); clear hlb; generalize w2.alloc (.cells #[.int .u8 104,.int .u8 105] 5 ((#[.int .u8 104,.int .u8 105]:Array Value).size,(#[.int .u8 104,.int .u8 105]:Array Value).size+1))=w3 at M hIa hIb ⊢
 have hA_B3:w2.heap.size≤w2.heap.size:=xnR _
 generalize eB_:w2.heap.size=B3 at M hA_B3 ⊢
 replace hA_B3:w2.heap.size≤B3:=Nat.le_of_eq eB_
 clear eB_
 replace M:Mm w0 ((B3,[.int .u8 104,.int .u8 105])::(bb0++(ba0++([]:List (Nat × List Value))))) w3:=M
 have Mp:=M.perm (pull1 ([(B3,[.int .u8 104,.int .u8 105])]:List (Nat × List Value)) bb0 ba0 ([]:List (Nat × List Value)))
 have key:=hK.sel w0 _ _ ga0 ba0 _ 3 (some ⟨B3,0,none⟩) 2 ([104,105]) hg ga0_w (by unfold i64; decide) hIa (by decide) (by decide) (fun e=>by cases e) (by unfold Byts; decide) Mp (show SrcA _ _ _ _ _ from ⟨(M.src mS [104,105] rfl),fun ad e _=>by cases e; exact Mp.beside mS⟩)
 rw [show gsE ga0 3 ([104,105]:List Int).length=0 from gs1] at key
 rw [show gsN ga0 3 ([104,105]:List Int).length=ga1 from rfl] at key
 rw [show gsB ga0 3 [104,105]=gx0 from rfl] at key
 refine xcL key ?_; clear key; rintro e w4 ⟨p4,c4,ba1,rfl,N_4,hI_,M',o1⟩; replace hIb:=hK.off _ _ _ _ _ _ hIb o1 (Mp.awayG (fun p_ hp_=>by simp [hp_])); clear o1 Mp M hIa; have hIa:=hI_; clear hI_
 have M:Mm w0 ((B3,[.int .u8 104,.int .u8 105])::(ba1++((obs p4)++(bb0++([]:List (Nat × List Value)))))) w4:=M'.perm (pullY ([(B3,[.int .u8 104,.int .u8 105])]:List (Nat × List Value)) ba1 (obs p4) (bb0++([]:List (Nat × List Value))))
 clear M'; refine xeL ?_; refine xpL (.tuple #[.slice p4 ((gx0).length) c4,.int .i64 0]) ?_; refine xpL (.slice p4 ((gx0).length) c4) ?_; refine xpL (.int .i64 0) ?_; refine xpL (.slice p4 ((gx0).length) c4) ?_; refine xpL (.int .i64 0) ?_; refine xT ?_; go_upto_region 6 with fail; refine wp_region_list ?_; refine xpL (.pointer (some ⟨Rb,0,none⟩)) ?_; refine xpL (.slice p4 ((gx0).length) c4) ?_
 have Mp:=M.perm (pull2 ([(B3,[.int .u8 104,.int .u8 105])]:List (Nat × List Value)) ba1 (obs p4) bb0 ([]:List (Nat × List Value))); have key:=hK.opn w0 _ _ gb0 bb0 _ p4 c4 gx0 hg gb0_w (gwl_ok (gwl_at _ _ _ _ _) (by decide)) hIb (by rw [gx0_len]; decide) (NewF.le N_4) (NewF.nilCap N_4) gx0_byts Mp (NewF.srcB N_4 (Mp.awayS (fun p_ hp_=>by simp [hp_])))
 rw [gx0_ok.1] at key
 rw [gx0_ok.2.1] at key
 rw [gx0_ok.2.2.1] at key
 rw [gx0_ok.2.2.2.1] at key
 rw [show gbN gb0 gx0=gb1 from rfl] at key
 refine xcL key ?_; clear key; rintro e w5 ⟨p5,c5,bb1,rfl,N_5,hI_,M',o1⟩; replace hIa:=hK.off _ _ _ _ _ _ hIa o1 (Mp.awayG (fun p_ hp_=>by simp [hp_])); replace N_4:=NewF.offB N_4 o1 (Mp.awayS (fun p_ hp_=>by simp [hp_])); clear o1 Mp M hIb; have hIb:=hI_; clear hI_
 have M:Mm w0 ((B3,[.int .u8 104,.int .u8 105])::(bb1++((obs p5)++(ba1++((obs p4)++([]:List (Nat × List Value))))))) w5:=M'.perm (pullY ([(B3,[.int .u8 104,.int .u8 105])]:List (Nat × List Value)) bb1 (obs p5) (ba1++((obs p4)++([]:List (Nat × List Value)))))
 clear M'; refine xeL ?_; refine xpL (.tuple #[.int .i64 3,.int .i64 0,.slice p5 (([104,105]).length) c5,.int .i64 0]) ?_; refine xpL (.int .i64 3) ?_; refine xpL (.int .i64 0) ?_; refine xpL (.slice p5 (([104,105]).length) c5) ?_; refine xpL (.int .i64 0) ?_; refine xpL (.int .i64 3) ?_; refine xpL (.int .i64 0) ?_; refine xpL (.slice p5 (([104,105]).length) c5) ?_
 refine xpL (.int .i64 0) ?_; refine xT ?_; go_upto_region 7 with fail; refine wp_region_list ?_; refine xpL (.pointer (some ⟨Rb,0,none⟩)) ?_; refine xpL (.slice p4 ((gx0).length) c4) ?_; have Mp:=M.perm (pull0 ([(B3,[.int .u8 104,.int .u8 105])]:List (Nat × List Value)) bb1 ((obs p5)++(ba1++((obs p4)++([]:List (Nat × List Value))))))
 have key:=hK.opn w0 _ _ gb1 bb1 _ p4 c4 gx0 hg gb1_w (gwl_ok (gwl_opn (gwl_at _ _ _ _ _) _) (by decide)) hIb (by rw [gx0_len]; decide) (NewF.le N_4) (NewF.nilCap N_4) gx0_byts Mp (NewF.srcB N_4 (Mp.awayS (fun p_ hp_=>by simp [hp_])))
 rw [(gb_err (h:=gb1) (b:=gx0) (by rw [go2]; decide)).1] at key
 rw [(gb_err (h:=gb1) (b:=gx0) (by rw [go2]; decide)).2.1] at key
 rw [(gb_err (h:=gb1) (b:=gx0) (by rw [go2]; decide)).2.2.1] at key
 rw [(gb_err (h:=gb1) (b:=gx0) (by rw [go2]; decide)).2.2.2] at key
 rw [go2] at key
 refine xcL key ?_; clear key; rintro e w6 ⟨p6,c6,bb2,rfl,N_6,hI_,M',o1⟩; replace hIa:=hK.off _ _ _ _ _ _ hIa o1 (Mp.awayG (fun p_ hp_=>by simp [hp_])); replace N_4:=NewF.offB N_4 o1 (Mp.awayS (fun p_ hp_=>by simp [hp_])); replace N_5:=NewF.offB N_5 o1 (Mp.awayS (fun p_ hp_=>by simp [hp_])); clear o1 Mp M hIb; have hIb:=hI_; clear hI_
 have M:Mm w0 ((B3,[.int .u8 104,.int .u8 105])::(bb2++((obs p6)++((obs p5)++(ba1++((obs p4)++([]:List (Nat × List Value)))))))) w6:=M'.perm (pullY ([(B3,[.int .u8 104,.int .u8 105])]:List (Nat × List Value)) bb2 (obs p6) ((obs p5)++(ba1++((obs p4)++([]:List (Nat × List Value))))))
 clear M'; refine xeL ?_; refine xpL (.tuple #[.int .i64 0,.int .i64 0,.slice p6 ((([]:List Int)).length) c6,.int .i64 140]) ?_; refine xpL (.int .i64 0) ?_; refine xpL (.int .i64 0) ?_; refine xpL (.slice p6 ((([]:List Int)).length) c6) ?_; refine xpL (.int .i64 140) ?_; refine xpL (.int .i64 0) ?_; refine xpL (.int .i64 0) ?_; refine xpL (.slice p6 ((([]:List Int)).length) c6) ?_
 refine xpL (.int .i64 140) ?_; refine xT ?_
 replace M:Mm w0 ((B3,[.int .u8 104,.int .u8 105])::(bb2++((obs p5)++(ba1++((obs p4)++([]:List (Nat × List Value))))))) w6:=M.sub _ (List.cons_sublist_cons.2 ((List.Sublist.refl _).append (List.sublist_append_right _ _)))
 clear N_6; go_upto_region 8 with fail; refine wp_region_list ?_; refine xpL (.pointer (some ⟨Ra,0,none⟩)) ?_; refine xpL (.slice p4 ((gx0).length) c4) ?_; have Mp:=M.perm (pull2 ([(B3,[.int .u8 104,.int .u8 105])]:List (Nat × List Value)) bb2 (obs p5) ba1 ((obs p4)++([]:List (Nat × List Value))))
 have key:=hK.opn w0 _ _ ga1 ba1 _ p4 c4 gx0 hg ga1_w (gwl_ok (gwl_sel (gwl_at _ _ _ _ _) _ _) (by decide)) hIa (by rw [gx0_len]; decide) (NewF.le N_4) (NewF.nilCap N_4) gx0_byts Mp (NewF.srcB N_4 (Mp.awayS (fun p_ hp_=>by simp [hp_])))
 rw [(gb_err (h:=ga1) (b:=gx0) (by rw [go3]; decide)).1] at key
 rw [(gb_err (h:=ga1) (b:=gx0) (by rw [go3]; decide)).2.1] at key
 rw [(gb_err (h:=ga1) (b:=gx0) (by rw [go3]; decide)).2.2.1] at key
 rw [(gb_err (h:=ga1) (b:=gx0) (by rw [go3]; decide)).2.2.2] at key
 rw [go3] at key
 refine xcL key ?_; clear key; rintro e w7 ⟨p7,c7,ba2,rfl,N_7,hI_,M',o1⟩; replace hIb:=hK.off _ _ _ _ _ _ hIb o1 (Mp.awayG (fun p_ hp_=>by simp [hp_])); replace N_4:=NewF.offB N_4 o1 (Mp.awayS (fun p_ hp_=>by simp [hp_])); replace N_5:=NewF.offB N_5 o1 (Mp.awayS (fun p_ hp_=>by simp [hp_])); clear o1 Mp M hIa; have hIa:=hI_; clear hI_
 have M:Mm w0 ((B3,[.int .u8 104,.int .u8 105])::(ba2++((obs p7)++(bb2++((obs p5)++((obs p4)++([]:List (Nat × List Value)))))))) w7:=M'.perm (pullY ([(B3,[.int .u8 104,.int .u8 105])]:List (Nat × List Value)) ba2 (obs p7) (bb2++((obs p5)++((obs p4)++([]:List (Nat × List Value))))))
 clear M'; refine xeL ?_; refine xpL (.tuple #[.int .i64 0,.int .i64 0,.slice p7 ((([]:List Int)).length) c7,.int .i64 110]) ?_; refine xpL (.int .i64 0) ?_; refine xpL (.int .i64 0) ?_; refine xpL (.slice p7 ((([]:List Int)).length) c7) ?_; refine xpL (.int .i64 110) ?_; refine xpL (.int .i64 0) ?_; refine xpL (.int .i64 0) ?_; refine xpL (.slice p7 ((([]:List Int)).length) c7) ?_
 refine xpL (.int .i64 110) ?_; refine xT ?_
 replace M:Mm w0 ((B3,[.int .u8 104,.int .u8 105])::(ba2++(bb2++((obs p5)++((obs p4)++([]:List (Nat × List Value))))))) w7:=M.sub _ (List.cons_sublist_cons.2 ((List.Sublist.refl _).append (List.sublist_append_right _ _)))
 clear N_7; go_upto_region 9 with fail; refine wp_region_list ?_; refine xpL (.pointer (some ⟨Ra,0,none⟩)) ?_; have Mp:=M.perm (pull0 ([(B3,[.int .u8 104,.int .u8 105])]:List (Nat × List Value)) ba2 (bb2++((obs p5)++((obs p4)++([]:List (Nat × List Value)))))); have key:=hK.adv w0 _ _ ga1 ba2 _ hg ga1_w hIa Mp
 rw [gv1] at key
 refine xcL key ?_; clear key; rintro e w8 ⟨ba3,rfl,hI_,M',o1⟩; replace hIb:=hK.off _ _ _ _ _ _ hIb o1 (Mp.awayG (fun p_ hp_=>by simp [hp_])); replace N_4:=NewF.offB N_4 o1 (Mp.awayS (fun p_ hp_=>by simp [hp_])); replace N_5:=NewF.offB N_5 o1 (Mp.awayS (fun p_ hp_=>by simp [hp_])); clear o1 Mp M hIa; have hIa:=hI_; clear hI_
 have M:Mm w0 ((B3,[.int .u8 104,.int .u8 105])::(ba3++(bb2++((obs p5)++((obs p4)++([]:List (Nat × List Value))))))) w8:=M'.perm (pull0 ([(B3,[.int .u8 104,.int .u8 105])]:List (Nat × List Value)) ba3 (bb2++((obs p5)++((obs p4)++([]:List (Nat × List Value)))))).symm
 clear M'; refine xeL ?_; refine xpL (.int .i64 0) ?_; refine xT ?_; go_upto_region 10 with fail; refine wp_region_list ?_; refine xpL (.pointer (some ⟨Ra,0,none⟩)) ?_; have Mp:=M.perm (pull0 ([(B3,[.int .u8 104,.int .u8 105])]:List (Nat × List Value)) ba3 (bb2++((obs p5)++((obs p4)++([]:List (Nat × List Value)))))); have key:=hK.adv w0 _ _ (gaN ga1) ba3 _ hg (gaN_w ga1_w) hIa Mp
 rw [gv2] at key
 rw [show gaN (gaN ga1)=ga3 from rfl] at key
 refine xcL key ?_; clear key; rintro e w9 ⟨ba4,rfl,hI_,M',o1⟩; replace hIb:=hK.off _ _ _ _ _ _ hIb o1 (Mp.awayG (fun p_ hp_=>by simp [hp_])); replace N_4:=NewF.offB N_4 o1 (Mp.awayS (fun p_ hp_=>by simp [hp_])); replace N_5:=NewF.offB N_5 o1 (Mp.awayS (fun p_ hp_=>by simp [hp_])); clear o1 Mp M hIa; have hIa:=hI_; clear hI_
 have M:Mm w0 ((B3,[.int .u8 104,.int .u8 105])::(ba4++(bb2++((obs p5)++((obs p4)++([]:List (Nat × List Value))))))) w9:=M'.perm (pull0 ([(B3,[.int .u8 104,.int .u8 105])]:List (Nat × List Value)) ba4 (bb2++((obs p5)++((obs p4)++([]:List (Nat × List Value)))))).symm
 clear M'; refine xeL ?_; refine xpL (.int .i64 0) ?_; refine xT ?_; go_upto_region 11 with fail; refine wp_region_list ?_; refine xpL (.pointer (some ⟨Ra,0,none⟩)) ?_; refine actL (w':=w9.alloc (.cells #[.int .u8 97] 5)) (.slice (some ⟨w9.heap.size,0,none⟩) 1 1) rfl (by kernel_rfl) ?_; simp only [aP,lI,l0,lS]
 refine actL (w':=w9.alloc (.cells #[.int .u8 97] 5 ((#[.int .u8 97]:Array Value).size,(#[.int .u8 97]:Array Value).size+1))) (.slice (some ⟨w9.heap.size,0,none⟩) 1 1) rfl (conv_const 29 5 #[.int .u8 97] 1 1 _ rfl rfl Tryz.underlying29 Tryz.underlying5) ?_; simp only [aP,lI,l0,lS]
 have hlb:=(Below.refl w9.heap.size w9).alloc (xnR _) (.cells #[.int .u8 97] 5 ((#[.int .u8 97]:Array Value).size,(#[.int .u8 97]:Array Value).size+1)); replace hIa:=hK.bel hIa hlb; replace hIb:=hK.bel hIb hlb; replace N_4:=NewF.below N_4 hlb; replace N_5:=NewF.below N_5 hlb
 replace M:=M.boxC #[.int .u8 97] 5 (((#[.int .u8 97]:Array Value)).size,((#[.int .u8 97]:Array Value)).size+1) w9.heap.size rfl (xnR _); clear hlb; generalize w9.alloc (.cells #[.int .u8 97] 5 ((#[.int .u8 97]:Array Value).size,(#[.int .u8 97]:Array Value).size+1))=w10 at M hIa hIb N_4 N_5 ⊢
 have hA_B10:w9.heap.size≤w9.heap.size:=xnR _
 generalize eB_:w9.heap.size=B10 at M hA_B10 ⊢
 replace hA_B10:w9.heap.size≤B10:=Nat.le_of_eq eB_
 clear eB_
 replace M:Mm w0 ((B10,[.int .u8 97])::(B3,[.int .u8 104,.int .u8 105])::(ba4++(bb2++((obs p5)++((obs p4)++([]:List (Nat × List Value))))))) w10:=M
 have Mp:=M.perm (pull0 ([(B10,[.int .u8 97]),(B3,[.int .u8 104,.int .u8 105])]:List (Nat × List Value)) ba4 (bb2++((obs p5)++((obs p4)++([]:List (Nat × List Value))))))
 have key:=hK.sel w0 _ _ ga3 ba4 _ 3 (some ⟨B10,0,none⟩) 1 ([97]) hg ga3_w (by unfold i64; decide) hIa (by decide) (by decide) (fun e=>by cases e) (by unfold Byts; decide) Mp (show SrcA _ _ _ _ _ from ⟨(M.src mS [97] rfl),fun ad e _=>by cases e; exact Mp.beside mS⟩)
 rw [show gsE ga3 3 ([97]:List Int).length=0 from gs2] at key
 rw [show gsN ga3 3 ([97]:List Int).length=ga4 from rfl] at key
 rw [show gsB ga3 3 [97]=gy0 from rfl] at key
 refine xcL key ?_; clear key; rintro e w11 ⟨p11,c11,ba5,rfl,N_11,hI_,M',o1⟩; replace hIb:=hK.off _ _ _ _ _ _ hIb o1 (Mp.awayG (fun p_ hp_=>by simp [hp_])); replace N_4:=NewF.offB N_4 o1 (Mp.awayS (fun p_ hp_=>by simp [hp_])); replace N_5:=NewF.offB N_5 o1 (Mp.awayS (fun p_ hp_=>by simp [hp_])); clear o1 Mp M hIa; have hIa:=hI_; clear hI_
 have M:Mm w0 ((B10,[.int .u8 97])::(B3,[.int .u8 104,.int .u8 105])::(ba5++((obs p11)++(bb2++((obs p5)++((obs p4)++([]:List (Nat × List Value)))))))) w11:=M'.perm (pullY ([(B10,[.int .u8 97]),(B3,[.int .u8 104,.int .u8 105])]:List (Nat × List Value)) ba5 (obs p11) (bb2++((obs p5)++((obs p4)++([]:List (Nat × List Value))))))
 clear M'; refine xeL ?_; refine xpL (.tuple #[.slice p11 ((gy0).length) c11,.int .i64 0]) ?_; refine xpL (.slice p11 ((gy0).length) c11) ?_; refine xpL (.int .i64 0) ?_; refine xpL (.slice p11 ((gy0).length) c11) ?_; refine xpL (.int .i64 0) ?_; refine xT ?_; go_upto_region 12 with fail; refine wp_region_list ?_; refine xpL (.pointer (some ⟨Rb,0,none⟩)) ?_
 refine xpL (.slice p11 ((gy0).length) c11) ?_; have Mp:=M.perm (pull2 ([(B10,[.int .u8 97]),(B3,[.int .u8 104,.int .u8 105])]:List (Nat × List Value)) ba5 (obs p11) bb2 ((obs p5)++((obs p4)++([]:List (Nat × List Value)))))
 have key:=hK.opn w0 _ _ gb1 bb2 _ p11 c11 gy0 hg gb1_w (gwl_ok (gwl_opn (gwl_at _ _ _ _ _) _) (by decide)) hIb (by rw [gy0_len]; decide) (NewF.le N_11) (NewF.nilCap N_11) gy0_byts Mp (NewF.srcB N_11 (Mp.awayS (fun p_ hp_=>by simp [hp_])))
 rw [(gb_err (h:=gb1) (b:=gy0) (by rw [go4]; decide)).1] at key
 rw [(gb_err (h:=gb1) (b:=gy0) (by rw [go4]; decide)).2.1] at key
 rw [(gb_err (h:=gb1) (b:=gy0) (by rw [go4]; decide)).2.2.1] at key
 rw [(gb_err (h:=gb1) (b:=gy0) (by rw [go4]; decide)).2.2.2] at key
 rw [go4] at key
 refine xcL key ?_; clear key; rintro e w12 ⟨p12,c12,bb3,rfl,N_12,hI_,M',o1⟩; replace hIa:=hK.off _ _ _ _ _ _ hIa o1 (Mp.awayG (fun p_ hp_=>by simp [hp_])); replace N_4:=NewF.offB N_4 o1 (Mp.awayS (fun p_ hp_=>by simp [hp_])); replace N_5:=NewF.offB N_5 o1 (Mp.awayS (fun p_ hp_=>by simp [hp_])); replace N_11:=NewF.offB N_11 o1 (Mp.awayS (fun p_ hp_=>by simp [hp_]))
 clear o1 Mp M hIb; have hIb:=hI_; clear hI_
 have M:Mm w0 ((B10,[.int .u8 97])::(B3,[.int .u8 104,.int .u8 105])::(bb3++((obs p12)++(ba5++((obs p11)++((obs p5)++((obs p4)++([]:List (Nat × List Value))))))))) w12:=M'.perm (pullY ([(B10,[.int .u8 97]),(B3,[.int .u8 104,.int .u8 105])]:List (Nat × List Value)) bb3 (obs p12) (ba5++((obs p11)++((obs p5)++((obs p4)++([]:List (Nat × List Value)))))))
 clear M'; refine xeL ?_; refine xpL (.tuple #[.int .i64 0,.int .i64 0,.slice p12 ((([]:List Int)).length) c12,.int .i64 150]) ?_; refine xpL (.int .i64 0) ?_; refine xpL (.int .i64 0) ?_; refine xpL (.slice p12 ((([]:List Int)).length) c12) ?_; refine xpL (.int .i64 150) ?_; refine xpL (.int .i64 0) ?_; refine xpL (.int .i64 0) ?_; refine xpL (.slice p12 ((([]:List Int)).length) c12) ?_
 refine xpL (.int .i64 150) ?_; refine xT ?_
 replace M:Mm w0 ((B10,[.int .u8 97])::(B3,[.int .u8 104,.int .u8 105])::(bb3++(ba5++((obs p11)++((obs p5)++((obs p4)++([]:List (Nat × List Value)))))))) w12:=M.sub _ (List.cons_sublist_cons.2 (List.cons_sublist_cons.2 ((List.Sublist.refl _).append (List.sublist_append_right _ _))))
 clear N_12; go_upto_region 13 with fail; refine wp_region_list ?_; refine xpL (.pointer (some ⟨Ra,0,none⟩)) ?_; have Mp:=M.perm (pull1 ([(B10,[.int .u8 97]),(B3,[.int .u8 104,.int .u8 105])]:List (Nat × List Value)) bb3 ba5 ((obs p11)++((obs p5)++((obs p4)++([]:List (Nat × List Value))))))
 have key:=hK.skp w0 _ _ ga4 ba5 _ 3 281474976710656 (gsN_w ga3_w 3 1) (by unfold i64; decide) (by unfold i64; decide) hIa Mp
 rw [gk1] at key
 rw [show gkN ga4 3 281474976710656=ga5 from rfl] at key
 refine xcL key ?_; clear key; rintro e w13 ⟨ba6,rfl,hI_,M',o1⟩; replace hIb:=hK.off _ _ _ _ _ _ hIb o1 (Mp.awayG (fun p_ hp_=>by simp [hp_])); replace N_4:=NewF.offB N_4 o1 (Mp.awayS (fun p_ hp_=>by simp [hp_])); replace N_5:=NewF.offB N_5 o1 (Mp.awayS (fun p_ hp_=>by simp [hp_])); replace N_11:=NewF.offB N_11 o1 (Mp.awayS (fun p_ hp_=>by simp [hp_])); clear o1 Mp M hIa
 have hIa:=hI_; clear hI_
 have M:Mm w0 ((B10,[.int .u8 97])::(B3,[.int .u8 104,.int .u8 105])::(ba6++(bb3++((obs p11)++((obs p5)++((obs p4)++([]:List (Nat × List Value)))))))) w13:=M'.perm (pull0 ([(B10,[.int .u8 97]),(B3,[.int .u8 104,.int .u8 105])]:List (Nat × List Value)) ba6 (bb3++((obs p11)++((obs p5)++((obs p4)++([]:List (Nat × List Value))))))).symm
 clear M'; refine xeL ?_; refine xpL (.int .i64 0) ?_; refine xT ?_; go_upto_region 14 with fail; refine wp_region_list ?_; refine xpL (.pointer (some ⟨Ra,0,none⟩)) ?_; refine actL (w':=w13.alloc (.cells #[.int .u8 97] 5)) (.slice (some ⟨w13.heap.size,0,none⟩) 1 1) rfl (by kernel_rfl) ?_; simp only [aP,lI,l0,lS]
 refine actL (w':=w13.alloc (.cells #[.int .u8 97] 5 ((#[.int .u8 97]:Array Value).size,(#[.int .u8 97]:Array Value).size+1))) (.slice (some ⟨w13.heap.size,0,none⟩) 1 1) rfl (conv_const 29 5 #[.int .u8 97] 1 1 _ rfl rfl Tryz.underlying29 Tryz.underlying5) ?_; simp only [aP,lI,l0,lS]
 have hlb:=(Below.refl w13.heap.size w13).alloc (xnR _) (.cells #[.int .u8 97] 5 ((#[.int .u8 97]:Array Value).size,(#[.int .u8 97]:Array Value).size+1)); replace hIa:=hK.bel hIa hlb; replace hIb:=hK.bel hIb hlb; replace N_4:=NewF.below N_4 hlb; replace N_5:=NewF.below N_5 hlb; replace N_11:=NewF.below N_11 hlb
 replace M:=M.boxC #[.int .u8 97] 5 (((#[.int .u8 97]:Array Value)).size,((#[.int .u8 97]:Array Value)).size+1) w13.heap.size rfl (xnR _); clear hlb; generalize w13.alloc (.cells #[.int .u8 97] 5 ((#[.int .u8 97]:Array Value).size,(#[.int .u8 97]:Array Value).size+1))=w14 at M hIa hIb N_4 N_5 N_11 ⊢
 have hA_B14:w13.heap.size≤w13.heap.size:=xnR _
 generalize eB_:w13.heap.size=B14 at M hA_B14 ⊢
 replace hA_B14:w13.heap.size≤B14:=Nat.le_of_eq eB_
 clear eB_
 replace M:Mm w0 ((B14,[.int .u8 97])::(B10,[.int .u8 97])::(B3,[.int .u8 104,.int .u8 105])::(ba6++(bb3++((obs p11)++((obs p5)++((obs p4)++([]:List (Nat × List Value)))))))) w14:=M
 have Mp:=M.perm (pull0 ([(B14,[.int .u8 97]),(B10,[.int .u8 97]),(B3,[.int .u8 104,.int .u8 105])]:List (Nat × List Value)) ba6 (bb3++((obs p11)++((obs p5)++((obs p4)++([]:List (Nat × List Value)))))))
 have key:=hK.sel w0 _ _ ga5 ba6 _ 3 (some ⟨B14,0,none⟩) 1 ([97]) hg (gkN_w (gsN_w ga3_w 3 1) 3 281474976710656) (by unfold i64; decide) hIa (by decide) (by decide) (fun e=>by cases e) (by unfold Byts; decide) Mp (show SrcA _ _ _ _ _ from ⟨(M.src mS [97] rfl),fun ad e _=>by cases e; exact Mp.beside mS⟩)
 rw [show gsE ga5 3 ([97]:List Int).length=6 from gs3] at key
 refine xcL key ?_; clear key; rintro e w15 ⟨p15,c15,ba7,rfl,N_15,hI_,M',o1⟩; replace hIb:=hK.off _ _ _ _ _ _ hIb o1 (Mp.awayG (fun p_ hp_=>by simp [hp_])); replace N_4:=NewF.offB N_4 o1 (Mp.awayS (fun p_ hp_=>by simp [hp_])); replace N_5:=NewF.offB N_5 o1 (Mp.awayS (fun p_ hp_=>by simp [hp_])); replace N_11:=NewF.offB N_11 o1 (Mp.awayS (fun p_ hp_=>by simp [hp_]))
 clear o1 Mp M hIa; have hIa:=hI_; clear hI_
 have M:Mm w0 ((B14,[.int .u8 97])::(B10,[.int .u8 97])::(B3,[.int .u8 104,.int .u8 105])::(ba7++((obs p15)++(bb3++((obs p11)++((obs p5)++((obs p4)++([]:List (Nat × List Value))))))))) w15:=M'.perm (pullY ([(B14,[.int .u8 97]),(B10,[.int .u8 97]),(B3,[.int .u8 104,.int .u8 105])]:List (Nat × List Value)) ba7 (obs p15) (bb3++((obs p11)++((obs p5)++((obs p4)++([]:List (Nat × List Value)))))))
 clear M'; refine xeL ?_; refine xpL (.tuple #[.slice p15 ((gsB ga5 3 [97]).length) c15,.int .i64 6]) ?_; refine xpL (.slice p15 ((gsB ga5 3 [97]).length) c15) ?_; refine xpL (.int .i64 6) ?_; refine xpL (.slice p15 ((gsB ga5 3 [97]).length) c15) ?_; refine xpL (.int .i64 6) ?_; refine xT ?_; go_upto_region 15 with fail; refine wp_region_list ?_; refine xpL (.slice p4 ((gx0).length) c4) ?_
 refine readL (.int .i64 (((gx0).length:Nat):Int)) rfl (lenS _ 29 5 p4 ((gx0).length) c4 rfl Tryz.underlying29 rfl _) ?_; simp only [aP,lI,l0,lS]; refine xaL (.bool true) (eqlI .i64 _ _ _ _ _ _ rfl rfl rfl true (by rw [gx0_len]; rfl) _) ?_; refine xpL (.bool true) ?_; refine xpL (.int .i64 0) ?_; refine xaL (.bool true) (eqlI .i64 _ _ _ _ _ _ rfl rfl rfl true (beq_self_eq_true _) _) ?_
 refine xpL (.bool true) ?_; refine xpL (.bool true) ?_; refine xpL (.int .i64 3) ?_; refine xaL (.bool true) (eqlI .i64 _ _ _ _ _ _ rfl rfl rfl true (beq_self_eq_true _) _) ?_; refine xpL (.bool true) ?_; refine xpL (.bool true) ?_; refine xpL (.int .i64 0) ?_; refine xaL (.bool true) (eqlI .i64 _ _ _ _ _ _ rfl rfl rfl true (beq_self_eq_true _) _) ?_; refine xpL (.bool true) ?_
 refine xpL (.bool true) ?_; refine xpL (.slice p5 (([104,105]).length) c5) ?_
 refine readL (.string (txt (([104,105]).length) (bl ([104,105])))) rfl (conv_txt 29 5 9 _ rfl Tryz.underlying29 Tryz.underlying5 Tryz.underlying9 p5 (([104,105]).length) c5 (bl ([104,105])) rfl _ (NewF.src N_5) (fun e=>by have h1:=(NewF.nilCap N_5) e; have h2:=(NewF.le N_5); omega)) ?_
 simp only [aP,lI,l0,lS]; refine xaL (.bool true) (eqlS _ _ _ _ _ _ rfl rfl rfl rfl _) ?_; refine xpL (.bool true) ?_; refine xpL (.bool true) ?_; refine xpL (.int .i64 0) ?_; refine xaL (.bool true) (eqlI .i64 _ _ _ _ _ _ rfl rfl rfl true (beq_self_eq_true _) _) ?_; refine xpL (.bool true) ?_; refine xpL (.bool true) ?_; refine xpL (.int .i64 140) ?_
 refine xaL (.bool true) (eqlI .i64 _ _ _ _ _ _ rfl rfl rfl true (beq_self_eq_true _) _) ?_; refine xpL (.bool true) ?_; refine xpL (.bool true) ?_; refine xpL (.int .i64 110) ?_; refine xaL (.bool true) (eqlI .i64 _ _ _ _ _ _ rfl rfl rfl true (beq_self_eq_true _) _) ?_; refine xpL (.bool true) ?_; refine xpL (.bool true) ?_; refine xpL (.int .i64 0) ?_
 refine xaL (.bool true) (eqlI .i64 _ _ _ _ _ _ rfl rfl rfl true (beq_self_eq_true _) _) ?_; refine xpL (.bool true) ?_; refine xpL (.bool true) ?_; refine xpL (.int .i64 0) ?_; refine xaL (.bool true) (eqlI .i64 _ _ _ _ _ _ rfl rfl rfl true (beq_self_eq_true _) _) ?_; refine xpL (.bool true) ?_; refine xpL (.bool true) ?_; refine xpL (.int .i64 0) ?_
 refine xaL (.bool true) (eqlI .i64 _ _ _ _ _ _ rfl rfl rfl true (beq_self_eq_true _) _) ?_; refine xpL (.bool true) ?_; refine xpL (.bool true) ?_; refine xpL (.int .i64 150) ?_; refine xaL (.bool true) (eqlI .i64 _ _ _ _ _ _ rfl rfl rfl true (beq_self_eq_true _) _) ?_; refine xpL (.bool true) ?_; refine xpL (.bool true) ?_; refine xpL (.int .i64 0) ?_
 refine xaL (.bool true) (eqlI .i64 _ _ _ _ _ _ rfl rfl rfl true (beq_self_eq_true _) _) ?_; refine xpL (.bool true) ?_; refine xpL (.bool true) ?_; refine xpL (.int .i64 6) ?_; refine xaL (.bool true) (eqlI .i64 _ _ _ _ _ _ rfl rfl rfl true (beq_self_eq_true _) _) ?_; refine xpL (.bool true) ?_; refine xpL (.bool true) ?_; refine xT ?_; have hbel:=M.below; clear M hIa hIb N_4 N_5 N_11 N_15
 go_wp2; go_ret
 exact ⟨rfl,hbel⟩
theorem rtakefixed_any (sp:Option Addr) (len cap:Nat) (hlen:len≤140737488351232) (hcap:len≤cap) (hnil:sp=none→cap=0) (z:Nat→Int) (hz:In 256 len z) (s:Int) (w:World) (hs:Src w sp len z) :
 Calls Tryz.prog 42 #[.slice sp len cap,.int .i64 s] w fun e w'=>∃ rp rc,e=.returned (.tuple #[.int .i64 (gN len z s),.slice rp (gL len s) rc,.int .i64 (gE len s)])∧(gL len s≤rc∧(rp=none→rc=0)∧Src w' rp (gL len s) (fun j=>z (s.toNat+j)))∧Below w.heap.size w w':=by
 have hB0:=Below.refl w.heap.size w
 by_cases h1:s<1
 · have hE:gE len s=1:=by unfold gE; rw [if_pos (.inl h1)]
   have hN:gN len z s=0:=by unfold gN; rw [hE]; rfl
   have hL:gL len s=0:=by unfold gL; rw [hE]; rfl
   have h1':s≤0:=by omega
   go_enter Tryz.func42,Tryz.ntmps42
   have hA:=show Hid _ from (And.intro hN (And.intro hL hE)); clear hN hL hE; go_wp2; refine bodyPost_ret (results_tmp3 Tryz.results42 _ _ _) rfl ?_
   exact ⟨none,0,by rw [hA.out.1,hA.out.2.1,hA.out.2.2]; rfl,by rw [hA.out.2.1]; exact ⟨xnR _,fun _=>rfl,fun j hj=>absurd hj (xnZ j)⟩,hB0⟩
 · by_cases h2:7<s
   · have hE:gE len s=1:=by unfold gE; rw [if_pos (.inr h2)]
     have hN:gN len z s=0:=by unfold gN; rw [hE]; rfl
     have hL:gL len s=0:=by unfold gL; rw [hE]; rfl
     have h1':¬ s≤0:=by omega
     have h2':8≤s:=by omega
     go_enter Tryz.func42,Tryz.ntmps42
     have hA:=show Hid _ from (And.intro hN (And.intro hL hE)); clear hN hL hE; go_wp2; refine bodyPost_ret (results_tmp3 Tryz.results42 _ _ _) rfl ?_
     exact ⟨none,0,by rw [hA.out.1,hA.out.2.1,hA.out.2.2]; rfl,by rw [hA.out.2.1]; exact ⟨xnR _,fun _=>rfl,fun j hj=>absurd hj (xnZ j)⟩,hB0⟩
   · by_cases h3:(len:Int)<s
     · have hE:gE len s=3:=by unfold gE; rw [if_neg (by omega),if_pos h3]
       have hN:gN len z s=0:=by unfold gN; rw [hE]; rfl
       have hL:gL len s=0:=by unfold gL; rw [hE]; rfl
       have h1':¬ s≤0:=by omega
       have h2':¬ 8≤s:=by omega
       go_enter Tryz.func42,Tryz.ntmps42
       have hA:=show Hid _ from (And.intro hN (And.intro hL hE)); clear hN hL hE; go_wp2; refine bodyPost_ret (results_tmp3 Tryz.results42 _ _ _) rfl ?_
       exact ⟨none,0,by rw [hA.out.1,hA.out.2.1,hA.out.2.2]; rfl,by rw [hA.out.2.1]; exact ⟨xnR _,fun _=>rfl,fun j hj=>absurd hj (xnZ j)⟩,hB0⟩
     · obtain ⟨K,rfl⟩:=xiN (show 0≤s by omega)
       have hE:gE len ((K:Nat):Int)=0:=by unfold gE; rw [if_neg (by omega),if_neg h3]
       have hN:gN len z ((K:Nat):Int)=fV z K:=by unfold gN; rw [if_pos hE,Int.toNat_natCast]
       have hL:gL len ((K:Nat):Int)=len-K:=by unfold gL; rw [if_pos hE,Int.toNat_natCast]
       have hA:=show Hid _ from (And.intro hN (And.intro hL hE)); clear hN hL hE
       have h1':¬ (K:Int)≤0:=by omega
       have h2':¬ 8≤(K:Int):=by omega
       obtain ⟨ad,rfl,_⟩:=hs 0 (by omega)
       have hT:=fV_nonneg z len hz
       go_enter Tryz.func42,Tryz.ntmps42
       go_wp2
       go_loopw [7,8] (fun nw iw w'=>∃ m:Nat,m≤K∧nw=.int .i64 (fV z m)∧iw=.int .i64 (m:Int)∧w=w') (fun _ iw _=>K-(intOf iw).toNat)
       case atStart=>exact ⟨0,Nat.zero_le _,rfl,rfl,rfl⟩
       case round =>
        obtain ⟨m,hm2,rfl,rfl,rfl⟩:=hrel
        by_cases hlt:m<K
        · have g1:(m:Int)<(K:Int):=by omega
          obtain ⟨ad',he',hcm⟩:=hs m (by omega)
          injection he' with he'
          subst he'
          have hzm:=hz m (by omega); have hb1:=hT m (by omega)
          have hb2:fV z m<281474976710656:=by
           have h6:(256:Nat)^m≤256^6:=Nat.pow_le_pow_right (by decide) (by omega)
           have e6:(256:Nat)^6=281474976710656:=by decide
           have e7:((256^m:Nat):Int)=(256:Int)^m:=by norm_cast
           omega
          go_upto_region 9 with fail; refine wp_region_list ?_; refine xpL (.int .i64 (fV z m)) ?_; refine xqL (.int .i64 (fV z m*256)) (fun w=>mulI .i64 _ _ _ _ _ _ _ rfl rfl rfl (by rw [xw6]; omega) w) ?_; refine xpL (.slice (some ad) len cap) ?_; refine xpL (.int .i64 (m:Int)) ?_
          refine xqL (.pointer (some (ad.add m))) (fun w=>idxSl 29 5 len cap .i64 ad m _ _ Tryz.underlying29 (fun _=>by kernel_rfl) (by omega) rfl rfl rfl w) ?_; refine xaL (.int .u8 (z m)) (loadAny 5 .u8 _ (ad.add m) _ rfl rfl Tryz.underlying5 hcm) ?_
          refine xqL (.int .i64 (z m)) (fun w=>convI .u8 .i64 _ _ _ _ _ rfl (by kernel_rfl) Tryz.underlying3 (by kernel_rfl) rfl (by rw [xw6]; omega) w) ?_; refine xqL (.int .i64 (fV z (m+1))) (fun w=>addI .i64 _ _ _ _ _ _ _ rfl rfl rfl (by rw [xw6]; show _=fV z m*256+z m; omega) w) ?_; refine xpL (.int .i64 (fV z (m+1))) ?_; clear hb1 hb2
          show Exit.inBlock _ _ _ _ _
          go_wp2
          go_roundw
          case rel=>exact ⟨m+1,by omega,rfl,by go_num,trivial⟩
          case measure=>simp [intOf]; omega
        · obtain rfl:m=K:=by omega
          have g1:¬ (m:Int)<(m:Int):=by omega
          obtain ⟨cp,hcut,hsrc,hcn⟩:=cut_loN (P:=Tryz.prog) (t:=29) (by kernel_rfl) (fun _=>by kernel_rfl) (some ad) len cap m (by omega) hcap (fun e=>by cases e)
          go_upto_region 10 with fail; refine wp_region_list ?_; refine xpL (.int .i64 (fV z m)) ?_; refine actL (w':=w.alloc (.cells #[] 5)) (.slice (some ⟨w.heap.size,0,none⟩) 0 0) rfl (by kernel_rfl) ?_; simp only [aP,lI,l0,lS]; refine xpL (.slice (some ad) len cap) ?_; refine xpL (.int .i64 ((m:Nat):Int)) ?_
          refine xqL (.slice cp (len-m) (cap-m)) (fun w=>cutOp _ _ _ _ _ _ rfl rfl rfl (hcut w)) ?_; have hb1:=(Below.refl w.heap.size w).alloc (xnR _) (.cells #[] 5)
          obtain ⟨v,w2,hr,ho,hgr,_⟩:=run_append_Own (P:=Tryz.prog) (ty:=29) Tryz.underlying29 one8 (Own.lit w w.heap.size 5 .u8 0 (fun _=>0) (xnR _) (by unfold maxLen; omega)) (cp) (len-m) (cap-m) (fun j=>z (m+j)) ((hsrc _ _ hs).below hb1 (xnR _)) hcn (by unfold maxLen; omega) (by omega) hb1.size
          have hb2:=hb1.grown hgr hb1.size (fun b hb=>by injection hb with hb; simp only at hb; omega); refine xaL v (appendOp _ _ 29 _ _ _ rfl rfl rfl hr) ?_
          have hO:Own w2 w.heap.size 5 .u8 (len-m) (fun j=>z (m+j)) v:=by
           rw [Nat.zero_add] at ho
           exact ho.congr fun j _=>by unfold app; rw [if_neg (xnZ j),Nat.sub_zero]
          clear hr ho hgr hb1
          obtain ⟨rp,rc,rfl,hrc,hrs⟩:=hO.bytes
          have hrn:=hO.nilCap; clear hO; refine xpL (.int .i64 (fV z m)) ?_; refine xpL (.slice rp (len-m) rc) ?_; refine xpL (.int .i64 0) ?_; show Exit.then _ _ _ _ _; go_wp2; refine bodyPost_ret (results_tmp3 Tryz.results42 _ _ _) rfl ?_
          exact ⟨rp,rc,by rw [hA.out.1,hA.out.2.1,hA.out.2.2]; rfl,by rw [hA.out.2.1]; exact ⟨hrc,hrn,hrs⟩,hb2⟩
def pE (p:Pkt):Int:=if pok p=true then 0 else 110
def pL (p:Pkt):List Int:=if pok p=true then pby p else []
def PrintOK:Prop:=∀ (p:Pkt) (bp:Option Addr) (bc:Nat) (w:World),PG w→PV w p bp bc→Calls Tryz.prog 27 #[.agg (pcs p bp bc).toArray] w fun e w'=>(∃ v,e=.returned (.tuple #[v,.int .i64 (pE p)])∧OwnL w' w.heap.size (pL p) v)∧Below w.heap.size w w'
def HeadOK:Prop:=∀ (p:Pkt) (bp:Option Addr) (bc:Nat) (w:World),PG w→PV w p bp bc→Calls Tryz.prog 26 #[.agg (pcs p bp bc).toArray] w fun e w'=>(∃ v,e=.returned v∧NewL w' w.heap.size (phd p) v)∧Below w.heap.size w w'
theorem phd_rec {p:Pkt} (h:p.kind=3) (ho:pok p=true):phd p=hdr p:=by unfold phd; rw [if_pos ⟨h,ho⟩]
theorem phd_none {p:Pkt} (h:¬ (p.kind=3∧pok p=true)):phd p=[]:=by unfold phd; rw [if_neg h]
end Go.Proofs.YtknodedhcdpbiaaGreatDoor
