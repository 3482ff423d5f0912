/- Texts of Am, joined. -/
import Derived.Test.YtmedjdadhmdpgaaP5SchedPlays
set_option maxRecDepth 20000
set_option maxHeartbeats 64000000
namespace Go.Proofs.Ytmedjdadhmdpgaa
open Go.RowKit
section
theorem Mm.tell21 {w0 w:World} {l:List (Nat × List Value)} {g:Nat} (M:Mm w0 ((g,[])::l) w) {base:Nat} {e:TypeId} {size n cap:Nat} {xs:List Value} (hr:w.ownsRow base e size (.slice (some ⟨g,0,none⟩) n cap) n xs):Mm w0 ((g,xs)::l) w:=by
 refine ⟨fun p hp=>?_,List.pairwise_cons.2 ⟨(List.pairwise_cons.1 M.apart).1,(List.pairwise_cons.1 M.apart).2⟩,M.below⟩
 rcases xc1 hp with rfl | hp
 · refine ⟨fun j hj=>⟨?_,?_⟩,M.lo mS,M.lt mS⟩
   · have:=World.ownsRow.cells hr (g:=g) rfl j _ (List.getElem?_eq_getElem hj)
     rw [Addr.add_mid,Nat.zero_add] at this
     rw [this,List.getElem?_eq_getElem hj]
   · rcases hr.2 with ⟨h,_⟩ | ⟨g',cap,cur,h,_,hgg,_⟩
     · cases h
     · injection h with h _ _
       injection h with h
       injection h with h _ _
       subst h
       unfold World.frozen?
       simp only
       rw [hgg]
       simp
 · exact M.rows p (mT _ hp)
theorem dtell21 {w0 w:World} {R g n cf:Nat} {c:List Value} {A B:List Dfl} {d:Dfl} {l:List (Nat × List Value)} (M:Mm w0 ((R,c)::(obs (some ⟨g,0,none⟩)++(gf (A++d::B)++l))) w) (V:w.ownsRow 0 66 5 (.slice (some ⟨g,0,none⟩) n cf) n (fcs (A++d::B))):Mm w0 ((g,fcs A++(fc1 d++fcs B))::(R,c)::(obs d.sr++(gks d.Z++(gf (A++B)++l)))) w:=by
 have h1:Mm w0 ((g,[])::(R,c)::(gf (A++d::B)++l)) w:=M.perm (List.Perm.swap _ _ _)
 have h2:=h1.tell21 V
 rw [fcs_app,fcs_cons] at h2
 refine h2.perm (List.Perm.cons _ (List.Perm.cons _ ?_))
 have h3:=gf_mid A B d l
 unfold gd at h3
 rw [List.append_assoc] at h3
 exact h3
theorem perm_dfin {α:Type} (sr k m l:List α) (g R:α):(g::R::(sr++(k++(m++l)))).Perm (R::([g]++((sr++k)++(m++l)))):=by
 rw [List.append_assoc]
 exact List.Perm.swap _ _ _
theorem dfin21 {w0 w w':World} {s:Sch} {L A B:List Dfl} {d d':Dfl} {R g cf:Nat} {c X:List Value} {id:Int} {sf:Option Addr} {l:List (Nat × List Value)} (hI:DIn w s L sf cf) (h1:L=A++d::B) (h2:((d.n:Nat):Int)=id) (h3:∀ e∈A,((e.n:Nat):Int)≠id) (hn:d'.n=d.n) (V:w'.ownsRow 0 66 5 (.slice (some ⟨g,0,none⟩) L.length cf) L.length (fcs A++(fc1 d'++fcs B))) (hD:DOK w' d') (hA:AOK w' (A++B)) (M:Mm w0 ((g,X)::(R,c)::(obs d'.sr++(gks d'.Z++(gf (A++B)++l)))) w') :
 DIn w' { s with L:=sput s.L id d'.f } (A++d'::B) (some ⟨g,0,none⟩) cf∧Mm w0 ((R,c)::(obs (some ⟨g,0,none⟩)++(gf (A++d'::B)++l))) w':=by
 refine ⟨⟨?_,AOK.join hD hA,?_⟩,?_⟩
 · rw [fcs_app,fcs_cons,show (A++d'::B).length=L.length by rw [h1]; simp]
   exact V
 · show sput s.L id d'.f=_
   rw [hI.lst,h1,sput_mid h2 hn h3]
 · have h4:=M.untell.perm (perm_dfin (obs d'.sr) (gks d'.Z) (gf (A++B)) l (g,[]) (R,c))
   have h5:=(gf_mid A B d' l).symm
   exact h4.perm (List.Perm.cons _ (List.Perm.append_left _ h5))
theorem perm_dend {α:Type} (sq ss dr k m l:List α) (R:α):(sq++(R::(ss++(dr++(k++(m++l)))))).Perm (R::(ss++(dr++(k++(m++(sq++l)))))):=by
 have h1:(sq++(R::(ss++(dr++(k++(m++l)))))).Perm (R::(sq++(ss++(dr++(k++(m++l)))))):=List.perm_middle
 refine h1.trans (List.Perm.cons _ ?_)
 have h2:=sw21 sq (ss++(dr++(k++m))) l
 simpa [List.append_assoc] using h2
theorem dlose21_any (w0 w:World) (g N cf:Nat) (A B:List Dfl) (n t:Int) (win:Nat) (b:Bool) (sr sl:Option Addr) (m cr nl cl:Nat) (hw:win≤1000) (l:List (Nat × List Value)) (M:Mm w0 ((g,fcs A++(fc5 n ((win:Nat):Int) t b sr m cr++fcs B))::l) w) (V:w.ownsRow 0 66 5 (.slice (some ⟨g,0,none⟩) N cf) N (fcs A++(fc5 n ((win:Nat):Int) t b sr m cr++fcs B))) (base:Nat) (Z:List (Rcd × Option Addr × Nat)) (sg:Option Addr) (cg:Nat) (hz:Z.length<1000000000) (hs:(sall (Z.map Prod.fst)).length<1000000000) (Vg:w.ownsRow base 74 3 (.slice sg Z.length cg) Z.length (rcs Z)) (Kg:Rks w Z) (hg1:g∉ob sg) (hg2:g∉(gks Z).map Prod.fst) :
 Calls Try.prog 44 #[.pointer (some ⟨g,A.length*5,none⟩),.slice sg Z.length cg,.slice sl nl cl] w fun e w'=>∃ sq cq,e=.returned (.slice sq (sall (Z.map Prod.fst)).length cq)∧w'.ownsRow w.heap.size 38 2 (.slice sq (sall (Z.map Prod.fst)).length cq) (sall (Z.map Prod.fst)).length (wrc (sall (Z.map Prod.fst)))∧w'.ownsRow 0 66 5 (.slice (some ⟨g,0,none⟩) N cf) N (fcs A++(fc5 n ((lwn Z win:Nat):Int) t b sl nl cl++fcs B))∧Mm w0 (obs sq++((g,fcs A++(fc5 n ((lwn Z win:Nat):Int) t b sl nl cl++fcs B))::l)) w'∧Off [g] w w':=by
 have V_f:=V; have V_g:=Vg; have K_g:=Kg; have OF:=Off.refl [g] w; clear V Vg Kg
 replace V_f:w.ownsRow 0 66 5 (.slice (some ⟨g,0,none⟩) N cf) N (fcs A++([.int .i64 n,.int .i64 ((win:Nat):Int),.int .i64 t,.bool b,.slice sr m cr]++fcs B)):=V_f
 replace M:Mm w0 ((g,fcs A++([.int .i64 n,.int .i64 ((win:Nat):Int),.int .i64 t,.bool b,.slice sr m cr]++fcs B))::l) w:=M
 go_enter Try.func44,Try.ntmps44
 go_upto_region 0 with fail; refine wp_region_list ?_; refine xpL (.slice none 0 0) ?_; refine xT ?_; go_upto_region 1 with fail; refine wp_region_list ?_; refine xpL (.pointer (some ⟨g,A.length*5,none⟩)) ?_; refine xpL (.slice sl nl cl) ?_; refine xpL (.pointer (some ⟨g,A.length*5,none⟩)) ?_; refine xpL (.pointer (some ⟨g,A.length*5+4,none⟩)) ?_
 refine skipOpL rfl (storeAny (.slice sl nl cl) g (A.length*5+4) 64 _ _ rfl rfl rfl rfl rfl (M.isSome mS (A.length*5+4) (by rw [List.length_append,List.length_append,fcs_len]; show _<_+(5+_); omega)) (M.free mS (A.length*5+4) (by rw [List.length_append,List.length_append,fcs_len]; show _<_+(5+_); omega)) (by kernel_rfl)) ?_
 simp only [Act.put]; replace M:=M.set (A.length*5+4) (by rw [List.length_append,List.length_append,fcs_len]; show _<_+(5+_); omega) (.slice sl nl cl)
 rw [mid_set (Nat.le_of_ble_eq_true rfl)] at M
 replace V_f:=ownsRow_put V_f (A.length*5+4) (.slice sl nl cl)
 rw [mid_set (Nat.le_of_ble_eq_true rfl)] at V_f
 have o1_:=((Off.refl [g] w).set (b:=g) mS (A.length*5+4) (.slice sl nl cl)); replace V_g:=ownsRow_away V_g o1_ (fun b_ hb_=>by obtain rfl:=xm1 hb_; exact hg1); replace K_g:=K_g.off o1_ (fun b_ hb_=>by obtain rfl:=xm1 hb_; exact hg2); replace OF:=OF.trans (o1_.mono (fun b_ hb_=>by rw [xm1 hb_]; exact mS)); clear o1_
 generalize w.setCell ⟨g,(A.length*5+4),none⟩ (.slice sl nl cl)=w1 at M V_f V_g K_g OF ⊢
 replace M:Mm w0 ((g,fcs A++([.int .i64 n,.int .i64 ((win:Nat):Int),.int .i64 t,.bool b,.slice sl nl cl]++fcs B))::l) w1:=M
 replace V_f:w1.ownsRow 0 66 5 (.slice (some ⟨g,0,none⟩) N cf) N (fcs A++([.int .i64 n,.int .i64 ((win:Nat):Int),.int .i64 t,.bool b,.slice sl nl cl]++fcs B)):=V_f
 refine xT ?_
 by_cases hge:Z=[]
 · replace hge:=show Hid _ from hge
   go_upto_region 2 with fail; refine wp_region_list ?_; refine xpL (.slice sg Z.length cg) ?_; refine xaL (.int .i64 ((Z.length:Nat):Int)) (lenS _ 64 74 sg Z.length cg rfl Try.underlying64 rfl _) ?_; refine xaL (.bool false) (gtrI .i64 _ _ _ _ _ _ rfl rfl rfl false (decide_eq_false (by rw [hge.out]; decide)) _) ?_; refine xT ?_; go_upto_region 4 with fail; refine wp_region_list ?_
   refine xpL (.slice sg Z.length cg) ?_; have key:=dall21_any base Z sg cg hz hs w1 V_g K_g; refine xcL key ?_; clear key; rintro e w3 ⟨sq,cq,rfl,V_q,l_⟩; replace M:=M.newRow21 l_ V_q; replace V_q:=ownsRow_mono21 (b:=w.heap.size) V_q OF.size; replace OF:=OF.below l_; replace V_f:=ownsRow_bel V_f l_; clear l_ V_g K_g; refine xeL ?_
   refine xpL (.slice sq ((sall (Z.map Prod.fst)).length) cq) ?_; refine xT ?_; have hN:=show Hid _ from (show lwn Z win=win from if_pos hge.out); have HS:=show Hid _ from (And.intro V_q (And.intro V_f (And.intro M OF))); clear M V_q V_f OF; go_wp2; go_ret
   rw [hN.out]
   exact ⟨sq,cq,rfl,HS.out⟩
 · replace hge:=show Hid _ from hge
   go_upto_region 2 with fail; refine wp_region_list ?_; refine xpL (.slice sg Z.length cg) ?_; refine xaL (.int .i64 ((Z.length:Nat):Int)) (lenS _ 64 74 sg Z.length cg rfl Try.underlying64 rfl _) ?_; refine xaL (.bool true) (gtrI .i64 _ _ _ _ _ _ rfl rfl rfl true (decide_eq_true (by have:=List.length_pos_iff.2 hge.out; omega)) _) ?_; refine xT ?_; go_upto_region 3 with fail
   refine wp_region_list ?_; refine xpL (.pointer (some ⟨g,A.length*5,none⟩)) ?_; refine xpL (.pointer (some ⟨g,A.length*5,none⟩)) ?_; refine xpL (.pointer (some ⟨g,A.length*5,none⟩)) ?_; refine xpL (.pointer (some ⟨g,A.length*5+1,none⟩)) ?_
   refine xaL (.int .i64 ((win:Nat):Int)) (load1 3 _ ⟨g,A.length*5+1,none⟩ _ rfl rfl (fun _=>by kernel_rfl) (M.get mS (A.length*5+1) _ (mid_get rfl))) ?_
   refine xaL (.int .i64 ((win/2:Nat):Int)) (quoI .i64 _ 2 _ _ _ _ _ rfl rfl rfl (by decide) (by rw [Int.tdiv_eq_ediv_of_nonneg (by omega),xw6]; omega) _) ?_
   refine readL (.int .i64 (((max 2 (win/2)):Nat):Int)) rfl (maxI .i64 .i64 _ _ _ _ _ _ _ rfl rfl rfl (by split <;> omega) _) ?_; simp only [aP,lI,l0,lS]; refine xpL (.pointer (some ⟨g,A.length*5,none⟩)) ?_; refine xpL (.pointer (some ⟨g,A.length*5+1,none⟩)) ?_
   refine skipOpL rfl (storeAny (.int .i64 (((max 2 (win/2)):Nat):Int)) g (A.length*5+1) 3 _ _ rfl rfl rfl rfl rfl (M.isSome mS (A.length*5+1) (by rw [List.length_append,List.length_append,fcs_len]; show _<_+(5+_); omega)) (M.free mS (A.length*5+1) (by rw [List.length_append,List.length_append,fcs_len]; show _<_+(5+_); omega)) (by kernel_rfl)) ?_
   simp only [Act.put]; replace M:=M.set (A.length*5+1) (by rw [List.length_append,List.length_append,fcs_len]; show _<_+(5+_); omega) (.int .i64 (((max 2 (win/2)):Nat):Int))
   rw [mid_set (Nat.le_of_ble_eq_true rfl)] at M
   replace V_f:=ownsRow_put V_f (A.length*5+1) (.int .i64 (((max 2 (win/2)):Nat):Int))
   rw [mid_set (Nat.le_of_ble_eq_true rfl)] at V_f
   have o1_:=((Off.refl [g] w1).set (b:=g) mS (A.length*5+1) (.int .i64 (((max 2 (win/2)):Nat):Int))); replace V_g:=ownsRow_away V_g o1_ (fun b_ hb_=>by obtain rfl:=xm1 hb_; exact hg1); replace K_g:=K_g.off o1_ (fun b_ hb_=>by obtain rfl:=xm1 hb_; exact hg2); replace OF:=OF.trans (o1_.mono (fun b_ hb_=>by rw [xm1 hb_]; exact mS)); clear o1_
   generalize w1.setCell ⟨g,(A.length*5+1),none⟩ (.int .i64 (((max 2 (win/2)):Nat):Int))=w4 at M V_f V_g K_g OF ⊢
   replace M:Mm w0 ((g,fcs A++([.int .i64 n,.int .i64 (((max 2 (win/2)):Nat):Int),.int .i64 t,.bool b,.slice sl nl cl]++fcs B))::l) w4:=M
   replace V_f:w4.ownsRow 0 66 5 (.slice (some ⟨g,0,none⟩) N cf) N (fcs A++([.int .i64 n,.int .i64 (((max 2 (win/2)):Nat):Int),.int .i64 t,.bool b,.slice sl nl cl]++fcs B)):=V_f
   refine xT ?_; go_upto_region 4 with fail; refine wp_region_list ?_; refine xpL (.slice sg Z.length cg) ?_; have key:=dall21_any base Z sg cg hz hs w4 V_g K_g; refine xcL key ?_; clear key; rintro e w6 ⟨sq,cq,rfl,V_q,l_⟩; replace M:=M.newRow21 l_ V_q; replace V_q:=ownsRow_mono21 (b:=w.heap.size) V_q OF.size; replace OF:=OF.below l_; replace V_f:=ownsRow_bel V_f l_
   clear l_ V_g K_g; refine xeL ?_; refine xpL (.slice sq ((sall (Z.map Prod.fst)).length) cq) ?_; refine xT ?_; have hN:=show Hid _ from (show lwn Z win=max 2 (win/2) from if_neg hge.out); have HS:=show Hid _ from (And.intro V_q (And.intro V_f (And.intro M OF))); clear M V_q V_f OF; go_wp2; go_ret
   rw [hN.out]
   exact ⟨sq,cq,rfl,HS.out⟩
theorem dlat21_any (w0 w:World) (R:Nat) (L:List Dfl) (sf:Option Addr) (cf:Nat) (l:List (Nat × List Value)) (s:Sch) (hI:DIn w s L sf cf) (hw:SchW s) (hsz_:ssz s<1000000000) (M:Mm w0 ((R,drc s sf L.length cf)::(obs sf++(gf L++l))) w) (id:Int) (now age:Int) :
 Calls Try.prog 22 #[.pointer (some ⟨R,0,none⟩),.int .i64 id,.int .i64 now,.int .i64 age] w fun e w'=>∃ sq cq L' sf' cf',e=.returned (.slice sq (slO s id now age).length cq)∧NewW w' w0.heap.size (slO s id now age) (.slice sq (slO s id now age).length cq)∧DIn w' (sla s id now age) L' sf' cf'∧Mm w0 ((R,drc (sla s id now age) sf' L'.length cf')::(obs sf'++(gf L'++(obs sq++l)))) w'∧Off (R::(ob sf++(gf L).map Prod.fst)) w w':=by
 replace M:Mm w0 ((R,[.int .i64 (dpo s),.int .i64 s.last,.slice sf L.length cf])::(obs sf++(gf L++l))) w:=M
 have hln:L.length<1000000000:=by have:=hI.len; omega
 have lb_:=Below.refl w.heap.size w
 go_enter Try.func22,Try.ntmps22
 go_upto_region 0 with fail; refine wp_region_list ?_; refine xpL (.slice none 0 0) ?_; refine xT ?_; go_upto_region 1 with fail; refine wp_region_list ?_; refine xpL (.pointer (some ⟨R,0,none⟩)) ?_; refine xpL (.int .i64 id) ?_; have key:=dat21_any w 0 R L sf cf hln (M.get mS 2 _ rfl) hI.V id; refine xcL key ?_; clear key; rintro e w2 ⟨rfl,l_⟩; replace M:=M.call l_
 replace lb_:=lb_.trans (l_.mono lb_.size)
 clear l_; refine xeL ?_; refine xpL (.int .i64 (sat L id)) ?_; refine xT ?_
 rcases sat_cases L id with ⟨h1,h2,h3⟩ | ⟨A,d,B,h1,h2,h3,h4,h5⟩
 · rw [h1]
   go_upto_region 2 with fail; refine wp_region_list ?_; refine xpL (.int .i64 (-1)) ?_; refine xaL (.bool true) (lssI .i64 _ _ _ _ _ _ rfl rfl rfl true (by decide) _) ?_; refine xT ?_; go_upto_region 3 with fail; refine wp_region_list ?_; refine xpL (.slice none 0 0) ?_; refine xT ?_; have hE:=show Hid _ from (show sla s id now age=s by unfold sla; rw [hI.lst,h2])
   have hO:=show Hid _ from (show slO s id now age=[] by unfold slO; rw [hI.lst,h2]); have HS:=show Hid _ from (show DIn w2 s L sf cf∧Mm w0 ((R,drc s sf L.length cf)::(obs sf++(gf L++(obs none++l)))) w2∧Off (R::(ob sf++(gf L).map Prod.fst)) w w2 from ⟨hI.below lb_,M,Off.of_below lb_⟩); clear M hI lb_ h1 h2 h3; go_wp2; go_ret
   rw [hE.out,hO.out]
   first | exact ⟨none,0,rfl,NewW.nil21 _ _,L,sf,cf,HS.out⟩ | exact ⟨none,0,L,sf,cf,rfl,NewW.nil21 _ _,HS.out⟩
 · rw [h4]
   have h7:A.length<L.length:=by rw [h1,List.length_append,List.length_cons]; omega
   have hzz:=d_sz hI.lst h1; have hI2:=hI.below lb_
   obtain ⟨g,rfl⟩:=row_some5 hI.V (by omega)
   have V_f:=hI2.V; have hAA:=AOK.mid (A:=A) (d:=d) (B:=B) (by rw [← h1]; exact hI2.A); have hMg:=dtell21 (A:=A) (d:=d) (B:=B) (by rw [← h1]; exact M) (by rw [← h1]; exact V_f)
   rw [show fcs L=fcs A++(fc1 d++fcs B) by rw [h1,fcs_app,fcs_cons]] at V_f
   have hjl:=h7; have OF:=Off.of_below (X:=R::(ob (some ⟨g,0,none⟩)++(gf L).map Prod.fst)) lb_
   have hgs:g∉ob d.sr:=hMg.awayB (fun p_ hp_=>by simp [hp_])
   have hgk:g∉(gks d.Z).map Prod.fst:=hMg.awayC (fun p_ hp_=>by simp [hp_])
   have hgA:g∉(gf (A++B)).map Prod.fst:=hMg.awayC (fun p_ hp_=>by simp [hp_])
   have A_o:=hAA.2; have D_d:=hAA.1; clear M hAA; have M:=hMg; clear hMg
   replace M:Mm w0 ((g,fcs A++([.int .i64 ((d.n:Nat):Int),.int .i64 ((d.win:Nat):Int),.int .i64 (((d.top.getD 0):Nat):Int),.bool d.top.isSome,.slice d.sr d.Z.length d.cr]++fcs B))::(R,[.int .i64 (dpo s),.int .i64 s.last,.slice (some ⟨g,0,none⟩) L.length cf])::(obs d.sr++(gks d.Z++(gf (A++B)++l)))) w2:=M
   replace V_f:w2.ownsRow 0 66 5 (.slice (some ⟨g,0,none⟩) L.length cf) L.length (fcs A++([.int .i64 ((d.n:Nat):Int),.int .i64 ((d.win:Nat):Int),.int .i64 (((d.top.getD 0):Nat):Int),.bool d.top.isSome,.slice d.sr d.Z.length d.cr]++fcs B)):=V_f
   go_upto_region 2 with fail; refine wp_region_list ?_; refine xpL (.int .i64 ((A.length:Nat):Int)) ?_; refine xaL (.bool false) (lssI .i64 _ _ _ _ _ _ rfl rfl rfl false (decide_eq_false (by omega)) _) ?_; refine xT ?_; go_upto_region 4 with fail; refine wp_region_list ?_; refine xpL (.pointer (some ⟨R,0,none⟩)) ?_; refine xpL (.pointer (some ⟨R,0,none⟩)) ?_
   refine xpL (.pointer (some ⟨R,2,none⟩)) ?_; refine xaL (.slice (some ⟨g,0,none⟩) L.length cf) (load1 56 _ ⟨R,2,none⟩ _ rfl rfl (fun _=>by kernel_rfl) (M.get (mT _ mS) 2 _ rfl)) ?_; refine xpL (.int .i64 ((A.length:Nat):Int)) ?_; refine xaL (.pointer (some ⟨g,A.length*5,none⟩)) (idxF5 g _ _ A.length (some ⟨g,0,none⟩) rfl hjl _ _ rfl rfl rfl _) ?_
   refine xpL (.pointer (some ⟨g,A.length*5,none⟩)) ?_; refine xT ?_; go_upto_region 5 with fail; refine wp_region_list ?_; refine xpL (.slice none 0 0) ?_; refine xpL (.slice none 0 0) ?_; refine xT ?_; go_upto_region 6 with fail; refine wp_region_list ?_; refine xpL (.int .i64 0) ?_; refine xT ?_; have HI:=show Hid _ from (And.intro M (And.intro V_f (And.intro A_o (And.intro D_d OF))))
   have hgw:g<w2.heap.size:=M.lt mS
   clear M A_o OF; go_wp2
   go_loopw [11,12,13] (fun a_ b_ v_ w'=>∃ (i':Nat) (st sl:Option Addr) (ct cl:Nat),i'≤d.Z.length∧a_=.slice st ((d.Z.take i').filter fun q=>slt now age q.1).length ct∧b_=.slice sl ((d.Z.take i').filter fun q=>!slt now age q.1).length cl∧v_=.int .i64 (i':Int)∧w'.ownsRow w2.heap.size 74 3 (.slice st ((d.Z.take i').filter fun q=>slt now age q.1).length ct) ((d.Z.take i').filter fun q=>slt now age q.1).length (rcs ((d.Z.take i').filter fun q=>slt now age q.1))∧w'.ownsRow w2.heap.size 74 3 (.slice sl ((d.Z.take i').filter fun q=>!slt now age q.1).length cl) ((d.Z.take i').filter fun q=>!slt now age q.1).length (rcs ((d.Z.take i').filter fun q=>!slt now age q.1))∧(∀ b∈ob st,b∉ob sl)∧Below w2.heap.size w2 w') (fun _ _ v_ _=>d.Z.length-(intOf v_).toNat)
   case atStart=>exact ⟨0,none,none,0,0,Nat.zero_le _,rfl,rfl,rfl,World.ownsRow_nil _ _ _ _,World.ownsRow_nil _ _ _ _,(fun _ h _=>by cases h),Below.refl _ _⟩
   case round =>
    obtain ⟨i,st,sl,ct,cl,hi,rfl,rfl,rfl,V_t,V_l,hap,hB⟩:=hrel
    have M:=Mm.init wr
    by_cases hil:i<d.Z.length
    · clear HI
      obtain ⟨q,hq⟩:∃ q,d.Z[i]?=some q:=⟨_,List.getElem?_eq_getElem hil⟩
      obtain ⟨gr,hgr⟩:=row_some5 D_d.V (by omega)
      have hl1:=filt_len d.Z i (fun q=>slt now age q.1); have hl0:=filt_len d.Z i (fun q=>!slt now age q.1); have hm1:=smom_le now; have hm2:=smom_le age; go_upto_region 7 with fail; refine wp_region_list ?_; refine xpL (.int .i64 (i:Int)) ?_; refine xpL (.pointer (some ⟨g,A.length*5,none⟩)) ?_; refine xpL (.pointer (some ⟨g,A.length*5,none⟩)) ?_
      refine xpL (.pointer (some ⟨g,A.length*5+4,none⟩)) ?_; refine xaL (.slice d.sr d.Z.length d.cr) (load1 64 _ ⟨g,A.length*5+4,none⟩ _ rfl rfl (fun _=>by kernel_rfl) (row_cell5 (ownsRow_bel V_f (hB.trans (M.below.mono hB.size))) rfl (mid_get rfl))) ?_; refine xaL (.int .i64 ((d.Z.length:Nat):Int)) (lenS _ 64 74 d.sr d.Z.length d.cr rfl Try.underlying64 rfl _) ?_
      refine xaL (.bool true) (lssI .i64 _ _ _ _ _ _ rfl rfl rfl true (decide_eq_true (by omega)) _) ?_; refine xT ?_
      cases hb:slt now age q.1 with
      | true =>
        replace hb:=show Hid _ from hb; go_upto_region 9 with fail; replace M:=M.drew; refine wp_region_held_drew (S:=fun w'=>Below wr.heap.size wr w') (by kernel_rfl) M.below ?_; intro _; generalize wr.drew=w3 at M ⊢; refine xrH 0 34 rfl (.pointer (some ⟨g,A.length*5,none⟩)) (fun _ hS=>(by kernel_rfl)) M.below ?_
        refine xrH 1 35 rfl (.pointer (some ⟨g,A.length*5,none⟩)) (fun _ hS=>(by kernel_rfl)) M.below ?_; refine xrH 2 36 rfl (.pointer (some ⟨g,A.length*5+4,none⟩)) (fun _ hS=>(by kernel_rfl)) M.below ?_
        refine xrH 3 37 rfl (.slice d.sr d.Z.length d.cr) (fun _ hS=>load1 64 _ ⟨g,A.length*5+4,none⟩ _ rfl rfl (fun _=>by kernel_rfl) (row_cell5 (ownsRow_bel V_f (hB.trans (hS.mono hB.size))) rfl (mid_get rfl))) M.below ?_; refine xrH 4 38 rfl (.int .i64 (i:Int)) (fun _ hS=>(by kernel_rfl)) M.below ?_
        refine xrH 5 39 rfl (.pointer (some ⟨gr,i*3,none⟩)) (fun _ hS=>idxR3d gr _ _ i d.sr hgr (List.getElem?_eq_some_iff.1 hq).1 _ _ rfl rfl rfl _) M.below ?_; refine xrH 6 40 rfl (.pointer (some ⟨gr,i*3+1,none⟩)) (fun _ hS=>(by kernel_rfl)) M.below ?_
        refine xrH 7 41 rfl (.int .i64 ((q.1.m:Nat):Int)) (fun _ hS=>load1 3 _ ⟨gr,i*3+1,none⟩ _ rfl rfl (fun _=>by kernel_rfl) (row_cell5 (ownsRow_bel D_d.V (hB.trans (hS.mono hB.size))) hgr (rcs_get hq rfl))) M.below ?_; refine xrH 8 42 rfl (.int .i64 now) (fun _ hS=>(by kernel_rfl)) M.below ?_; refine xrH 10 44 rfl (.int .i64 age) (fun _ hS=>(by kernel_rfl)) M.below ?_
        have key:=dmom21_any now w3; refine callH (i:=9) (some 43) rfl (by kernel_rfl) rfl rfl (fun _=>by kernel_rfl) key ?_; clear key; rintro e w5 ⟨rfl,l_⟩; replace M:=M.call l_
        clear l_
        refine ⟨_,rfl,M.below,?_⟩
        simp only [aP,lI,l0,lS]; have key:=dmom21_any age w5; refine callH (i:=11) (some 45) rfl (by kernel_rfl) rfl rfl (fun _=>by kernel_rfl) key ?_; clear key; rintro e w7 ⟨rfl,l_⟩; replace M:=M.call l_
        clear l_
        refine ⟨_,rfl,M.below,?_⟩
        simp only [aP,lI,l0,lS]; refine xrH 12 46 rfl (.int .i64 (((smom now:Nat):Int)-((smom age:Nat):Int))) (fun _ hS=>subI .i64 _ _ _ _ _ _ _ rfl rfl rfl (by rw [xw6]; omega) _) M.below ?_; refine xrH 13 47 rfl (.bool true) (fun _ hS=>leqI .i64 _ _ _ _ _ _ rfl rfl rfl true hb.out _) M.below ?_
        refine wpAnyH_done (by kernel_rfl) ?_ _
        first | show Exit.then _ _ _ _ _ | show Exit.inBlock _ _ _ _ _
        go_upto_region 10 with fail; refine wp_region_list ?_; refine xpL (.slice st (((d.Z.take i).filter fun q=>slt now age q.1).length) ct) ?_; refine xpL (.pointer (some ⟨g,A.length*5,none⟩)) ?_; refine xpL (.pointer (some ⟨g,A.length*5,none⟩)) ?_; refine xpL (.pointer (some ⟨g,A.length*5+4,none⟩)) ?_
        refine xaL (.slice d.sr d.Z.length d.cr) (load1 64 _ ⟨g,A.length*5+4,none⟩ _ rfl rfl (fun _=>by kernel_rfl) (row_cell5 (ownsRow_bel V_f (hB.trans (M.below.mono hB.size))) rfl (mid_get rfl))) ?_; refine xpL (.int .i64 (i:Int)) ?_; refine xaL (.pointer (some ⟨gr,i*3,none⟩)) (idxR3d gr _ _ i d.sr hgr (List.getElem?_eq_some_iff.1 hq).1 _ _ rfl rfl rfl _) ?_
        refine xaL (.agg #[.int .i64 ((q.1.c:Nat):Int),.int .i64 ((q.1.m:Nat):Int),.slice q.2.1 q.1.cs.length q.2.2]) (loadN 74 _ ⟨gr,i*3,none⟩ [.int .i64 ((q.1.c:Nat):Int),.int .i64 ((q.1.m:Nat):Int),.slice q.2.1 q.1.cs.length q.2.2] rfl rfl (fun _=>by kernel_rfl) (fun _=>by kernel_rfl) (row_rec21 (ownsRow_bel D_d.V (hB.trans (M.below.mono hB.size))) hgr hq)) ?_
        have hlb:=(Below.refl w7.heap.size w7).alloc (xnR _) (.cells #[.int .i64 ((q.1.c:Nat):Int),.int .i64 ((q.1.m:Nat):Int),.slice q.2.1 q.1.cs.length q.2.2] 74)
        have T_b:=World.ownsRow.cells (World.ownsRow_lit (base:=w7.heap.size) (e:=74) (size:=3) w7 #[.int .i64 ((q.1.c:Nat):Int),.int .i64 ((q.1.m:Nat):Int),.slice q.2.1 q.1.cs.length q.2.2] 1 (xnR _) (by unfold maxLen; omega) rfl) (g:=w7.heap.size) rfl
        refine actL (w':=w7.alloc (.cells #[.int .i64 ((q.1.c:Nat):Int),.int .i64 ((q.1.m:Nat):Int),.slice q.2.1 q.1.cs.length q.2.2] 74)) (.slice (some ⟨w7.heap.size,0,none⟩) 1 1) rfl (by kernel_rfl) ?_; simp only [aP,lI,l0,lS]; replace M:=M.call hlb; clear hlb
        generalize w7.alloc (.cells #[.int .i64 ((q.1.c:Nat):Int),.int .i64 ((q.1.m:Nat):Int),.slice q.2.1 q.1.cs.length q.2.2] 74)=w8 at M T_b ⊢; generalize w7.heap.size=bz at T_b ⊢; replace V_t:=ownsRow_bel V_t M.below; replace V_l:=ownsRow_bel V_l M.below; have hB1:=hB.trans (M.below.mono hB.size)
        obtain ⟨v2,wz9,hr,V2,hgr,hg2⟩:=run_append_OwnV (P:=Try.prog) (ty:=64) Try.underlying64 manyD21 rfl (by decide) V_t ⟨bz,0,none⟩ 1 1 (rc1 q) rfl T_b (fun u hu=>rcs_one [q] u (by rw [rcs_one1]; exact hu)) (by unfold maxLen; omega) (by omega) hB1.size
        have hB2:=hB1.grown hgr hB1.size (fun b_ hb_=>(World.ownsRow.lt V_t b_ hb_).1)
        obtain ⟨sv,cv,rfl,_,_⟩:=row_form16 V2
        have ho:=Off.grown (Off.refl (ob st) _) hgr (fun b_ hb_=>.inl ((ob_own _ _ _ b_).1 hb_)); have hlo:=fun b_ hb_=>(World.ownsRow.lt V_l b_ hb_).2; replace V_l:=ownsRow_away V_l ho hap
        have hap2:∀ b∈ob sv,b∉ob sl:=fun b h1 h2=>by
         rcases hg2 b ((ob_own sv _ cv b).2 h1) with h | h
         · exact hap b ((ob_own _ _ _ b).1 h) h2
         · have:=hlo b ((ob_own _ _ _ b).2 h2)
           omega
        clear ho hlo; refine xaL _ (appendOp _ _ 64 _ _ _ rfl rfl rfl hr) ?_; clear hr hgr hg2 M hB1 T_b V_t
        have e1_:((d.Z.take i).filter fun q=>slt now age q.1)++[q]=((d.Z.take (i+1)).filter fun q=>slt now age q.1):=by rw [filt_take hq]; simp [hb.out]
        rw [← rcs_one1,← rcs_app,e1_,show ((d.Z.take i).filter fun q=>slt now age q.1).length+1=((d.Z.take (i+1)).filter fun q=>slt now age q.1).length by rw [← e1_,List.length_append]; rfl] at V2
        rw [show ((d.Z.take i).filter fun q=>slt now age q.1).length+1=((d.Z.take (i+1)).filter fun q=>slt now age q.1).length by rw [← e1_,List.length_append]; rfl]
        refine xpL (.slice sv (((d.Z.take (i+1)).filter fun q=>slt now age q.1).length) cv) ?_; refine xT ?_
        have e2_:((d.Z.take i).filter fun q=>!slt now age q.1)=((d.Z.take (i+1)).filter fun q=>!slt now age q.1):=by rw [filt_take hq]; simp [hb.out]
        rw [e2_] at V_l
        have HS:=show Hid _ from (And.intro V2 (And.intro V_l (And.intro hap2 hB2))); have hee:=show Hid _ from e2_; clear V2 V_l hap2 hB2 hB hap e1_ e2_; go_wp2
        go_roundw
        case rel=>exact ⟨i+1,sv,sl,cv,cl,by omega,rfl,by rw [hee.out],by go_num,HS.out⟩
        case measure=>simp [intOf]; omega
      | false =>
        replace hb:=show Hid _ from hb; go_upto_region 9 with fail; replace M:=M.drew; refine wp_region_held_drew (S:=fun w'=>Below wr.heap.size wr w') (by kernel_rfl) M.below ?_; intro _; generalize wr.drew=w9 at M ⊢; refine xrH 0 34 rfl (.pointer (some ⟨g,A.length*5,none⟩)) (fun _ hS=>(by kernel_rfl)) M.below ?_
        refine xrH 1 35 rfl (.pointer (some ⟨g,A.length*5,none⟩)) (fun _ hS=>(by kernel_rfl)) M.below ?_; refine xrH 2 36 rfl (.pointer (some ⟨g,A.length*5+4,none⟩)) (fun _ hS=>(by kernel_rfl)) M.below ?_
        refine xrH 3 37 rfl (.slice d.sr d.Z.length d.cr) (fun _ hS=>load1 64 _ ⟨g,A.length*5+4,none⟩ _ rfl rfl (fun _=>by kernel_rfl) (row_cell5 (ownsRow_bel V_f (hB.trans (hS.mono hB.size))) rfl (mid_get rfl))) M.below ?_; refine xrH 4 38 rfl (.int .i64 (i:Int)) (fun _ hS=>(by kernel_rfl)) M.below ?_
        refine xrH 5 39 rfl (.pointer (some ⟨gr,i*3,none⟩)) (fun _ hS=>idxR3d gr _ _ i d.sr hgr (List.getElem?_eq_some_iff.1 hq).1 _ _ rfl rfl rfl _) M.below ?_; refine xrH 6 40 rfl (.pointer (some ⟨gr,i*3+1,none⟩)) (fun _ hS=>(by kernel_rfl)) M.below ?_
        refine xrH 7 41 rfl (.int .i64 ((q.1.m:Nat):Int)) (fun _ hS=>load1 3 _ ⟨gr,i*3+1,none⟩ _ rfl rfl (fun _=>by kernel_rfl) (row_cell5 (ownsRow_bel D_d.V (hB.trans (hS.mono hB.size))) hgr (rcs_get hq rfl))) M.below ?_; refine xrH 8 42 rfl (.int .i64 now) (fun _ hS=>(by kernel_rfl)) M.below ?_; refine xrH 10 44 rfl (.int .i64 age) (fun _ hS=>(by kernel_rfl)) M.below ?_
        have key:=dmom21_any now w9; refine callH (i:=9) (some 43) rfl (by kernel_rfl) rfl rfl (fun _=>by kernel_rfl) key ?_; clear key; rintro e w11 ⟨rfl,l_⟩; replace M:=M.call l_
        clear l_
        refine ⟨_,rfl,M.below,?_⟩
        simp only [aP,lI,l0,lS]; have key:=dmom21_any age w11; refine callH (i:=11) (some 45) rfl (by kernel_rfl) rfl rfl (fun _=>by kernel_rfl) key ?_; clear key; rintro e w13 ⟨rfl,l_⟩; replace M:=M.call l_
        clear l_
        refine ⟨_,rfl,M.below,?_⟩
        simp only [aP,lI,l0,lS]; refine xrH 12 46 rfl (.int .i64 (((smom now:Nat):Int)-((smom age:Nat):Int))) (fun _ hS=>subI .i64 _ _ _ _ _ _ _ rfl rfl rfl (by rw [xw6]; omega) _) M.below ?_; refine xrH 13 47 rfl (.bool false) (fun _ hS=>leqI .i64 _ _ _ _ _ _ rfl rfl rfl false hb.out _) M.below ?_
        refine wpAnyH_done (by kernel_rfl) ?_ _
        first | show Exit.then _ _ _ _ _ | show Exit.inBlock _ _ _ _ _
        go_upto_region 11 with fail; refine wp_region_list ?_; refine xpL (.slice sl (((d.Z.take i).filter fun q=>!slt now age q.1).length) cl) ?_; refine xpL (.pointer (some ⟨g,A.length*5,none⟩)) ?_; refine xpL (.pointer (some ⟨g,A.length*5,none⟩)) ?_; refine xpL (.pointer (some ⟨g,A.length*5+4,none⟩)) ?_
        refine xaL (.slice d.sr d.Z.length d.cr) (load1 64 _ ⟨g,A.length*5+4,none⟩ _ rfl rfl (fun _=>by kernel_rfl) (row_cell5 (ownsRow_bel V_f (hB.trans (M.below.mono hB.size))) rfl (mid_get rfl))) ?_; refine xpL (.int .i64 (i:Int)) ?_; refine xaL (.pointer (some ⟨gr,i*3,none⟩)) (idxR3d gr _ _ i d.sr hgr (List.getElem?_eq_some_iff.1 hq).1 _ _ rfl rfl rfl _) ?_
        refine xaL (.agg #[.int .i64 ((q.1.c:Nat):Int),.int .i64 ((q.1.m:Nat):Int),.slice q.2.1 q.1.cs.length q.2.2]) (loadN 74 _ ⟨gr,i*3,none⟩ [.int .i64 ((q.1.c:Nat):Int),.int .i64 ((q.1.m:Nat):Int),.slice q.2.1 q.1.cs.length q.2.2] rfl rfl (fun _=>by kernel_rfl) (fun _=>by kernel_rfl) (row_rec21 (ownsRow_bel D_d.V (hB.trans (M.below.mono hB.size))) hgr hq)) ?_
        have hlb:=(Below.refl w13.heap.size w13).alloc (xnR _) (.cells #[.int .i64 ((q.1.c:Nat):Int),.int .i64 ((q.1.m:Nat):Int),.slice q.2.1 q.1.cs.length q.2.2] 74)
        have T_b:=World.ownsRow.cells (World.ownsRow_lit (base:=w13.heap.size) (e:=74) (size:=3) w13 #[.int .i64 ((q.1.c:Nat):Int),.int .i64 ((q.1.m:Nat):Int),.slice q.2.1 q.1.cs.length q.2.2] 1 (xnR _) (by unfold maxLen; omega) rfl) (g:=w13.heap.size) rfl
        refine actL (w':=w13.alloc (.cells #[.int .i64 ((q.1.c:Nat):Int),.int .i64 ((q.1.m:Nat):Int),.slice q.2.1 q.1.cs.length q.2.2] 74)) (.slice (some ⟨w13.heap.size,0,none⟩) 1 1) rfl (by kernel_rfl) ?_; simp only [aP,lI,l0,lS]; replace M:=M.call hlb; clear hlb
        generalize w13.alloc (.cells #[.int .i64 ((q.1.c:Nat):Int),.int .i64 ((q.1.m:Nat):Int),.slice q.2.1 q.1.cs.length q.2.2] 74)=w14 at M T_b ⊢; generalize w13.heap.size=bz at T_b ⊢; replace V_l:=ownsRow_bel V_l M.below; replace V_t:=ownsRow_bel V_t M.below; have hB1:=hB.trans (M.below.mono hB.size)
        obtain ⟨v2,wz9,hr,V2,hgr,hg2⟩:=run_append_OwnV (P:=Try.prog) (ty:=64) Try.underlying64 manyD21 rfl (by decide) V_l ⟨bz,0,none⟩ 1 1 (rc1 q) rfl T_b (fun u hu=>rcs_one [q] u (by rw [rcs_one1]; exact hu)) (by unfold maxLen; omega) (by omega) hB1.size
        have hB2:=hB1.grown hgr hB1.size (fun b_ hb_=>(World.ownsRow.lt V_l b_ hb_).1)
        obtain ⟨sv,cv,rfl,_,_⟩:=row_form16 V2
        have ho:=Off.grown (Off.refl (ob sl) _) hgr (fun b_ hb_=>.inl ((ob_own _ _ _ b_).1 hb_)); have hlo:=fun b_ hb_=>(World.ownsRow.lt V_t b_ hb_).2; replace V_t:=ownsRow_away V_t ho (fun b_ h1_ h2_=>hap b_ h2_ h1_)
        have hap2:∀ b∈ob sv,b∉ob st:=fun b h1 h2=>by
         rcases hg2 b ((ob_own sv _ cv b).2 h1) with h | h
         · exact hap b h2 ((ob_own _ _ _ b).1 h)
         · have:=hlo b ((ob_own _ _ _ b).2 h2)
           omega
        clear ho hlo; refine xaL _ (appendOp _ _ 64 _ _ _ rfl rfl rfl hr) ?_; clear hr hgr hg2 M hB1 T_b V_l
        have e1_:((d.Z.take i).filter fun q=>!slt now age q.1)++[q]=((d.Z.take (i+1)).filter fun q=>!slt now age q.1):=by rw [filt_take hq]; simp [hb.out]
        rw [← rcs_one1,← rcs_app,e1_,show ((d.Z.take i).filter fun q=>!slt now age q.1).length+1=((d.Z.take (i+1)).filter fun q=>!slt now age q.1).length by rw [← e1_,List.length_append]; rfl] at V2
        rw [show ((d.Z.take i).filter fun q=>!slt now age q.1).length+1=((d.Z.take (i+1)).filter fun q=>!slt now age q.1).length by rw [← e1_,List.length_append]; rfl]
        refine xpL (.slice sv (((d.Z.take (i+1)).filter fun q=>!slt now age q.1).length) cv) ?_; refine xT ?_
        have e2_:((d.Z.take i).filter fun q=>slt now age q.1)=((d.Z.take (i+1)).filter fun q=>slt now age q.1):=by rw [filt_take hq]; simp [hb.out]
        rw [e2_] at V_t
        have HS:=show Hid _ from (And.intro V_t (And.intro V2 (And.intro (fun b h1 h2=>hap2 b h2 h1) hB2))); have hee:=show Hid _ from e2_; clear V2 V_t hap2 hB2 hB hap e1_ e2_; go_wp2
        go_roundw
        case rel=>exact ⟨i+1,st,sv,ct,cv,by omega,by rw [hee.out],rfl,by go_num,HS.out⟩
        case measure=>simp [intOf]; omega
    · obtain ⟨M_,Vf_,A_o,Dd_,OF⟩:=HI.out
      have e_:d.Z.take i=d.Z:=List.take_of_length_le (by omega)
      rw [e_] at V_t V_l
      rw [e_]
      clear M V_f; have hltM:=fun x hx=>M_.lts21 (a:=[]) (x:=x) hx; have M:=((M_.call hB).own21 V_l M_.below.size (fun b hb hm=>by have:=hltM b hm; omega)).perm (sw21 (obs sl) [_,_] _); clear hltM; have V_f:=ownsRow_bel Vf_ hB; replace A_o:=A_o.below hB; have K_d:=D_d.K.below hB; replace OF:=OF.below hB; clear M_ Vf_ Dd_ HI D_d
      replace M:Mm w0 ((g,fcs A++([.int .i64 ((d.n:Nat):Int),.int .i64 ((d.win:Nat):Int),.int .i64 (((d.top.getD 0):Nat):Int),.bool d.top.isSome,.slice d.sr d.Z.length d.cr]++fcs B))::(R,[.int .i64 (dpo s),.int .i64 s.last,.slice (some ⟨g,0,none⟩) L.length cf])::(obs sl++(obs d.sr++(gks d.Z++(gf (A++B)++l))))) wr:=M
      go_upto_region 7 with fail; refine wp_region_list ?_; refine xpL (.int .i64 (i:Int)) ?_; refine xpL (.pointer (some ⟨g,A.length*5,none⟩)) ?_; refine xpL (.pointer (some ⟨g,A.length*5,none⟩)) ?_; refine xpL (.pointer (some ⟨g,A.length*5+4,none⟩)) ?_
      refine xaL (.slice d.sr d.Z.length d.cr) (load1 64 _ ⟨g,A.length*5+4,none⟩ _ rfl rfl (fun _=>by kernel_rfl) (M.get mS (A.length*5+4) _ (mid_get rfl))) ?_; refine xaL (.int .i64 ((d.Z.length:Nat):Int)) (lenS _ 64 74 d.sr d.Z.length d.cr rfl Try.underlying64 rfl _) ?_; refine xaL (.bool false) (lssI .i64 _ _ _ _ _ _ rfl rfl rfl false (decide_eq_false (by omega)) _) ?_
      refine xT ?_; have hbM:=show Hid _ from M.below.size; have hTl:=List.length_filter_le (fun q:Rcd × Option Addr × Nat=>slt now age q.1) d.Z; have hTs:=sall_sub ((List.filter_sublist (p:=fun q:Rcd × Option Addr × Nat=>slt now age q.1) (l:=d.Z)).map Prod.fst)
      have hgt:∀ (sp:Option Addr) (n c:Nat) (xs:List Value),wr.ownsRow w2.heap.size 74 3 (.slice sp n c) n xs→g∉ob sp:=fun sp n c xs V hm=>by
       have:=(World.ownsRow.lt V g ((ob_own sp n c g).2 hm)).1
       omega
      have hwin:=(hw.f (d.n,d.f) (by rw [hI.lst,h1]; exact List.mem_map.2 ⟨d,by simp,rfl⟩)).w2; go_upto_region 12 with fail; refine wp_region_list ?_; refine xpL (.pointer (some ⟨g,A.length*5,none⟩)) ?_; refine xpL (.slice st ((d.Z.filter fun q=>slt now age q.1).length) ct) ?_; refine xpL (.slice sl ((d.Z.filter fun q=>!slt now age q.1).length) cl) ?_; have hsl:=hgt _ _ _ _ V_l
      have key:=dlose21_any w0 wr g L.length cf A B ((d.n:Nat):Int) ((d.top.getD 0:Nat):Int) d.win d.top.isSome d.sr sl d.Z.length d.cr (d.Z.filter fun q=>!slt now age q.1).length cl (by have:d.win≤32:=hwin; omega) _ M V_f w2.heap.size (d.Z.filter fun q=>slt now age q.1) st ct (by omega) (by omega) V_t (K_d.sub fun q hq=>(List.mem_filter.1 hq).1) (hgt _ _ _ _ V_t) (fun hm=>hgk (((gks_sub List.filter_sublist).map Prod.fst).subset hm))
      refine xcL key ?_; clear key; rintro e w16 ⟨sq,cq,rfl,V_q,V_f2,M',o1⟩; have hbq:=OF.size; replace OF:=OF.trans (o1.mono fun b hb=>by rw [xm1 hb]; exact mT _ (List.mem_append_left _ mS)); replace V_l:=ownsRow_away V_l o1 (fun b hb=>by obtain rfl:=xm1 hb; exact hsl); replace A_o:=A_o.off o1 (fun b hb=>by obtain rfl:=xm1 hb; exact hgA)
      replace K_d:=K_d.off o1 (fun b hb=>by obtain rfl:=xm1 hb; exact hgk); clear o1 V_f V_t hsl hgt; have V_f:=V_f2; clear V_f2 M; refine xeL ?_; refine xpL (.slice sq ((sall ((d.Z.filter fun q=>slt now age q.1).map Prod.fst)).length) cq) ?_; refine xT ?_
      have hPn:DOK w16 (⟨d.n,lwn (d.Z.filter fun q=>slt now age q.1) d.win,d.top,(d.Z.filter fun q=>!slt now age q.1),sl,cl⟩:Dfl):=⟨ownsRow_mono21 V_l (Nat.zero_le _),K_d.sub fun q hq=>(List.mem_filter.1 hq).1⟩
      have M8:=M'.perm (List.perm_middle (l₁:=obs sq))
      have hsub:(gks (⟨d.n,lwn (d.Z.filter fun q=>slt now age q.1) d.win,d.top,(d.Z.filter fun q=>!slt now age q.1),sl,cl⟩:Dfl).Z).Sublist (gks d.Z):=gks_sub List.filter_sublist
      have M7:Mm w0 ((g,fcs A++(fc1 (⟨d.n,lwn (d.Z.filter fun q=>slt now age q.1) d.win,d.top,(d.Z.filter fun q=>!slt now age q.1),sl,cl⟩:Dfl)++fcs B))::(R,drc s (some ⟨g,0,none⟩) L.length cf)::(obs sl++(gks (⟨d.n,lwn (d.Z.filter fun q=>slt now age q.1) d.win,d.top,(d.Z.filter fun q=>!slt now age q.1),sl,cl⟩:Dfl).Z++(gf (A++B)++(obs sq++l))))) w16:=by
       have e1:Mm w0 ((g,fcs A++(fc1 (⟨d.n,lwn (d.Z.filter fun q=>slt now age q.1) d.win,d.top,(d.Z.filter fun q=>!slt now age q.1),sl,cl⟩:Dfl)++fcs B))::(obs sq++((R,drc s (some ⟨g,0,none⟩) L.length cf)::(obs sl++(obs d.sr++(gks d.Z++(gf (A++B)++l))))))) w16:=M8
       have e2:=e1.perm (List.Perm.cons _ (perm_dend (obs sq) (obs sl) (obs d.sr) (gks d.Z) (gf (A++B)) l (R,drc s (some ⟨g,0,none⟩) L.length cf)))
       exact e2.sub _ (List.cons_sublist_cons.2 (List.cons_sublist_cons.2 ((List.Sublist.refl _).append ((hsub.append (List.Sublist.refl _)).trans (List.sublist_append_right (obs d.sr) _)))))
      obtain ⟨hc1,hc2⟩:=dfin21 (R:=R) hI h1 h2 h3 (d':=(⟨d.n,lwn (d.Z.filter fun q=>slt now age q.1) d.win,d.top,(d.Z.filter fun q=>!slt now age q.1),sl,cl⟩:Dfl)) rfl V_f hPn A_o M7
      have hLn:(A++(⟨d.n,lwn (d.Z.filter fun q=>slt now age q.1) d.win,d.top,(d.Z.filter fun q=>!slt now age q.1),sl,cl⟩:Dfl)::B).length=L.length:=by rw [h1]; simp
      have hno:=show Hid _ from (show sla s id now age={ s with L:=sput s.L id (⟨d.n,lwn (d.Z.filter fun q=>slt now age q.1) d.win,d.top,(d.Z.filter fun q=>!slt now age q.1),sl,cl⟩:Dfl).f } by
       unfold sla
       rw [hI.lst,h5,flose_is]
       rfl)
      have hso:=show Hid _ from (show slO s id now age=sall ((d.Z.filter fun q=>slt now age q.1).map Prod.fst) by
       unfold slO
       rw [hI.lst,h5,filt_fst]
       rfl)
      have HN:=show Hid _ from NewW.ofOwn21 (ownsRow_mono21 (b:=w0.heap.size) V_q (by have:=M'.below.size; have:=hbM.out; omega))
      have HS:=show Hid _ from (And.intro hc1 (And.intro (show Mm w0 ((R,drc s (some ⟨g,0,none⟩) (A++(⟨d.n,lwn (d.Z.filter fun q=>slt now age q.1) d.win,d.top,(d.Z.filter fun q=>!slt now age q.1),sl,cl⟩:Dfl)::B).length cf)::_) w16 by rw [hLn]; exact hc2) OF)); clear M' M8 M7 OF V_q V_l V_f K_d A_o hPn hc1 hc2 hLn hI hI2 h1 h2 h3 h4 h5 hsub hzz hbM; go_wp2; go_ret
      rw [hso.out,hno.out]
      first | exact ⟨sq,cq,rfl,HN.out,_,_,_,HS.out⟩ | exact ⟨sq,cq,_,_,_,rfl,HN.out,HS.out⟩
def zlf (top:Int) (k:List (Int × Int)) (Z:List (Rcd × Option Addr × Nat)):List (Rcd × Option Addr × Nat):=Z.filter fun q=>!gpr top k q.1
theorem zlf_sub (top:Int) (k:List (Int × Int)) (Z:List (Rcd × Option Addr × Nat)):(zlf top k Z).Sublist Z:=List.filter_sublist
theorem stk_hit {top now:Int} {Z:List (Rcd × Option Addr × Nat)} {i:Nat} {q:Rcd × Option Addr × Nat} (hq:Z[i]?=some q) (h:((q.1.c:Nat):Int)=top):stk top now ((Z.take (i+1)).map Prod.fst)=max 0 (((smom now:Nat):Int)-((q.1.m:Nat):Int)):=by
 rw [List.take_add_one,hq,List.map_append]
 unfold stk
 rw [List.foldl_append]
 exact if_pos h
theorem stk_mis {top now:Int} {Z:List (Rcd × Option Addr × Nat)} {i:Nat} {q:Rcd × Option Addr × Nat} (hq:Z[i]?=some q) (h:((q.1.c:Nat):Int)≠top):stk top now ((Z.take (i+1)).map Prod.fst)=stk top now ((Z.take i).map Prod.fst):=by
 rw [List.take_add_one,hq,List.map_append]
 unfold stk
 rw [List.foldl_append]
 exact if_neg h
theorem gpr_top {top:Int} {k:List (Int × Int)} {r:Rcd} (h:gpr top k r=false):((r.c:Nat):Int)≠top:=fun e=>by
 unfold gpr stl at h
 rw [beq_iff_eq.2 e,Bool.or_true] at h
 cases h
theorem dgot21_any (w0 w:World) (R:Nat) (L:List Dfl) (sf:Option Addr) (cf:Nat) (l:List (Nat × List Value)) (s:Sch) (hI:DIn w s L sf cf) (hw:SchW s) (hsz_:ssz s<1000000000) (M:Mm w0 ((R,drc s sf L.length cf)::(obs sf++(gf L++l))) w) (id:Int) (top now:Int) (htop:i64 top) (k:List (Int × Int)) (sk:Option Addr) (ck:Nat) (hk:k.length<140737488355328) (N:RgW w k (.slice sk k.length ck)) :
 Calls Try.prog 20 #[.pointer (some ⟨R,0,none⟩),.int .i64 id,.int .i64 top,.slice sk k.length ck,.int .i64 now] w fun e w'=>∃ sq cq L' sf' cf',e=.returned (.tuple #[.slice sq (sgO s id top k).length cq,.int .i64 (sgT s id top now)])∧NewW w' w0.heap.size (sgO s id top k) (.slice sq (sgO s id top k).length cq)∧DIn w' (sgt s id top k) L' sf' cf'∧Mm w0 ((R,drc (sgt s id top k) sf' L'.length cf')::(obs sf'++(gf L'++(obs sq++l)))) w'∧Off (R::(ob sf++(gf L).map Prod.fst)) w w':=by
 replace M:Mm w0 ((R,[.int .i64 (dpo s),.int .i64 s.last,.slice sf L.length cf])::(obs sf++(gf L++l))) w:=M
 have hln:L.length<1000000000:=by have:=hI.len; omega
 have lb_:=Below.refl w.heap.size w
 go_enter Try.func20,Try.ntmps20
 go_upto_region 0 with fail; refine wp_region_list ?_; refine xpL (.slice none 0 0) ?_; refine xpL (.int .i64 0) ?_; refine xT ?_; go_upto_region 1 with fail; refine wp_region_list ?_; refine xpL (.pointer (some ⟨R,0,none⟩)) ?_; refine xpL (.int .i64 id) ?_; have key:=dat21_any w 0 R L sf cf hln (M.get mS 2 _ rfl) hI.V id; refine xcL key ?_; clear key; rintro e w2 ⟨rfl,l_⟩
 replace M:=M.call l_; replace lb_:=lb_.trans (l_.mono lb_.size); replace N:=N.below l_
 clear l_; refine xeL ?_; refine xpL (.int .i64 (sat L id)) ?_; refine xT ?_
 rcases sat_cases L id with ⟨h1,h2,h3⟩ | ⟨A,d,B,h1,h2,h3,h4,h5⟩
 · rw [h1]
   go_upto_region 2 with fail; refine wp_region_list ?_; refine xpL (.int .i64 (-1)) ?_; refine xaL (.bool true) (lssI .i64 _ _ _ _ _ _ rfl rfl rfl true (by decide) _) ?_; refine xT ?_; go_upto_region 3 with fail; refine wp_region_list ?_; refine xpL (.slice none 0 0) ?_; refine xpL (.int .i64 (-1)) ?_; refine xT ?_
   have hE:=show Hid _ from (show sgt s id top k=s by unfold sgt; rw [hI.lst,h2]); have hO:=show Hid _ from (show sgO s id top k=[] by unfold sgO; rw [hI.lst,h2]); have hT:=show Hid _ from (show sgT s id top now=-1 by unfold sgT; rw [hI.lst,h2]); clear N
   have HS:=show Hid _ from (show DIn w2 s L sf cf∧Mm w0 ((R,drc s sf L.length cf)::(obs sf++(gf L++(obs none++l)))) w2∧Off (R::(ob sf++(gf L).map Prod.fst)) w w2 from ⟨hI.below lb_,M,Off.of_below lb_⟩); clear M hI lb_ h1 h2 h3; go_wp2; go_ret2
   rw [hE.out,hO.out,hT.out]
   first | exact ⟨none,0,rfl,NewW.nil21 _ _,L,sf,cf,HS.out⟩ | exact ⟨none,0,L,sf,cf,rfl,NewW.nil21 _ _,HS.out⟩
 · rw [h4]
   have h7:A.length<L.length:=by rw [h1,List.length_append,List.length_cons]; omega
   have hzz:=d_sz hI.lst h1; have hI2:=hI.below lb_
   obtain ⟨g,rfl⟩:=row_some5 hI.V (by omega)
   have V_f:=hI2.V; have hAA:=AOK.mid (A:=A) (d:=d) (B:=B) (by rw [← h1]; exact hI2.A); have hMg:=dtell21 (A:=A) (d:=d) (B:=B) (by rw [← h1]; exact M) (by rw [← h1]; exact V_f)
   rw [show fcs L=fcs A++(fc1 d++fcs B) by rw [h1,fcs_app,fcs_cons]] at V_f
   have hjl:=h7; have OF:=Off.of_below (X:=R::(ob (some ⟨g,0,none⟩)++(gf L).map Prod.fst)) lb_
   have hgs:g∉ob d.sr:=hMg.awayB (fun p_ hp_=>by simp [hp_])
   have hgk:g∉(gks d.Z).map Prod.fst:=hMg.awayC (fun p_ hp_=>by simp [hp_])
   have hgA:g∉(gf (A++B)).map Prod.fst:=hMg.awayC (fun p_ hp_=>by simp [hp_])
   have A_o:=hAA.2; have D_d:=hAA.1; clear M hAA; have M:=hMg; clear hMg
   replace M:Mm w0 ((g,fcs A++([.int .i64 ((d.n:Nat):Int),.int .i64 ((d.win:Nat):Int),.int .i64 (((d.top.getD 0):Nat):Int),.bool d.top.isSome,.slice d.sr d.Z.length d.cr]++fcs B))::(R,[.int .i64 (dpo s),.int .i64 s.last,.slice (some ⟨g,0,none⟩) L.length cf])::(obs d.sr++(gks d.Z++(gf (A++B)++l)))) w2:=M
   replace V_f:w2.ownsRow 0 66 5 (.slice (some ⟨g,0,none⟩) L.length cf) L.length (fcs A++([.int .i64 ((d.n:Nat):Int),.int .i64 ((d.win:Nat):Int),.int .i64 (((d.top.getD 0):Nat):Int),.bool d.top.isSome,.slice d.sr d.Z.length d.cr]++fcs B)):=V_f
   go_upto_region 2 with fail; refine wp_region_list ?_; refine xpL (.int .i64 ((A.length:Nat):Int)) ?_; refine xaL (.bool false) (lssI .i64 _ _ _ _ _ _ rfl rfl rfl false (decide_eq_false (by omega)) _) ?_; refine xT ?_; go_upto_region 4 with fail; refine wp_region_list ?_; refine xpL (.pointer (some ⟨R,0,none⟩)) ?_; refine xpL (.pointer (some ⟨R,0,none⟩)) ?_
   refine xpL (.pointer (some ⟨R,2,none⟩)) ?_; refine xaL (.slice (some ⟨g,0,none⟩) L.length cf) (load1 56 _ ⟨R,2,none⟩ _ rfl rfl (fun _=>by kernel_rfl) (M.get (mT _ mS) 2 _ rfl)) ?_; refine xpL (.int .i64 ((A.length:Nat):Int)) ?_; refine xaL (.pointer (some ⟨g,A.length*5,none⟩)) (idxF5 g _ _ A.length (some ⟨g,0,none⟩) rfl hjl _ _ rfl rfl rfl _) ?_
   refine xpL (.pointer (some ⟨g,A.length*5,none⟩)) ?_; refine xT ?_; go_upto_region 5 with fail; refine wp_region_list ?_; refine xpL (.int .i64 (-1)) ?_; refine xT ?_; go_upto_region 6 with fail; refine wp_region_list ?_; refine xpL (.slice none 0 0) ?_; refine xT ?_; go_upto_region 7 with fail; refine wp_region_list ?_; refine xpL (.int .i64 0) ?_; refine xT ?_; go_upto_region 8 with fail
   refine wp_region_list ?_; refine xpL (.int .i64 0) ?_; refine xT ?_; have HI:=show Hid _ from (And.intro M (And.intro V_f (And.intro A_o (And.intro D_d OF))))
   have hgw:g<w2.heap.size:=M.lt mS
   clear M A_o OF; go_wp2
   go_loopw [14,15,16,17] (fun k_ b_ c_ v_ w'=>∃ (i':Nat) (sx:Option Addr) (cx:Nat),i'≤d.Z.length∧k_=.int .i64 (stk top now ((d.Z.take i').map Prod.fst))∧b_=.slice sx ((d.Z.take i').filter fun q=>!gpr top k q.1).length cx∧c_=.int .i64 ((((d.Z.take i').filter fun q=>gpr top k q.1).length:Nat):Int)∧v_=.int .i64 (i':Int)∧w'.ownsRow w2.heap.size 74 3 (.slice sx ((d.Z.take i').filter fun q=>!gpr top k q.1).length cx) ((d.Z.take i').filter fun q=>!gpr top k q.1).length (rcs ((d.Z.take i').filter fun q=>!gpr top k q.1))∧Below w2.heap.size w2 w') (fun _ _ _ v_ _=>d.Z.length-(intOf v_).toNat)
   case atStart=>exact ⟨0,none,0,Nat.zero_le _,rfl,rfl,rfl,rfl,World.ownsRow_nil _ _ _ _,Below.refl _ _⟩
   case round =>
    obtain ⟨i,sx,cx,hi,rfl,rfl,rfl,rfl,V_x,hB⟩:=hrel
    have M:=Mm.init wr
    by_cases hil:i<d.Z.length
    · clear HI
      obtain ⟨q,hq⟩:∃ q,d.Z[i]?=some q:=⟨_,List.getElem?_eq_getElem hil⟩
      obtain ⟨gr,hgr⟩:=row_some5 D_d.V (by omega)
      have hl1:=filt_len d.Z i (fun q=>gpr top k q.1); have hl0:=filt_len d.Z i (fun q=>!gpr top k q.1); have hm1:=smom_le now; have hqm:=((hw.f (d.n,d.f) (by rw [hI.lst,h1]; exact List.mem_map.2 ⟨d,by simp,rfl⟩)).rc q.1 (List.mem_map.2 ⟨q,List.mem_of_getElem? hq,rfl⟩)).2.1; go_upto_region 9 with fail; refine wp_region_list ?_; refine xpL (.int .i64 (i:Int)) ?_
      refine xpL (.pointer (some ⟨g,A.length*5,none⟩)) ?_; refine xpL (.pointer (some ⟨g,A.length*5,none⟩)) ?_; refine xpL (.pointer (some ⟨g,A.length*5+4,none⟩)) ?_; refine xaL (.slice d.sr d.Z.length d.cr) (load1 64 _ ⟨g,A.length*5+4,none⟩ _ rfl rfl (fun _=>by kernel_rfl) (row_cell5 (ownsRow_bel V_f (hB.trans (M.below.mono hB.size))) rfl (mid_get rfl))) ?_
      refine xaL (.int .i64 ((d.Z.length:Nat):Int)) (lenS _ 64 74 d.sr d.Z.length d.cr rfl Try.underlying64 rfl _) ?_; refine xaL (.bool true) (lssI .i64 _ _ _ _ _ _ rfl rfl rfl true (decide_eq_true (by omega)) _) ?_; refine xT ?_; go_upto_region 11 with fail; refine wp_region_list ?_; refine xpL (.pointer (some ⟨g,A.length*5,none⟩)) ?_
      refine xpL (.pointer (some ⟨g,A.length*5,none⟩)) ?_; refine xpL (.pointer (some ⟨g,A.length*5+4,none⟩)) ?_; refine xaL (.slice d.sr d.Z.length d.cr) (load1 64 _ ⟨g,A.length*5+4,none⟩ _ rfl rfl (fun _=>by kernel_rfl) (row_cell5 (ownsRow_bel V_f (hB.trans (M.below.mono hB.size))) rfl (mid_get rfl))) ?_; refine xpL (.int .i64 (i:Int)) ?_
      refine xaL (.pointer (some ⟨gr,i*3,none⟩)) (idxR3d gr _ _ i d.sr hgr (List.getElem?_eq_some_iff.1 hq).1 _ _ rfl rfl rfl _) ?_
      refine xaL (.agg #[.int .i64 ((q.1.c:Nat):Int),.int .i64 ((q.1.m:Nat):Int),.slice q.2.1 q.1.cs.length q.2.2]) (loadN 74 _ ⟨gr,i*3,none⟩ [.int .i64 ((q.1.c:Nat):Int),.int .i64 ((q.1.m:Nat):Int),.slice q.2.1 q.1.cs.length q.2.2] rfl rfl (fun _=>by kernel_rfl) (fun _=>by kernel_rfl) (row_rec21 (ownsRow_bel D_d.V (hB.trans (M.below.mono hB.size))) hgr hq)) ?_
      refine actL (w':=wr.alloc (.cells #[.int .i64 0,.int .i64 0,.slice none 0 0] 74)) (.pointer (some ⟨wr.heap.size,0,none⟩)) rfl (by kernel_rfl) ?_; simp only [aP,lI,l0,lS]
      have hB_B3:wr.heap.size≤wr.heap.size:=M.below.size
      replace M:=M.box #[.int .i64 0,.int .i64 0,.slice none 0 0] 74 wr.heap.size rfl; generalize wr.alloc (.cells #[.int .i64 0,.int .i64 0,.slice none 0 0] 74)=w3 at M  ⊢; generalize eB:wr.heap.size=B3 at M hB_B3  ⊢
      have hE_B3:wr.heap.size≤B3:=Nat.le_of_eq eB
      have hF_B3:B3≤wr.heap.size:=Nat.le_of_eq eB.symm
      clear eB
      replace M:Mm wr ((B3,[.int .i64 0,.int .i64 0,.slice none 0 0])::([]:List (Nat × List Value))) w3:=M
      refine skipOpL rfl (storeP [.int .i64 ((q.1.c:Nat):Int),.int .i64 ((q.1.m:Nat):Int),.slice q.2.1 q.1.cs.length q.2.2] B3 0 74 _ _ rfl rfl rfl (M.thereP mS 0 3 (Nat.le_of_ble_eq_true rfl)) (by kernel_rfl) (List.all_eq_true.1 (rfl:([.int .i64 ((q.1.c:Nat):Int),.int .i64 ((q.1.m:Nat):Int),.slice q.2.1 q.1.cs.length q.2.2]:List Value).all (fun u=>u.oneCell')=true))) ?_
      simp only [Act.put]; replace M:=M.setPart [.int .i64 ((q.1.c:Nat):Int),.int .i64 ((q.1.m:Nat):Int),.slice q.2.1 q.1.cs.length q.2.2] 0 (Nat.le_of_ble_eq_true rfl); generalize w3.setCells B3 0 [.int .i64 ((q.1.c:Nat):Int),.int .i64 ((q.1.m:Nat):Int),.slice q.2.1 q.1.cs.length q.2.2]=w4 at M  ⊢
      replace M:Mm wr ((B3,[.int .i64 ((q.1.c:Nat):Int),.int .i64 ((q.1.m:Nat):Int),.slice q.2.1 q.1.cs.length q.2.2])::([]:List (Nat × List Value))) w4:=M
      refine xT ?_
      cases hb:gpr top k q.1 with
      | true =>
        replace hb:=show Hid _ from hb; go_upto_region 12 with fail; refine wp_region_list ?_; refine xpL (.pointer (some ⟨B3,0,none⟩)) ?_; refine xaL (.int .i64 ((q.1.c:Nat):Int)) (load1 3 _ ⟨B3,0,none⟩ _ rfl rfl (fun _=>by kernel_rfl) (M.get mS 0 _ rfl)) ?_; refine xpL (.int .i64 top) ?_; refine xpL (.slice sk k.length ck) ?_
        have key_:=dtold21_any q.1.c top k sk ck hk w4 (N.below (hB.trans (M.below.mono hB.size)))
        rw [show stl q.1.c top k=true from hb.out] at key_
        have key:=key_; refine xcL key ?_; clear key; rintro e w9 ⟨rfl,l_⟩; replace M:=M.call l_
        clear l_; refine xeL ?_; clear key_; refine xpL (.bool false) ?_; refine xT ?_; go_upto_region 14 with fail; refine wp_region_list ?_; refine xpL (.int .i64 ((((d.Z.take i).filter fun q=>gpr top k q.1).length:Nat):Int)) ?_
        refine readL (.int .i64 (((((d.Z.take i).filter fun q=>gpr top k q.1).length:Nat):Int)+1)) rfl (addI .i64 _ _ _ _ _ _ _ rfl rfl rfl (by rw [xw6]; omega) _) ?_; simp only [aP,lI,l0,lS]; refine xpL (.int .i64 (((((d.Z.take i).filter fun q=>gpr top k q.1).length:Nat):Int)+1)) ?_; refine xT ?_
        by_cases h9:((q.1.c:Nat):Int)=top
        · replace h9:=show Hid _ from h9
          go_upto_region 15 with fail; refine wp_region_list ?_; refine xpL (.pointer (some ⟨B3,0,none⟩)) ?_; refine xaL (.int .i64 ((q.1.c:Nat):Int)) (load1 3 _ ⟨B3,0,none⟩ _ rfl rfl (fun _=>by kernel_rfl) (M.get mS 0 _ rfl)) ?_; refine xpL (.int .i64 top) ?_; refine xaL (.bool true) (eqlI .i64 _ _ _ _ _ _ rfl rfl rfl true (beq_iff_eq.2 (h9.out)) _) ?_; refine xT ?_
          go_upto_region 16 with fail; have hdr:=(Below.refl w9.heap.size w9).drew; replace M:=M.drew; clear hdr; refine wp_region_held_drew (S:=fun w'=>Mm wr ((B3,[.int .i64 ((q.1.c:Nat):Int),.int .i64 ((q.1.m:Nat):Int),.slice q.2.1 q.1.cs.length q.2.2])::([]:List (Nat × List Value))) w') (by kernel_rfl) M ?_; intro _; generalize w9.drew=w10 at M  ⊢
          refine xrH 0 65 rfl (.int .i64 now) (fun _ M=>(by kernel_rfl)) M ?_; refine xrH 2 67 rfl (.pointer (some ⟨B3,1,none⟩)) (fun _ M=>(by kernel_rfl)) M ?_; refine xrH 3 68 rfl (.int .i64 ((q.1.m:Nat):Int)) (fun _ M=>load1 3 _ ⟨B3,1,none⟩ _ rfl rfl (fun _=>by kernel_rfl) (M.get mS 1 _ rfl)) M ?_; have key:=dmom21_any now w10
          refine callH (i:=1) (some 66) rfl (by kernel_rfl) rfl rfl (fun _=>by kernel_rfl) key ?_; clear key; rintro e w12 ⟨rfl,l_⟩; replace M:=M.call l_
          clear l_
          refine ⟨_,rfl,M,?_⟩
          simp only [aP,lI,l0,lS]; refine xrH 4 69 rfl (.int .i64 (((smom now:Nat):Int)-((q.1.m:Nat):Int))) (fun _ M=>subI .i64 _ _ _ _ _ _ _ rfl rfl rfl (by rw [xw6]; omega) _) M ?_; refine xrH 5 70 rfl (.int .i64 (max 0 (((smom now:Nat):Int)-((q.1.m:Nat):Int)))) (fun _ M=>maxI .i64 .i64 _ _ _ _ _ _ _ rfl rfl rfl (by split <;> omega) _) M ?_
          refine xrH 6 14 rfl (.int .i64 (max 0 (((smom now:Nat):Int)-((q.1.m:Nat):Int)))) (fun _ M=>(by kernel_rfl)) M ?_
          refine wpAnyH_done (by kernel_rfl) ?_ _
          first | show Exit.then _ _ _ _ _ | show Exit.inBlock _ _ _ _ _
          have e2_:((d.Z.take i).filter fun q=>gpr top k q.1).length+1=((d.Z.take (i+1)).filter fun q=>gpr top k q.1).length:=by rw [filt_take hq,List.length_append,hb.out]; rfl
          have e4_:((d.Z.take i).filter fun q=>!gpr top k q.1)=((d.Z.take (i+1)).filter fun q=>!gpr top k q.1):=by rw [filt_take hq]; simp [hb.out]
          have e3_:=stk_hit (now:=now) hq h9.out; have hB2:=hB.trans (M.below.mono hB.size); have V2:=ownsRow_bel V_x M.below
          rw [e4_] at V2
          have HS:=show Hid _ from (And.intro V2 hB2); have hee:=show Hid _ from (And.intro e2_ (And.intro e3_ e4_)); clear V2 hB2 hB V_x M e2_ e3_ e4_; go_wp2
          go_roundw
          case rel=>exact ⟨i+1,sx,cx,by omega,by rw [hee.out.2.1],by rw [hee.out.2.2],by rw [← hee.out.1]; rfl,by go_num,HS.out⟩
          case measure=>simp [intOf]; omega
        · replace h9:=show Hid _ from h9
          go_upto_region 15 with fail; refine wp_region_list ?_; refine xpL (.pointer (some ⟨B3,0,none⟩)) ?_; refine xaL (.int .i64 ((q.1.c:Nat):Int)) (load1 3 _ ⟨B3,0,none⟩ _ rfl rfl (fun _=>by kernel_rfl) (M.get mS 0 _ rfl)) ?_; refine xpL (.int .i64 top) ?_; refine xaL (.bool false) (eqlI .i64 _ _ _ _ _ _ rfl rfl rfl false (beq_eq_false_iff_ne.2 (h9.out)) _) ?_; refine xT ?_
          have e2_:((d.Z.take i).filter fun q=>gpr top k q.1).length+1=((d.Z.take (i+1)).filter fun q=>gpr top k q.1).length:=by rw [filt_take hq,List.length_append,hb.out]; rfl
          have e4_:((d.Z.take i).filter fun q=>!gpr top k q.1)=((d.Z.take (i+1)).filter fun q=>!gpr top k q.1):=by rw [filt_take hq]; simp [hb.out]
          have e3_:=stk_mis (now:=now) hq h9.out; have hB2:=hB.trans (M.below.mono hB.size); have V2:=ownsRow_bel V_x M.below
          rw [e4_] at V2
          have HS:=show Hid _ from (And.intro V2 hB2); have hee:=show Hid _ from (And.intro e2_ (And.intro e3_ e4_)); clear V2 hB2 hB V_x M e2_ e3_ e4_; go_wp2
          go_roundw
          case rel=>exact ⟨i+1,sx,cx,by omega,by rw [hee.out.2.1],by rw [hee.out.2.2],by rw [← hee.out.1]; rfl,by go_num,HS.out⟩
          case measure=>simp [intOf]; omega
      | false =>
        replace hb:=show Hid _ from hb; go_upto_region 12 with fail; refine wp_region_list ?_; refine xpL (.pointer (some ⟨B3,0,none⟩)) ?_; refine xaL (.int .i64 ((q.1.c:Nat):Int)) (load1 3 _ ⟨B3,0,none⟩ _ rfl rfl (fun _=>by kernel_rfl) (M.get mS 0 _ rfl)) ?_; refine xpL (.int .i64 top) ?_; refine xpL (.slice sk k.length ck) ?_
        have key_:=dtold21_any q.1.c top k sk ck hk w4 (N.below (hB.trans (M.below.mono hB.size)))
        rw [show stl q.1.c top k=false from hb.out] at key_
        have key:=key_; refine xcL key ?_; clear key; rintro e w6 ⟨rfl,l_⟩; replace M:=M.call l_
        clear l_; refine xeL ?_; clear key_; refine xpL (.bool true) ?_; refine xT ?_; go_upto_region 13 with fail; refine wp_region_list ?_; refine xpL (.slice sx (((d.Z.take i).filter fun q=>!gpr top k q.1).length) cx) ?_
        refine xaL (.agg #[.int .i64 ((q.1.c:Nat):Int),.int .i64 ((q.1.m:Nat):Int),.slice q.2.1 q.1.cs.length q.2.2]) (loadN 74 _ ⟨B3,0,none⟩ [.int .i64 ((q.1.c:Nat):Int),.int .i64 ((q.1.m:Nat):Int),.slice q.2.1 q.1.cs.length q.2.2] rfl rfl (fun _=>by kernel_rfl) (fun _=>by kernel_rfl) (M.rangeAt mS)) ?_
        have hlb:=(Below.refl w6.heap.size w6).alloc (xnR _) (.cells #[.int .i64 ((q.1.c:Nat):Int),.int .i64 ((q.1.m:Nat):Int),.slice q.2.1 q.1.cs.length q.2.2] 74)
        have T_b:=World.ownsRow.cells (World.ownsRow_lit (base:=w6.heap.size) (e:=74) (size:=3) w6 #[.int .i64 ((q.1.c:Nat):Int),.int .i64 ((q.1.m:Nat):Int),.slice q.2.1 q.1.cs.length q.2.2] 1 (xnR _) (by unfold maxLen; omega) rfl) (g:=w6.heap.size) rfl
        refine actL (w':=w6.alloc (.cells #[.int .i64 ((q.1.c:Nat):Int),.int .i64 ((q.1.m:Nat):Int),.slice q.2.1 q.1.cs.length q.2.2] 74)) (.slice (some ⟨w6.heap.size,0,none⟩) 1 1) rfl (by kernel_rfl) ?_; simp only [aP,lI,l0,lS]; replace M:=M.call hlb; clear hlb
        generalize w6.alloc (.cells #[.int .i64 ((q.1.c:Nat):Int),.int .i64 ((q.1.m:Nat):Int),.slice q.2.1 q.1.cs.length q.2.2] 74)=w7 at M T_b ⊢; generalize w6.heap.size=bz at T_b ⊢; replace V_x:=ownsRow_bel V_x M.below; have hB1:=hB.trans (M.below.mono hB.size)
        obtain ⟨v2,wz9,hr,V2,hgr,hg2⟩:=run_append_OwnV (P:=Try.prog) (ty:=64) Try.underlying64 manyD21 rfl (by decide) V_x ⟨bz,0,none⟩ 1 1 (rc1 q) rfl T_b (fun u hu=>rcs_one [q] u (by rw [rcs_one1]; exact hu)) (by unfold maxLen; omega) (by omega) hB1.size
        have hB2:=hB1.grown hgr hB1.size (fun b_ hb_=>(World.ownsRow.lt V_x b_ hb_).1)
        obtain ⟨sv,cv,rfl,_,_⟩:=row_form16 V2
        refine xaL _ (appendOp _ _ 64 _ _ _ rfl rfl rfl hr) ?_; clear hr hgr hg2 M hB1 T_b V_x
        have e1_:((d.Z.take i).filter fun q=>!gpr top k q.1)++[q]=((d.Z.take (i+1)).filter fun q=>!gpr top k q.1):=by rw [filt_take hq]; simp [hb.out]
        rw [← rcs_one1,← rcs_app,e1_,show ((d.Z.take i).filter fun q=>!gpr top k q.1).length+1=((d.Z.take (i+1)).filter fun q=>!gpr top k q.1).length by rw [← e1_,List.length_append]; rfl] at V2
        rw [show ((d.Z.take i).filter fun q=>!gpr top k q.1).length+1=((d.Z.take (i+1)).filter fun q=>!gpr top k q.1).length by rw [← e1_,List.length_append]; rfl]
        refine xpL (.slice sv (((d.Z.take (i+1)).filter fun q=>!gpr top k q.1).length) cv) ?_; refine xT ?_
        have e2_:((d.Z.take i).filter fun q=>gpr top k q.1)=((d.Z.take (i+1)).filter fun q=>gpr top k q.1):=by rw [filt_take hq]; simp [hb.out]
        have e3_:stk top now ((d.Z.take i).map Prod.fst)=stk top now ((d.Z.take (i+1)).map Prod.fst):=(stk_mis hq (gpr_top hb.out)).symm
        have HS:=show Hid _ from (And.intro V2 hB2); have hee:=show Hid _ from (And.intro e2_ e3_); clear V2 hB2 hB e1_ e2_ e3_; go_wp2
        go_roundw
        case rel=>exact ⟨i+1,sv,cv,by omega,by rw [hee.out.2],rfl,by rw [hee.out.1],by go_num,HS.out⟩
        case measure=>simp [intOf]; omega
    · obtain ⟨M_,Vf_,A_o,Dd_,OF⟩:=HI.out
      have e0_:d.Z.take i=d.Z:=List.take_of_length_le (by omega)
      have e_:((d.Z.take i).filter fun q=>!gpr top k q.1)=(zlf top k d.Z):=by rw [e0_]; rfl
      rw [e_] at V_x
      rw [e_,e0_]
      clear M V_f e_ e0_; have M:=M_.call hB; have V_f:=ownsRow_bel Vf_ hB; replace A_o:=A_o.below hB; have K_d:=D_d.K.below hB; replace OF:=OF.below hB; clear M_ Vf_ Dd_ HI D_d; have hsw:=show Hid _ from sgW_is d top k; have hTl:=List.length_filter_le (fun q:Rcd × Option Addr × Nat=>gpr top k q.1) d.Z; have hLl:=(zlf_sub top k d.Z).length_le
      have hLs:=sall_sub ((zlf_sub top k d.Z).map Prod.fst); have hwin:=(hw.f (d.n,d.f) (by rw [hI.lst,h1]; exact List.mem_map.2 ⟨d,by simp,rfl⟩)).w2
      have hww:d.win≤32:=hwin
      have hgx:g∉ob sx:=fun hm=>by have:=(World.ownsRow.lt V_x g ((ob_own sx _ cx g).2 hm)).1; omega
      replace M:Mm w0 ((g,fcs A++([.int .i64 ((d.n:Nat):Int),.int .i64 ((d.win:Nat):Int),.int .i64 (((d.top.getD 0):Nat):Int),.bool d.top.isSome,.slice d.sr d.Z.length d.cr]++fcs B))::(R,[.int .i64 (dpo s),.int .i64 s.last,.slice (some ⟨g,0,none⟩) L.length cf])::(obs d.sr++(gks d.Z++(gf (A++B)++l)))) wr:=M
      go_upto_region 9 with fail; refine wp_region_list ?_; refine xpL (.int .i64 (i:Int)) ?_; refine xpL (.pointer (some ⟨g,A.length*5,none⟩)) ?_; refine xpL (.pointer (some ⟨g,A.length*5,none⟩)) ?_; refine xpL (.pointer (some ⟨g,A.length*5+4,none⟩)) ?_
      refine xaL (.slice d.sr d.Z.length d.cr) (load1 64 _ ⟨g,A.length*5+4,none⟩ _ rfl rfl (fun _=>by kernel_rfl) (M.get mS (A.length*5+4) _ (mid_get rfl))) ?_; refine xaL (.int .i64 ((d.Z.length:Nat):Int)) (lenS _ 64 74 d.sr d.Z.length d.cr rfl Try.underlying64 rfl _) ?_; refine xaL (.bool false) (lssI .i64 _ _ _ _ _ _ rfl rfl rfl false (decide_eq_false (by omega)) _) ?_
      refine xT ?_; go_upto_region 17 with fail; refine wp_region_list ?_; refine xpL (.pointer (some ⟨g,A.length*5,none⟩)) ?_; refine xpL (.pointer (some ⟨g,A.length*5,none⟩)) ?_; refine xpL (.pointer (some ⟨g,A.length*5,none⟩)) ?_; refine xpL (.pointer (some ⟨g,A.length*5+1,none⟩)) ?_
      refine xaL (.int .i64 ((d.win:Nat):Int)) (load1 3 _ ⟨g,A.length*5+1,none⟩ _ rfl rfl (fun _=>by kernel_rfl) (M.get mS (A.length*5+1) _ (mid_get rfl))) ?_; refine xpL (.int .i64 (((d.Z.filter fun q=>gpr top k q.1).length:Nat):Int)) ?_
      refine readL (.int .i64 (((d.win:Nat):Int)+(((d.Z.filter fun q=>gpr top k q.1).length:Nat):Int))) rfl (addI .i64 _ _ _ _ _ _ _ rfl rfl rfl (by rw [xw6]; omega) _) ?_; simp only [aP,lI,l0,lS]; refine readL (.int .i64 (((sgW d.f top k):Nat):Int)) rfl (minI .i64 .i64 _ _ _ _ _ _ _ rfl rfl rfl (by have h_:=hsw.out; split <;> omega) _) ?_; simp only [aP,lI,l0,lS]
      refine xpL (.pointer (some ⟨g,A.length*5,none⟩)) ?_; refine xpL (.pointer (some ⟨g,A.length*5+1,none⟩)) ?_
      refine skipOpL rfl (storeAny (.int .i64 (((sgW d.f top k):Nat):Int)) g (A.length*5+1) 3 _ _ rfl rfl rfl rfl rfl (M.isSome mS (A.length*5+1) (by rw [List.length_append,List.length_append,fcs_len]; show _<_+(5+_); omega)) (M.free mS (A.length*5+1) (by rw [List.length_append,List.length_append,fcs_len]; show _<_+(5+_); omega)) (by kernel_rfl)) ?_
      simp only [Act.put]; replace M:=M.set (A.length*5+1) (by rw [List.length_append,List.length_append,fcs_len]; show _<_+(5+_); omega) (.int .i64 (((sgW d.f top k):Nat):Int))
      rw [mid_set (Nat.le_of_ble_eq_true rfl)] at M
      replace V_f:=ownsRow_put V_f (A.length*5+1) (.int .i64 (((sgW d.f top k):Nat):Int))
      rw [mid_set (Nat.le_of_ble_eq_true rfl)] at V_f
      have o1_:=((Off.refl [g] wr).set (b:=g) mS (A.length*5+1) (.int .i64 (((sgW d.f top k):Nat):Int))); replace A_o:=A_o.off o1_ (fun b_ hb_=>by obtain rfl:=xm1 hb_; exact hgA); replace K_d:=K_d.off o1_ (fun b_ hb_=>by obtain rfl:=xm1 hb_; exact hgk); replace OF:=OF.trans (o1_.mono (fun b_ hb_=>by rw [xm1 hb_]; exact mT _ (List.mem_append_left _ mS)))
      replace V_x:=ownsRow_away V_x o1_ (fun b_ hb_=>by obtain rfl:=xm1 hb_; exact hgx); clear o1_; generalize wr.setCell ⟨g,(A.length*5+1),none⟩ (.int .i64 (((sgW d.f top k):Nat):Int))=w13 at M V_f A_o K_d OF V_x ⊢
      replace M:Mm w0 ((g,fcs A++([.int .i64 ((d.n:Nat):Int),.int .i64 (((sgW d.f top k):Nat):Int),.int .i64 (((d.top.getD 0):Nat):Int),.bool d.top.isSome,.slice d.sr d.Z.length d.cr]++fcs B))::(R,[.int .i64 (dpo s),.int .i64 s.last,.slice (some ⟨g,0,none⟩) L.length cf])::(obs d.sr++(gks d.Z++(gf (A++B)++l)))) w13:=M
      replace V_f:w13.ownsRow 0 66 5 (.slice (some ⟨g,0,none⟩) L.length cf) L.length (fcs A++([.int .i64 ((d.n:Nat):Int),.int .i64 (((sgW d.f top k):Nat):Int),.int .i64 (((d.top.getD 0):Nat):Int),.bool d.top.isSome,.slice d.sr d.Z.length d.cr]++fcs B)):=V_f
      refine xT ?_; go_upto_region 18 with fail; refine wp_region_list ?_; refine xpL (.slice none 0 0) ?_; refine xpL (.slice none 0 0) ?_; refine xT ?_; go_upto_region 19 with fail; refine wp_region_list ?_; refine xpL (.int .i64 0) ?_; refine xT ?_; have HI:=show Hid _ from (And.intro M (And.intro V_f (And.intro A_o (And.intro K_d OF))))
      have hgw2:g<w13.heap.size:=M.lt mS
      clear M A_o OF V_f K_d hB hil hi; go_wp2
      go_loopw [19,20,21] (fun a_ b_ v_ w'=>∃ (i':Nat) (st sl:Option Addr) (ct cl:Nat),i'≤(zlf top k d.Z).length∧a_=.slice st (((zlf top k d.Z).take i').filter fun q=>sold top q.1).length ct∧b_=.slice sl (((zlf top k d.Z).take i').filter fun q=>!sold top q.1).length cl∧v_=.int .i64 (i':Int)∧w'.ownsRow w13.heap.size 74 3 (.slice st (((zlf top k d.Z).take i').filter fun q=>sold top q.1).length ct) (((zlf top k d.Z).take i').filter fun q=>sold top q.1).length (rcs (((zlf top k d.Z).take i').filter fun q=>sold top q.1))∧w'.ownsRow w13.heap.size 74 3 (.slice sl (((zlf top k d.Z).take i').filter fun q=>!sold top q.1).length cl) (((zlf top k d.Z).take i').filter fun q=>!sold top q.1).length (rcs (((zlf top k d.Z).take i').filter fun q=>!sold top q.1))∧(∀ b∈ob st,b∉ob sl)∧Below w13.heap.size w13 w') (fun _ _ v_ _=>(zlf top k d.Z).length-(intOf v_).toNat)
      case atStart=>exact ⟨0,none,none,0,0,Nat.zero_le _,rfl,rfl,rfl,World.ownsRow_nil _ _ _ _,World.ownsRow_nil _ _ _ _,(fun _ h _=>by cases h),Below.refl _ _⟩
      case round =>
       obtain ⟨j,st,sl,ct,cl,hj,rfl,rfl,rfl,V_t,V_l,hap,hB⟩:=hrel
       have M:=Mm.init wr
       by_cases hjl2:j<(zlf top k d.Z).length
       · clear HI
         obtain ⟨q,hq⟩:∃ q,(zlf top k d.Z)[j]?=some q:=⟨_,List.getElem?_eq_getElem hjl2⟩
         obtain ⟨gr,hgr⟩:=row_some5 V_x (by omega)
         have hl1:=filt_len (zlf top k d.Z) j (fun q=>sold top q.1); have hl0:=filt_len (zlf top k d.Z) j (fun q=>!sold top q.1)
         unfold i64 at htop
         go_upto_region 20 with fail; refine wp_region_list ?_; refine xpL (.int .i64 (j:Int)) ?_; refine xpL (.slice sx ((zlf top k d.Z).length) cx) ?_; refine readL (.int .i64 (((zlf top k d.Z).length:Nat):Int)) rfl (lenS _ 64 74 sx ((zlf top k d.Z).length) cx rfl Try.underlying64 rfl _) ?_; simp only [aP,lI,l0,lS]
         refine xaL (.bool true) (lssI .i64 _ _ _ _ _ _ rfl rfl rfl true (decide_eq_true (by omega)) _) ?_; refine xT ?_
         by_cases h8:((q.1.c:Nat):Int)<top
         · by_cases h9:top-((q.1.c:Nat):Int)≥3
           · have hb:=show Hid _ from (show sold top q.1=true from decide_eq_true (by omega))
             go_upto_region 22 with fail; refine wp_region_list ?_; refine xpL (.slice sx ((zlf top k d.Z).length) cx) ?_; refine xpL (.int .i64 (j:Int)) ?_; refine xaL (.pointer (some ⟨gr,j*3,none⟩)) (idxR3d gr _ _ j sx hgr (List.getElem?_eq_some_iff.1 hq).1 _ _ rfl rfl rfl _) ?_; refine xpL (.pointer (some ⟨gr,j*3+0,none⟩)) ?_
             refine xaL (.int .i64 ((q.1.c:Nat):Int)) (load1 3 _ ⟨gr,j*3+0,none⟩ _ rfl rfl (fun _=>by kernel_rfl) (row_cell5 (ownsRow_bel V_x (hB.trans (M.below.mono hB.size))) hgr (rcs_get hq rfl))) ?_; refine xpL (.int .i64 top) ?_; refine xaL (.bool true) (lssI .i64 _ _ _ _ _ _ rfl rfl rfl true (decide_eq_true (by omega)) _) ?_; refine xpL (.bool true) ?_
             refine xpL (.int .i64 top) ?_; refine xpL (.slice sx ((zlf top k d.Z).length) cx) ?_; refine xpL (.int .i64 (j:Int)) ?_; refine xaL (.pointer (some ⟨gr,j*3,none⟩)) (idxR3d gr _ _ j sx hgr (List.getElem?_eq_some_iff.1 hq).1 _ _ rfl rfl rfl _) ?_; refine xpL (.pointer (some ⟨gr,j*3+0,none⟩)) ?_
             refine xaL (.int .i64 ((q.1.c:Nat):Int)) (load1 3 _ ⟨gr,j*3+0,none⟩ _ rfl rfl (fun _=>by kernel_rfl) (row_cell5 (ownsRow_bel V_x (hB.trans (M.below.mono hB.size))) hgr (rcs_get hq rfl))) ?_; refine readL (.int .i64 (top-((q.1.c:Nat):Int))) rfl (subI .i64 _ _ _ _ _ _ _ rfl rfl rfl (by rw [xw6]; omega) _) ?_; simp only [aP,lI,l0,lS]
             refine xaL (.bool true) (geqI .i64 _ _ _ _ _ _ rfl rfl rfl true (decide_eq_true (by omega)) _) ?_; refine xpL (.bool true) ?_; refine xT ?_; go_upto_region 23 with fail; refine wp_region_list ?_; refine xpL (.slice st ((((zlf top k d.Z).take j).filter fun q=>sold top q.1).length) ct) ?_; refine xpL (.slice sx ((zlf top k d.Z).length) cx) ?_; refine xpL (.int .i64 (j:Int)) ?_
             refine xaL (.pointer (some ⟨gr,j*3,none⟩)) (idxR3d gr _ _ j sx hgr (List.getElem?_eq_some_iff.1 hq).1 _ _ rfl rfl rfl _) ?_
             refine xaL (.agg #[.int .i64 ((q.1.c:Nat):Int),.int .i64 ((q.1.m:Nat):Int),.slice q.2.1 q.1.cs.length q.2.2]) (loadN 74 _ ⟨gr,j*3,none⟩ [.int .i64 ((q.1.c:Nat):Int),.int .i64 ((q.1.m:Nat):Int),.slice q.2.1 q.1.cs.length q.2.2] rfl rfl (fun _=>by kernel_rfl) (fun _=>by kernel_rfl) (row_rec21 (ownsRow_bel V_x (hB.trans (M.below.mono hB.size))) hgr hq)) ?_
             have hlb:=(Below.refl wr.heap.size wr).alloc (xnR _) (.cells #[.int .i64 ((q.1.c:Nat):Int),.int .i64 ((q.1.m:Nat):Int),.slice q.2.1 q.1.cs.length q.2.2] 74)
             have T_b:=World.ownsRow.cells (World.ownsRow_lit (base:=wr.heap.size) (e:=74) (size:=3) wr #[.int .i64 ((q.1.c:Nat):Int),.int .i64 ((q.1.m:Nat):Int),.slice q.2.1 q.1.cs.length q.2.2] 1 (xnR _) (by unfold maxLen; omega) rfl) (g:=wr.heap.size) rfl
             refine actL (w':=wr.alloc (.cells #[.int .i64 ((q.1.c:Nat):Int),.int .i64 ((q.1.m:Nat):Int),.slice q.2.1 q.1.cs.length q.2.2] 74)) (.slice (some ⟨wr.heap.size,0,none⟩) 1 1) rfl (by kernel_rfl) ?_; simp only [aP,lI,l0,lS]; replace M:=M.call hlb; clear hlb
             generalize wr.alloc (.cells #[.int .i64 ((q.1.c:Nat):Int),.int .i64 ((q.1.m:Nat):Int),.slice q.2.1 q.1.cs.length q.2.2] 74)=w14 at M T_b ⊢; generalize wr.heap.size=bz at T_b ⊢; replace V_t:=ownsRow_bel V_t M.below; replace V_l:=ownsRow_bel V_l M.below; have hB1:=hB.trans (M.below.mono hB.size)
             obtain ⟨v2,wz9,hr,V2,hgr,hg2⟩:=run_append_OwnV (P:=Try.prog) (ty:=64) Try.underlying64 manyD21 rfl (by decide) V_t ⟨bz,0,none⟩ 1 1 (rc1 q) rfl T_b (fun u hu=>rcs_one [q] u (by rw [rcs_one1]; exact hu)) (by unfold maxLen; omega) (by omega) hB1.size
             have hB2:=hB1.grown hgr hB1.size (fun b_ hb_=>(World.ownsRow.lt V_t b_ hb_).1)
             obtain ⟨sv,cv,rfl,_,_⟩:=row_form16 V2
             have ho:=Off.grown (Off.refl (ob st) _) hgr (fun b_ hb_=>.inl ((ob_own _ _ _ b_).1 hb_)); have hlo:=fun b_ hb_=>(World.ownsRow.lt V_l b_ hb_).2; replace V_l:=ownsRow_away V_l ho hap
             have hap2:∀ b∈ob sv,b∉ob sl:=fun b h1 h2=>by
              rcases hg2 b ((ob_own sv _ cv b).2 h1) with h | h
              · exact hap b ((ob_own _ _ _ b).1 h) h2
              · have:=hlo b ((ob_own _ _ _ b).2 h2)
                omega
             clear ho hlo; refine xaL _ (appendOp _ _ 64 _ _ _ rfl rfl rfl hr) ?_; clear hr hgr hg2 M hB1 T_b V_t
             have e1_:(((zlf top k d.Z).take j).filter fun q=>sold top q.1)++[q]=(((zlf top k d.Z).take (j+1)).filter fun q=>sold top q.1):=by rw [filt_take hq]; simp [hb.out]
             rw [← rcs_one1,← rcs_app,e1_,show (((zlf top k d.Z).take j).filter fun q=>sold top q.1).length+1=(((zlf top k d.Z).take (j+1)).filter fun q=>sold top q.1).length by rw [← e1_,List.length_append]; rfl] at V2
             rw [show (((zlf top k d.Z).take j).filter fun q=>sold top q.1).length+1=(((zlf top k d.Z).take (j+1)).filter fun q=>sold top q.1).length by rw [← e1_,List.length_append]; rfl]
             refine xpL (.slice sv ((((zlf top k d.Z).take (j+1)).filter fun q=>sold top q.1).length) cv) ?_; refine xT ?_
             have e2_:(((zlf top k d.Z).take j).filter fun q=>!sold top q.1)=(((zlf top k d.Z).take (j+1)).filter fun q=>!sold top q.1):=by rw [filt_take hq]; simp [hb.out]
             rw [e2_] at V_l
             have HS:=show Hid _ from (And.intro V2 (And.intro V_l (And.intro hap2 hB2))); have hee:=show Hid _ from e2_; clear V2 V_l hap2 hB2 hB hap e1_ e2_; go_wp2
             go_roundw
             case rel=>exact ⟨j+1,sv,sl,cv,cl,by omega,rfl,by rw [hee.out],by go_num,HS.out⟩
             case measure=>simp [intOf]; omega
           · have hb:=show Hid _ from (show sold top q.1=false from decide_eq_false (by omega))
             go_upto_region 22 with fail; refine wp_region_list ?_; refine xpL (.slice sx ((zlf top k d.Z).length) cx) ?_; refine xpL (.int .i64 (j:Int)) ?_; refine xaL (.pointer (some ⟨gr,j*3,none⟩)) (idxR3d gr _ _ j sx hgr (List.getElem?_eq_some_iff.1 hq).1 _ _ rfl rfl rfl _) ?_; refine xpL (.pointer (some ⟨gr,j*3+0,none⟩)) ?_
             refine xaL (.int .i64 ((q.1.c:Nat):Int)) (load1 3 _ ⟨gr,j*3+0,none⟩ _ rfl rfl (fun _=>by kernel_rfl) (row_cell5 (ownsRow_bel V_x (hB.trans (M.below.mono hB.size))) hgr (rcs_get hq rfl))) ?_; refine xpL (.int .i64 top) ?_; refine xaL (.bool true) (lssI .i64 _ _ _ _ _ _ rfl rfl rfl true (decide_eq_true (by omega)) _) ?_; refine xpL (.bool true) ?_
             refine xpL (.int .i64 top) ?_; refine xpL (.slice sx ((zlf top k d.Z).length) cx) ?_; refine xpL (.int .i64 (j:Int)) ?_; refine xaL (.pointer (some ⟨gr,j*3,none⟩)) (idxR3d gr _ _ j sx hgr (List.getElem?_eq_some_iff.1 hq).1 _ _ rfl rfl rfl _) ?_; refine xpL (.pointer (some ⟨gr,j*3+0,none⟩)) ?_
             refine xaL (.int .i64 ((q.1.c:Nat):Int)) (load1 3 _ ⟨gr,j*3+0,none⟩ _ rfl rfl (fun _=>by kernel_rfl) (row_cell5 (ownsRow_bel V_x (hB.trans (M.below.mono hB.size))) hgr (rcs_get hq rfl))) ?_; refine readL (.int .i64 (top-((q.1.c:Nat):Int))) rfl (subI .i64 _ _ _ _ _ _ _ rfl rfl rfl (by rw [xw6]; omega) _) ?_; simp only [aP,lI,l0,lS]
             refine xaL (.bool false) (geqI .i64 _ _ _ _ _ _ rfl rfl rfl false (decide_eq_false (by omega)) _) ?_; refine xpL (.bool false) ?_; refine xT ?_; go_upto_region 24 with fail; refine wp_region_list ?_; refine xpL (.slice sl ((((zlf top k d.Z).take j).filter fun q=>!sold top q.1).length) cl) ?_; refine xpL (.slice sx ((zlf top k d.Z).length) cx) ?_
             refine xpL (.int .i64 (j:Int)) ?_; refine xaL (.pointer (some ⟨gr,j*3,none⟩)) (idxR3d gr _ _ j sx hgr (List.getElem?_eq_some_iff.1 hq).1 _ _ rfl rfl rfl _) ?_
             refine xaL (.agg #[.int .i64 ((q.1.c:Nat):Int),.int .i64 ((q.1.m:Nat):Int),.slice q.2.1 q.1.cs.length q.2.2]) (loadN 74 _ ⟨gr,j*3,none⟩ [.int .i64 ((q.1.c:Nat):Int),.int .i64 ((q.1.m:Nat):Int),.slice q.2.1 q.1.cs.length q.2.2] rfl rfl (fun _=>by kernel_rfl) (fun _=>by kernel_rfl) (row_rec21 (ownsRow_bel V_x (hB.trans (M.below.mono hB.size))) hgr hq)) ?_
             have hlb:=(Below.refl wr.heap.size wr).alloc (xnR _) (.cells #[.int .i64 ((q.1.c:Nat):Int),.int .i64 ((q.1.m:Nat):Int),.slice q.2.1 q.1.cs.length q.2.2] 74)
             have T_b:=World.ownsRow.cells (World.ownsRow_lit (base:=wr.heap.size) (e:=74) (size:=3) wr #[.int .i64 ((q.1.c:Nat):Int),.int .i64 ((q.1.m:Nat):Int),.slice q.2.1 q.1.cs.length q.2.2] 1 (xnR _) (by unfold maxLen; omega) rfl) (g:=wr.heap.size) rfl
             refine actL (w':=wr.alloc (.cells #[.int .i64 ((q.1.c:Nat):Int),.int .i64 ((q.1.m:Nat):Int),.slice q.2.1 q.1.cs.length q.2.2] 74)) (.slice (some ⟨wr.heap.size,0,none⟩) 1 1) rfl (by kernel_rfl) ?_; simp only [aP,lI,l0,lS]; replace M:=M.call hlb; clear hlb
             generalize wr.alloc (.cells #[.int .i64 ((q.1.c:Nat):Int),.int .i64 ((q.1.m:Nat):Int),.slice q.2.1 q.1.cs.length q.2.2] 74)=w15 at M T_b ⊢; generalize wr.heap.size=bz at T_b ⊢; replace V_l:=ownsRow_bel V_l M.below; replace V_t:=ownsRow_bel V_t M.below; have hB1:=hB.trans (M.below.mono hB.size)
             obtain ⟨v2,wz9,hr,V2,hgr,hg2⟩:=run_append_OwnV (P:=Try.prog) (ty:=64) Try.underlying64 manyD21 rfl (by decide) V_l ⟨bz,0,none⟩ 1 1 (rc1 q) rfl T_b (fun u hu=>rcs_one [q] u (by rw [rcs_one1]; exact hu)) (by unfold maxLen; omega) (by omega) hB1.size
             have hB2:=hB1.grown hgr hB1.size (fun b_ hb_=>(World.ownsRow.lt V_l b_ hb_).1)
             obtain ⟨sv,cv,rfl,_,_⟩:=row_form16 V2
             have ho:=Off.grown (Off.refl (ob sl) _) hgr (fun b_ hb_=>.inl ((ob_own _ _ _ b_).1 hb_)); have hlo:=fun b_ hb_=>(World.ownsRow.lt V_t b_ hb_).2; replace V_t:=ownsRow_away V_t ho (fun b_ h1_ h2_=>hap b_ h2_ h1_)
             have hap2:∀ b∈ob sv,b∉ob st:=fun b h1 h2=>by
              rcases hg2 b ((ob_own sv _ cv b).2 h1) with h | h
              · exact hap b h2 ((ob_own _ _ _ b).1 h)
              · have:=hlo b ((ob_own _ _ _ b).2 h2)
                omega
             clear ho hlo; refine xaL _ (appendOp _ _ 64 _ _ _ rfl rfl rfl hr) ?_; clear hr hgr hg2 M hB1 T_b V_l
             have e1_:(((zlf top k d.Z).take j).filter fun q=>!sold top q.1)++[q]=(((zlf top k d.Z).take (j+1)).filter fun q=>!sold top q.1):=by rw [filt_take hq]; simp [hb.out]
             rw [← rcs_one1,← rcs_app,e1_,show (((zlf top k d.Z).take j).filter fun q=>!sold top q.1).length+1=(((zlf top k d.Z).take (j+1)).filter fun q=>!sold top q.1).length by rw [← e1_,List.length_append]; rfl] at V2
             rw [show (((zlf top k d.Z).take j).filter fun q=>!sold top q.1).length+1=(((zlf top k d.Z).take (j+1)).filter fun q=>!sold top q.1).length by rw [← e1_,List.length_append]; rfl]
             refine xpL (.slice sv ((((zlf top k d.Z).take (j+1)).filter fun q=>!sold top q.1).length) cv) ?_; refine xT ?_
             have e2_:(((zlf top k d.Z).take j).filter fun q=>sold top q.1)=(((zlf top k d.Z).take (j+1)).filter fun q=>sold top q.1):=by rw [filt_take hq]; simp [hb.out]
             rw [e2_] at V_t
             have HS:=show Hid _ from (And.intro V_t (And.intro V2 (And.intro (fun b h1 h2=>hap2 b h2 h1) hB2))); have hee:=show Hid _ from e2_; clear V2 V_t hap2 hB2 hB hap e1_ e2_; go_wp2
             go_roundw
             case rel=>exact ⟨j+1,st,sv,ct,cv,by omega,by rw [hee.out],rfl,by go_num,HS.out⟩
             case measure=>simp [intOf]; omega
         · have hb:=show Hid _ from (show sold top q.1=false from decide_eq_false (by omega))
           go_upto_region 22 with fail; refine wp_region_list ?_; refine xpL (.slice sx ((zlf top k d.Z).length) cx) ?_; refine xpL (.int .i64 (j:Int)) ?_; refine xaL (.pointer (some ⟨gr,j*3,none⟩)) (idxR3d gr _ _ j sx hgr (List.getElem?_eq_some_iff.1 hq).1 _ _ rfl rfl rfl _) ?_; refine xpL (.pointer (some ⟨gr,j*3+0,none⟩)) ?_
           refine xaL (.int .i64 ((q.1.c:Nat):Int)) (load1 3 _ ⟨gr,j*3+0,none⟩ _ rfl rfl (fun _=>by kernel_rfl) (row_cell5 (ownsRow_bel V_x (hB.trans (M.below.mono hB.size))) hgr (rcs_get hq rfl))) ?_; refine xpL (.int .i64 top) ?_; refine xaL (.bool false) (lssI .i64 _ _ _ _ _ _ rfl rfl rfl false (decide_eq_false (by omega)) _) ?_; refine xpL (.bool false) ?_
           with_reducible refine skipL ?_ ?_
           · rfl
           simp only [aP,lI,l0,lS]
           with_reducible refine skipL ?_ ?_
           · rfl
           simp only [aP,lI,l0,lS]
           with_reducible refine skipL ?_ ?_
           · rfl
           simp only [aP,lI,l0,lS]
           with_reducible refine skipL ?_ ?_
           · rfl
           simp only [aP,lI,l0,lS]
           with_reducible refine skipL ?_ ?_
           · rfl
           simp only [aP,lI,l0,lS]
           with_reducible refine skipL ?_ ?_
           · rfl
           simp only [aP,lI,l0,lS]
           with_reducible refine skipL ?_ ?_
           · rfl
           simp only [aP,lI,l0,lS]
           with_reducible refine skipL ?_ ?_
           · rfl
           simp only [aP,lI,l0,lS]; refine xpL (.bool false) ?_; refine xT ?_; go_upto_region 24 with fail; refine wp_region_list ?_; refine xpL (.slice sl ((((zlf top k d.Z).take j).filter fun q=>!sold top q.1).length) cl) ?_; refine xpL (.slice sx ((zlf top k d.Z).length) cx) ?_; refine xpL (.int .i64 (j:Int)) ?_
           refine xaL (.pointer (some ⟨gr,j*3,none⟩)) (idxR3d gr _ _ j sx hgr (List.getElem?_eq_some_iff.1 hq).1 _ _ rfl rfl rfl _) ?_
           refine xaL (.agg #[.int .i64 ((q.1.c:Nat):Int),.int .i64 ((q.1.m:Nat):Int),.slice q.2.1 q.1.cs.length q.2.2]) (loadN 74 _ ⟨gr,j*3,none⟩ [.int .i64 ((q.1.c:Nat):Int),.int .i64 ((q.1.m:Nat):Int),.slice q.2.1 q.1.cs.length q.2.2] rfl rfl (fun _=>by kernel_rfl) (fun _=>by kernel_rfl) (row_rec21 (ownsRow_bel V_x (hB.trans (M.below.mono hB.size))) hgr hq)) ?_
           have hlb:=(Below.refl wr.heap.size wr).alloc (xnR _) (.cells #[.int .i64 ((q.1.c:Nat):Int),.int .i64 ((q.1.m:Nat):Int),.slice q.2.1 q.1.cs.length q.2.2] 74)
           have T_b:=World.ownsRow.cells (World.ownsRow_lit (base:=wr.heap.size) (e:=74) (size:=3) wr #[.int .i64 ((q.1.c:Nat):Int),.int .i64 ((q.1.m:Nat):Int),.slice q.2.1 q.1.cs.length q.2.2] 1 (xnR _) (by unfold maxLen; omega) rfl) (g:=wr.heap.size) rfl
           refine actL (w':=wr.alloc (.cells #[.int .i64 ((q.1.c:Nat):Int),.int .i64 ((q.1.m:Nat):Int),.slice q.2.1 q.1.cs.length q.2.2] 74)) (.slice (some ⟨wr.heap.size,0,none⟩) 1 1) rfl (by kernel_rfl) ?_; simp only [aP,lI,l0,lS]; replace M:=M.call hlb; clear hlb
           generalize wr.alloc (.cells #[.int .i64 ((q.1.c:Nat):Int),.int .i64 ((q.1.m:Nat):Int),.slice q.2.1 q.1.cs.length q.2.2] 74)=w16 at M T_b ⊢; generalize wr.heap.size=bz at T_b ⊢; replace V_l:=ownsRow_bel V_l M.below; replace V_t:=ownsRow_bel V_t M.below; have hB1:=hB.trans (M.below.mono hB.size)
           obtain ⟨v2,wz9,hr,V2,hgr,hg2⟩:=run_append_OwnV (P:=Try.prog) (ty:=64) Try.underlying64 manyD21 rfl (by decide) V_l ⟨bz,0,none⟩ 1 1 (rc1 q) rfl T_b (fun u hu=>rcs_one [q] u (by rw [rcs_one1]; exact hu)) (by unfold maxLen; omega) (by omega) hB1.size
           have hB2:=hB1.grown hgr hB1.size (fun b_ hb_=>(World.ownsRow.lt V_l b_ hb_).1)
           obtain ⟨sv,cv,rfl,_,_⟩:=row_form16 V2
           have ho:=Off.grown (Off.refl (ob sl) _) hgr (fun b_ hb_=>.inl ((ob_own _ _ _ b_).1 hb_)); have hlo:=fun b_ hb_=>(World.ownsRow.lt V_t b_ hb_).2; replace V_t:=ownsRow_away V_t ho (fun b_ h1_ h2_=>hap b_ h2_ h1_)
           have hap2:∀ b∈ob sv,b∉ob st:=fun b h1 h2=>by
            rcases hg2 b ((ob_own sv _ cv b).2 h1) with h | h
            · exact hap b h2 ((ob_own _ _ _ b).1 h)
            · have:=hlo b ((ob_own _ _ _ b).2 h2)
              omega
           clear ho hlo; refine xaL _ (appendOp _ _ 64 _ _ _ rfl rfl rfl hr) ?_; clear hr hgr hg2 M hB1 T_b V_l
           have e1_:(((zlf top k d.Z).take j).filter fun q=>!sold top q.1)++[q]=(((zlf top k d.Z).take (j+1)).filter fun q=>!sold top q.1):=by rw [filt_take hq]; simp [hb.out]
           rw [← rcs_one1,← rcs_app,e1_,show (((zlf top k d.Z).take j).filter fun q=>!sold top q.1).length+1=(((zlf top k d.Z).take (j+1)).filter fun q=>!sold top q.1).length by rw [← e1_,List.length_append]; rfl] at V2
           rw [show (((zlf top k d.Z).take j).filter fun q=>!sold top q.1).length+1=(((zlf top k d.Z).take (j+1)).filter fun q=>!sold top q.1).length by rw [← e1_,List.length_append]; rfl]
           refine xpL (.slice sv ((((zlf top k d.Z).take (j+1)).filter fun q=>!sold top q.1).length) cv) ?_; refine xT ?_
           have e2_:(((zlf top k d.Z).take j).filter fun q=>sold top q.1)=(((zlf top k d.Z).take (j+1)).filter fun q=>sold top q.1):=by rw [filt_take hq]; simp [hb.out]
           rw [e2_] at V_t
           have HS:=show Hid _ from (And.intro V_t (And.intro V2 (And.intro (fun b h1 h2=>hap2 b h2 h1) hB2))); have hee:=show Hid _ from e2_; clear V2 V_t hap2 hB2 hB hap e1_ e2_; go_wp2
           go_roundw
           case rel=>exact ⟨j+1,st,sv,ct,cv,by omega,by rw [hee.out],rfl,by go_num,HS.out⟩
           case measure=>simp [intOf]; omega
       · obtain ⟨M_,Vf_,A_o,K_d,OF⟩:=HI.out
         have e_:(zlf top k d.Z).take j=(zlf top k d.Z):=List.take_of_length_le (by omega)
         rw [e_] at V_t V_l
         rw [e_]
         clear M; have hltM:=fun x hx=>M_.lts21 (a:=[]) (x:=x) hx; have M:=((M_.call hB).own21 V_l M_.below.size (fun b hb hm=>by have:=hltM b hm; omega)).perm (sw21 (obs sl) [_,_] _); clear hltM; have V_f:=ownsRow_bel Vf_ hB; replace A_o:=A_o.below hB; replace K_d:=K_d.below hB; replace OF:=OF.below hB; clear M_ Vf_ HI V_x
         replace M:Mm w0 ((g,fcs A++([.int .i64 ((d.n:Nat):Int),.int .i64 (((sgW d.f top k):Nat):Int),.int .i64 (((d.top.getD 0):Nat):Int),.bool d.top.isSome,.slice d.sr d.Z.length d.cr]++fcs B))::(R,[.int .i64 (dpo s),.int .i64 s.last,.slice (some ⟨g,0,none⟩) L.length cf])::(obs sl++(obs d.sr++(gks d.Z++(gf (A++B)++l))))) wr:=M
         go_upto_region 20 with fail; refine wp_region_list ?_; refine xpL (.int .i64 (j:Int)) ?_; refine xpL (.slice sx ((zlf top k d.Z).length) cx) ?_; refine readL (.int .i64 (((zlf top k d.Z).length:Nat):Int)) rfl (lenS _ 64 74 sx ((zlf top k d.Z).length) cx rfl Try.underlying64 rfl _) ?_; simp only [aP,lI,l0,lS]
         refine xaL (.bool false) (lssI .i64 _ _ _ _ _ _ rfl rfl rfl false (decide_eq_false (by omega)) _) ?_; refine xT ?_; have hbM:=show Hid _ from M.below.size; have hTl2:=List.length_filter_le (fun q:Rcd × Option Addr × Nat=>sold top q.1) (zlf top k d.Z)
         have hTs:=sall_sub ((List.filter_sublist (p:=fun q:Rcd × Option Addr × Nat=>sold top q.1) (l:=(zlf top k d.Z))).map Prod.fst)
         have hgt:∀ (sp:Option Addr) (n c:Nat) (xs:List Value),wr.ownsRow w13.heap.size 74 3 (.slice sp n c) n xs→g∉ob sp:=fun sp n c xs V hm=>by
          have:=(World.ownsRow.lt V g ((ob_own sp n c g).2 hm)).1
          omega
         go_upto_region 25 with fail; refine wp_region_list ?_; refine xpL (.pointer (some ⟨g,A.length*5,none⟩)) ?_; refine xpL (.slice st (((zlf top k d.Z).filter fun q=>sold top q.1).length) ct) ?_; refine xpL (.slice sl (((zlf top k d.Z).filter fun q=>!sold top q.1).length) cl) ?_; have hsl:=hgt _ _ _ _ V_l
         have key:=dlose21_any w0 wr g L.length cf A B ((d.n:Nat):Int) ((d.top.getD 0:Nat):Int) (sgW d.f top k) d.top.isSome d.sr sl d.Z.length d.cr ((zlf top k d.Z).filter fun q=>!sold top q.1).length cl (by unfold sgW; omega) _ M V_f w13.heap.size ((zlf top k d.Z).filter fun q=>sold top q.1) st ct (by omega) (by omega) V_t (K_d.sub fun q hq=>(zlf_sub top k d.Z).subset (List.mem_filter.1 hq).1) (hgt _ _ _ _ V_t) (fun hm=>hgk (((gks_sub (List.filter_sublist.trans (zlf_sub top k d.Z))).map Prod.fst).subset hm))
         refine xcL key ?_; clear key; rintro e w18 ⟨sq,cq,rfl,V_q,V_f2,M',o1⟩; have hbq:=OF.size; replace OF:=OF.trans (o1.mono fun b hb=>by rw [xm1 hb]; exact mT _ (List.mem_append_left _ mS)); replace V_l:=ownsRow_away V_l o1 (fun b hb=>by obtain rfl:=xm1 hb; exact hsl); replace A_o:=A_o.off o1 (fun b hb=>by obtain rfl:=xm1 hb; exact hgA)
         replace K_d:=K_d.off o1 (fun b hb=>by obtain rfl:=xm1 hb; exact hgk); clear o1 V_f V_t hsl hgt; have V_f:=V_f2; clear V_f2 M; refine xeL ?_; refine xpL (.int .i64 (stk top now (d.Z.map Prod.fst))) ?_; refine xpL (.slice sq ((sall (((zlf top k d.Z).filter fun q=>sold top q.1).map Prod.fst)).length) cq) ?_; refine xpL (.int .i64 (stk top now (d.Z.map Prod.fst))) ?_; refine xT ?_
         have hPn:DOK w18 (⟨d.n,lwn ((zlf top k d.Z).filter fun q=>sold top q.1) (sgW d.f top k),d.top,((zlf top k d.Z).filter fun q=>!sold top q.1),sl,cl⟩:Dfl):=⟨ownsRow_mono21 V_l (Nat.zero_le _),K_d.sub fun q hq=>(zlf_sub top k d.Z).subset (List.mem_filter.1 hq).1⟩
         have M8:=M'.perm (List.perm_middle (l₁:=obs sq))
         have hsub:(gks (⟨d.n,lwn ((zlf top k d.Z).filter fun q=>sold top q.1) (sgW d.f top k),d.top,((zlf top k d.Z).filter fun q=>!sold top q.1),sl,cl⟩:Dfl).Z).Sublist (gks d.Z):=gks_sub (List.filter_sublist.trans (zlf_sub top k d.Z))
         have M7:Mm w0 ((g,fcs A++(fc1 (⟨d.n,lwn ((zlf top k d.Z).filter fun q=>sold top q.1) (sgW d.f top k),d.top,((zlf top k d.Z).filter fun q=>!sold top q.1),sl,cl⟩:Dfl)++fcs B))::(R,drc s (some ⟨g,0,none⟩) L.length cf)::(obs sl++(gks (⟨d.n,lwn ((zlf top k d.Z).filter fun q=>sold top q.1) (sgW d.f top k),d.top,((zlf top k d.Z).filter fun q=>!sold top q.1),sl,cl⟩:Dfl).Z++(gf (A++B)++(obs sq++l))))) w18:=by
          have e1:Mm w0 ((g,fcs A++(fc1 (⟨d.n,lwn ((zlf top k d.Z).filter fun q=>sold top q.1) (sgW d.f top k),d.top,((zlf top k d.Z).filter fun q=>!sold top q.1),sl,cl⟩:Dfl)++fcs B))::(obs sq++((R,drc s (some ⟨g,0,none⟩) L.length cf)::(obs sl++(obs d.sr++(gks d.Z++(gf (A++B)++l))))))) w18:=M8
          have e2:=e1.perm (List.Perm.cons _ (perm_dend (obs sq) (obs sl) (obs d.sr) (gks d.Z) (gf (A++B)) l (R,drc s (some ⟨g,0,none⟩) L.length cf)))
          exact e2.sub _ (List.cons_sublist_cons.2 (List.cons_sublist_cons.2 ((List.Sublist.refl _).append ((hsub.append (List.Sublist.refl _)).trans (List.sublist_append_right (obs d.sr) _)))))
         obtain ⟨hc1,hc2⟩:=dfin21 (R:=R) hI h1 h2 h3 (d':=(⟨d.n,lwn ((zlf top k d.Z).filter fun q=>sold top q.1) (sgW d.f top k),d.top,((zlf top k d.Z).filter fun q=>!sold top q.1),sl,cl⟩:Dfl)) rfl V_f hPn A_o M7
         have hLn:(A++(⟨d.n,lwn ((zlf top k d.Z).filter fun q=>sold top q.1) (sgW d.f top k),d.top,((zlf top k d.Z).filter fun q=>!sold top q.1),sl,cl⟩:Dfl)::B).length=L.length:=by rw [h1]; simp
         have hlz:(zlf top k d.Z).map Prod.fst=sgL d.f top k:=filt_fst d.Z (fun r=>!gpr top k r)
         have hno:=show Hid _ from (show sgt s id top k={ s with L:=sput s.L id (⟨d.n,lwn ((zlf top k d.Z).filter fun q=>sold top q.1) (sgW d.f top k),d.top,((zlf top k d.Z).filter fun q=>!sold top q.1),sl,cl⟩:Dfl).f } by
          unfold sgt
          rw [hI.lst,h5,flose_is,hlz]
          rfl)
         have hso:=show Hid _ from (show sgO s id top k=sall (((zlf top k d.Z).filter fun q=>sold top q.1).map Prod.fst) by
          unfold sgO
          rw [hI.lst,h5,filt_fst,hlz]
          rfl)
         have hst:=show Hid _ from (show sgT s id top now=stk top now (d.Z.map Prod.fst) by
          unfold sgT
          rw [hI.lst,h5]
          rfl)
         have HN:=show Hid _ from NewW.ofOwn21 (ownsRow_mono21 (b:=w0.heap.size) V_q (by have:=M'.below.size; have:=hbM.out; omega))
         have HS:=show Hid _ from (And.intro hc1 (And.intro (show Mm w0 ((R,drc s (some ⟨g,0,none⟩) (A++(⟨d.n,lwn ((zlf top k d.Z).filter fun q=>sold top q.1) (sgW d.f top k),d.top,((zlf top k d.Z).filter fun q=>!sold top q.1),sl,cl⟩:Dfl)::B).length cf)::_) w18 by rw [hLn]; exact hc2) OF))
         clear M' M8 M7 OF V_q V_l V_f K_d A_o hPn hc1 hc2 hLn hI hI2 h1 h2 h3 h4 h5 hsub hzz hbM hlz; go_wp2; go_ret2
         rw [hso.out,hno.out,hst.out]
         first | exact ⟨sq,cq,rfl,HN.out,_,_,_,HS.out⟩ | exact ⟨sq,cq,_,_,_,rfl,HN.out,HS.out⟩
theorem DOK.below21 {w w':World} {d:Dfl} (h:DOK w d) (l:Below w.heap.size w w'):DOK w' d:=h.off (X:=[]) (Off.of_below l) fun _ hb=>by cases hb
section
variable {P:Program} {ops:Array Oper} {Q:Exit→Act→World→Prop} {md:Region.Mode} {S:World→Prop} {c:Nat}
theorem put_comm21 {a:Act} {i j:Nat} {u v:Value} (h:i≠j):(a.put (some j) u).put (some i) v=(a.put (some i) v).put (some j) u:=by
 unfold Act.put
 simp only
 rw [Array.setIfInBounds_comm _ _ (Ne.symm h)]
theorem pairC {i j di dj:Nat} {oi oj:Oper} {f:FuncId} {args:Array Value} {v1:Value} {n:Nat} {l:Array Bool} {a:Act} {w:World} {T:TypeId} (size:Nat)
 (hr:Region.ready md ops l=[i,j]) (hi:ops[i]?=some oi) (hj:ops[j]?=some oj) (hdi:oi.dst=some di) (hdj:oj.dst=some dj) (hij:i≠j) (hd:di≠dj)
 (hr1:Region.ready md ops (l.setIfInBounds i true)=[j]) (hr2:Region.ready md ops (l.setIfInBounds j true)=[i])
 (hwi:∀ y,Region.wanted oi y=true) (hwj:∀ y,Region.wanted oj y=true)
 (hci:∀ w,(execOp a.eval oi).run P w=.ok (.enter f args) w) (hci2:∀ v w,(execOp (a.put (some dj) v).eval oi).run P w=.ok (.enter f args) w)
 (hC:∀ w,Calls P f args w fun e w'=>e=.returned v1∧Below w.heap.size w w')
 (hact:∀ (a':Act) (w:World),(execOp a'.eval oj).run P w=.ok (.value (.slice (some ⟨w.heap.size,0,none⟩) 0 0)) (w.alloc (.cells #[] T)))
 (hS:∀ w',Below w.heap.size w w'→S w')
 (h:∀ b w',Below w.heap.size w w'→w'.ownsRow w.heap.size T size (.slice (some ⟨b,0,none⟩) 0 0) 0 []→wpAnyC P md ops Q S c n ((l.setIfInBounds i true).setIfInBounds j true) ((a.put (some di) v1).put (some dj) (.slice (some ⟨b,0,none⟩) 0 0)) w') :
 wpAnyC P md ops Q S c (n+2) l a w:=by
 refine ⟨fun h0=>(by rw [h0] at hr; cases hr),fun x hx=>?_⟩
 rw [hr] at hx
 rcases xc1 hx with rfl | hx
 · unfold wpOp
   simp only [hi,hwi,if_true]; refine .inl ?_
   unfold Oper.wp
   rw [hci w]
   refine (hC w).mono fun e w' hR=>?_
   obtain ⟨rfl,hb⟩:=hR
   have hb2:=hb.alloc hb.size (.cells #[] T)
   refine ⟨fun _=>hS _ hb,?_⟩
   rw [hdi]
   exact onlyC (some dj) hdj (.slice (some ⟨w'.heap.size,0,none⟩) 0 0) hr1 hj (hwj _) (hact _ w') (hS _ hb2) (h _ _ hb2 (World.ownsRow_lit (e:=T) (size:=size) w' #[] 0 hb.size (by unfold maxLen; omega) (Nat.zero_mul _).symm))
 · obtain rfl:=xm1 hx
   have ba:=(Below.refl w.heap.size w).alloc (xnR _) (.cells #[] T)
   refine actO (some dj) hdj (.slice (some ⟨w.heap.size,0,none⟩) 0 0) hj (hwj _) (hact a w) ⟨fun _=>hS _ ba,?_⟩
   refine ⟨fun h0=>(by rw [h0] at hr2; cases hr2),fun y hy=>?_⟩
   rw [hr2] at hy
   obtain rfl:=xm1 hy
   unfold wpOp
   simp only [hi,hwi,if_true]; refine .inl ?_
   unfold Oper.wp
   rw [hci2 _ _]
   refine (hC _).mono fun e w' hR=>?_
   obtain ⟨rfl,hb⟩:=hR
   have hb2:=ba.trans (hb.mono ba.size)
   refine ⟨fun _=>hS _ hb2,?_⟩
   rw [hdi,put_comm21 hd,Array.setIfInBounds_comm _ _ (Ne.symm hij)]
   exact h _ _ hb2 (ownsRow_bel (World.ownsRow_lit (e:=T) (size:=size) w #[] 0 (xnR _) (by unfold maxLen; omega) (Nat.zero_mul _).symm) hb)
end
theorem perm_mid2 {α:Type} (A B:List α) (x y:α):(A++(x::y::B)).Perm (x::y::(A++B)):=List.perm_middle.trans (List.Perm.cons _ List.perm_middle)
theorem perm_snt {α:Type} (q s z:List α) (x y:α):(x::y::(q++(s++z))).Perm (s++(x::y::(q++z))):=(List.Perm.cons _ (List.Perm.cons _ (sw21 q s z))).trans (perm_mid2 s (q++z) x y).symm
theorem dsnt21_any (w0 w : World) (R : Nat) (L : List Dfl) (sf : Option Addr) (cf : Nat) (l : List (Nat × List Value)) (s : Sch) (hI : DIn w s L sf cf) (hsz_ : ssz s < 1000000000) (M : Mm w0 ((R, drc s sf L.length cf) :: (obs sf ++ (gf L ++ l))) w) (id : Int) (c now : Int) (k : List (Int × Int)) (sk : Option Addr) (ck : Nat) (hk : k.length < 2000000) (N : RgW w k (.slice sk k.length ck)) (hks : ∀ b ∈ R :: (ob sf ++ (gf L).map Prod.fst), k ≠ [] → b ∉ ob sk) :
    Calls Try.prog 18 #[.pointer (some ⟨R, 0, none⟩), .int .i64 id, .int .i64 c, .int .i64 now, .slice sk k.length ck] w fun e w' => ∃ L' sf' cf', e = .returned (.tuple #[]) ∧ DIn w' (ssn s id c now k) L' sf' cf' ∧ Mm w0 ((R, drc (ssn s id c now k) sf' L'.length cf') :: (obs sf' ++ (gf L' ++ l))) w' ∧ Off (R :: (ob sf ++ (gf L).map Prod.fst)) w w' := by
  replace M : Mm w0 ((R, [.int .i64 (dpo s), .int .i64 s.last, .slice sf L.length cf]) :: (obs sf ++ (gf L ++ l))) w := M
  have hln : L.length < 1000000000 := by have := hI.len; omega
  have lb_ := Below.refl w.heap.size w
  go_enter Try.func18, Try.ntmps18
  go_upto_region 0 with fail; refine wp_region_list ?_; refine xpL (.pointer (some ⟨R, 0, none⟩)) ?_; refine xpL (.int .i64 id) ?_; have key := dat21_any w 0 R L sf cf hln (M.get mS 2 _ rfl) hI.V id; refine xcL key ?_; clear key; rintro e w2 ⟨rfl, l_⟩; replace M := M.call l_; replace lb_ := lb_.trans (l_.mono lb_.size); replace N := N.below l_
  clear l_; refine xeL ?_; refine xpL (.int .i64 (sat L id)) ?_; refine xT ?_
  rcases sat_cases L id with ⟨h1, h2, h3⟩ | ⟨A, d, B, h1, h2, h3, h4, h5⟩
  · rw [h1]
    go_upto_region 1 with fail; refine wp_region_list ?_; refine xpL (.int .i64 (-1)) ?_; refine xaL (.bool true) (lssI .i64 _ _ _ _ _ _ rfl rfl rfl true (by decide) _) ?_; refine xpL (.bool true) ?_
    with_reducible refine skipL ?_ ?_
    · rfl
    simp only [aP, lI, l0, lS]
    with_reducible refine skipL ?_ ?_
    · rfl
    simp only [aP, lI, l0, lS]; refine xpL (.bool true) ?_; refine xpL (.bool true) ?_
    with_reducible refine skipL ?_ ?_
    · rfl
    simp only [aP, lI, l0, lS]
    with_reducible refine skipL ?_ ?_
    · rfl
    simp only [aP, lI, l0, lS]; refine xpL (.bool true) ?_; refine xpL (.bool true) ?_
    with_reducible refine skipL ?_ ?_
    · rfl
    simp only [aP, lI, l0, lS]
    with_reducible refine skipL ?_ ?_
    · rfl
    simp only [aP, lI, l0, lS]
    with_reducible refine skipL ?_ ?_
    · rfl
    simp only [aP, lI, l0, lS]
    with_reducible refine skipL ?_ ?_
    · rfl
    simp only [aP, lI, l0, lS]
    with_reducible refine skipL ?_ ?_
    · rfl
    simp only [aP, lI, l0, lS]
    with_reducible refine skipL ?_ ?_
    · rfl
    simp only [aP, lI, l0, lS]
    with_reducible refine skipL ?_ ?_
    · rfl
    simp only [aP, lI, l0, lS]
    with_reducible refine skipL ?_ ?_
    · rfl
    simp only [aP, lI, l0, lS]
    with_reducible refine skipL ?_ ?_
    · rfl
    simp only [aP, lI, l0, lS]
    with_reducible refine skipL ?_ ?_
    · rfl
    simp only [aP, lI, l0, lS]
    with_reducible refine skipL ?_ ?_
    · rfl
    simp only [aP, lI, l0, lS]
    with_reducible refine skipL ?_ ?_
    · rfl
    simp only [aP, lI, l0, lS]
    with_reducible refine skipL ?_ ?_
    · rfl
    simp only [aP, lI, l0, lS]
    with_reducible refine skipL ?_ ?_
    · rfl
    simp only [aP, lI, l0, lS]
    with_reducible refine skipL ?_ ?_
    · rfl
    simp only [aP, lI, l0, lS]
    with_reducible refine skipL ?_ ?_
    · rfl
    simp only [aP, lI, l0, lS]
    with_reducible refine skipL ?_ ?_
    · rfl
    simp only [aP, lI, l0, lS]
    with_reducible refine skipL ?_ ?_
    · rfl
    simp only [aP, lI, l0, lS]
    with_reducible refine skipL ?_ ?_
    · rfl
    simp only [aP, lI, l0, lS]
    with_reducible refine skipL ?_ ?_
    · rfl
    simp only [aP, lI, l0, lS]; refine xpL (.bool true) ?_; refine xT ?_; have hno := show Hid _ from (show ssn s id c now k = s by unfold ssn; rw [hI.lst, h2]); have HS := show Hid _ from (show DIn w2 s L sf cf ∧ Mm w0 ((R, drc s sf L.length cf) :: (obs sf ++ (gf L ++ l))) w2 ∧ Off (R :: (ob sf ++ (gf L).map Prod.fst)) w w2 from ⟨hI.below lb_, M, Off.of_below lb_⟩); clear M hI lb_ h1 h2 h3 N
    go_wp2
    first | exact ⟨rfl, .tuple #[], by kernel_rfl, rfl, L, _, cf, by rw [hno.out]; exact HS.out⟩ | exact ⟨rfl, .tuple #[], by kernel_rfl, L, _, cf, rfl, by rw [hno.out]; exact HS.out⟩
  · have M_0 := show Hid _ from M
    rw [h4]
    have h7 : A.length < L.length := by rw [h1, List.length_append, List.length_cons]; omega
    have hzz := d_sz hI.lst h1; have hI2 := hI.below lb_
    obtain ⟨g, rfl⟩ := row_some5 hI.V (by omega)
    have V_f := hI2.V; have hAA := AOK.mid (A := A) (d := d) (B := B) (by rw [← h1]; exact hI2.A); have hMg := dtell21 (A := A) (d := d) (B := B) (by rw [← h1]; exact M) (by rw [← h1]; exact V_f)
    rw [show fcs L = fcs A ++ (fc1 d ++ fcs B) by rw [h1, fcs_app, fcs_cons]] at V_f
    have hjl := h7; have OF := Off.of_below (X := R :: (ob (some ⟨g, 0, none⟩) ++ (gf L).map Prod.fst)) lb_
    have hgs : g ∉ ob d.sr := hMg.awayB (fun p_ hp_ => by simp [hp_])
    have hgk : g ∉ (gks d.Z).map Prod.fst := hMg.awayC (fun p_ hp_ => by simp [hp_])
    have hgA : g ∉ (gf (A ++ B)).map Prod.fst := hMg.awayC (fun p_ hp_ => by simp [hp_])
    have A_o := hAA.2; have D_d := hAA.1; clear M hAA; have M := hMg; clear hMg
    replace M : Mm w0 ((g, fcs A ++ ([.int .i64 ((d.n : Nat) : Int), .int .i64 ((d.win : Nat) : Int), .int .i64 (((d.top.getD 0) : Nat) : Int), .bool d.top.isSome, .slice d.sr d.Z.length d.cr] ++ fcs B)) :: (R, [.int .i64 (dpo s), .int .i64 s.last, .slice (some ⟨g, 0, none⟩) L.length cf]) :: (obs d.sr ++ (gks d.Z ++ (gf (A ++ B) ++ l)))) w2 := M
    replace V_f : w2.ownsRow 0 66 5 (.slice (some ⟨g, 0, none⟩) L.length cf) L.length (fcs A ++ ([.int .i64 ((d.n : Nat) : Int), .int .i64 ((d.win : Nat) : Int), .int .i64 (((d.top.getD 0) : Nat) : Int), .bool d.top.isSome, .slice d.sr d.Z.length d.cr] ++ fcs B)) := V_f
    have hdL : d ∈ L := by rw [h1]; exact List.mem_append_right _ mS
    have hgN : k ≠ [] → g ∉ ob sk := hks g (mT _ (List.mem_append_left _ mS))
    have hLm : ∀ b ∈ ob d.sr, b ∈ R :: (ob (some ⟨g, 0, none⟩) ++ (gf L).map Prod.fst) := fun b hb => mT _ (List.mem_append_right _ (List.mem_map.2 ⟨(b, []), gf_mem hdL (List.mem_append_left _ (List.mem_map.2 ⟨b, hb, rfl⟩)), rfl⟩))
    have hSk : ∀ b ∈ ob d.sr, k ≠ [] → b ∉ ob sk := fun b hb => hks b (hLm b hb)
    have hap := fun x (hx : x ∈ g :: R :: ob d.sr) => Mm.apart2 (a := (g, fcs A ++ ([.int .i64 ((d.n : Nat) : Int), .int .i64 ((d.win : Nat) : Int), .int .i64 (((d.top.getD 0) : Nat) : Int), .bool d.top.isSome, .slice d.sr d.Z.length d.cr] ++ fcs B)) :: (R, drc s (some ⟨g, 0, none⟩) L.length cf) :: obs d.sr) (b := gks d.Z ++ (gf (A ++ B) ++ l)) M x (by rw [List.map_cons, List.map_cons, obs_fst]; exact hx)
    have hSc : ∀ b ∈ ob d.sr, b ∉ (gks d.Z).map Prod.fst := fun b hb hm => hap b (mT _ (mT _ hb)) (by rw [List.map_append]; exact List.mem_append_left _ hm)
    have hSA : ∀ b ∈ ob d.sr, b ∉ (gf (A ++ B)).map Prod.fst := fun b hb hm => hap b (mT _ (mT _ hb)) (by rw [List.map_append, List.map_append]; exact List.mem_append_right _ (List.mem_append_left _ hm))
    clear hap
    by_cases hc1 : c < 0
    · go_upto_region 1 with fail
      refine wp_region_list ?_; refine xpL (.int .i64 ((A.length : Nat) : Int)) ?_; refine xaL (.bool false) (lssI .i64 _ _ _ _ _ _ rfl rfl rfl false (decide_eq_false (by omega)) _) ?_; refine xpL (.bool false) ?_; refine xpL (.int .i64 c) ?_; refine xaL (.bool true) (lssI .i64 _ _ _ _ _ _ rfl rfl rfl true (decide_eq_true (by omega)) _) ?_; refine xpL (.bool true) ?_; refine xpL (.bool true) ?_
      with_reducible refine skipL ?_ ?_
      · rfl
      simp only [aP, lI, l0, lS]
      with_reducible refine skipL ?_ ?_
      · rfl
      simp only [aP, lI, l0, lS]; refine xpL (.bool true) ?_; refine xpL (.bool true) ?_
      with_reducible refine skipL ?_ ?_
      · rfl
      simp only [aP, lI, l0, lS]
      with_reducible refine skipL ?_ ?_
      · rfl
      simp only [aP, lI, l0, lS]
      with_reducible refine skipL ?_ ?_
      · rfl
      simp only [aP, lI, l0, lS]
      with_reducible refine skipL ?_ ?_
      · rfl
      simp only [aP, lI, l0, lS]
      with_reducible refine skipL ?_ ?_
      · rfl
      simp only [aP, lI, l0, lS]
      with_reducible refine skipL ?_ ?_
      · rfl
      simp only [aP, lI, l0, lS]
      with_reducible refine skipL ?_ ?_
      · rfl
      simp only [aP, lI, l0, lS]
      with_reducible refine skipL ?_ ?_
      · rfl
      simp only [aP, lI, l0, lS]
      with_reducible refine skipL ?_ ?_
      · rfl
      simp only [aP, lI, l0, lS]
      with_reducible refine skipL ?_ ?_
      · rfl
      simp only [aP, lI, l0, lS]
      with_reducible refine skipL ?_ ?_
      · rfl
      simp only [aP, lI, l0, lS]
      with_reducible refine skipL ?_ ?_
      · rfl
      simp only [aP, lI, l0, lS]
      with_reducible refine skipL ?_ ?_
      · rfl
      simp only [aP, lI, l0, lS]
      with_reducible refine skipL ?_ ?_
      · rfl
      simp only [aP, lI, l0, lS]
      with_reducible refine skipL ?_ ?_
      · rfl
      simp only [aP, lI, l0, lS]
      with_reducible refine skipL ?_ ?_
      · rfl
      simp only [aP, lI, l0, lS]
      with_reducible refine skipL ?_ ?_
      · rfl
      simp only [aP, lI, l0, lS]
      with_reducible refine skipL ?_ ?_
      · rfl
      simp only [aP, lI, l0, lS]
      with_reducible refine skipL ?_ ?_
      · rfl
      simp only [aP, lI, l0, lS]
      with_reducible refine skipL ?_ ?_
      · rfl
      simp only [aP, lI, l0, lS]; refine xpL (.bool true) ?_; refine xT ?_
      have hsm : smay d.f c = false := by
        unfold smay
        show (decide (0 ≤ c ∧ c ≤ 281474976710655) && (match d.top with | some t => decide ((t : Int) < c) | none => true)) = false
        rw [decide_eq_false (by omega), Bool.false_and]
      have hno := show Hid _ from (show ssn s id c now k = s by unfold ssn; rw [hI.lst, h5]; exact if_neg (by rw [hsm]; decide)); have HS := show Hid _ from (show DIn w2 s L (some ⟨g, 0, none⟩) cf ∧ Mm w0 ((R, drc s (some ⟨g, 0, none⟩) L.length cf) :: (obs (some ⟨g, 0, none⟩) ++ (gf L ++ l))) w2 ∧ Off (R :: (ob (some ⟨g, 0, none⟩) ++ (gf L).map Prod.fst)) w w2 from ⟨hI2, M_0.out, OF⟩)
      clear M M_0 hI hI2 lb_ N V_f A_o D_d OF h1 h2 h3 h4 h5 hks hSk hSc hSA hLm hdL hgN; go_wp2
      first | exact ⟨rfl, .tuple #[], by kernel_rfl, rfl, L, _, cf, by rw [hno.out]; exact HS.out⟩ | exact ⟨rfl, .tuple #[], by kernel_rfl, L, _, cf, rfl, by rw [hno.out]; exact HS.out⟩
    · by_cases hc2 : c > 281474976710655
      · go_upto_region 1 with fail
        refine wp_region_list ?_; refine xpL (.int .i64 ((A.length : Nat) : Int)) ?_; refine xaL (.bool false) (lssI .i64 _ _ _ _ _ _ rfl rfl rfl false (decide_eq_false (by omega)) _) ?_; refine xpL (.bool false) ?_; refine xpL (.int .i64 c) ?_; refine xaL (.bool false) (lssI .i64 _ _ _ _ _ _ rfl rfl rfl false (decide_eq_false (by omega)) _) ?_; refine xpL (.bool false) ?_
        refine xpL (.bool false) ?_; refine xpL (.int .i64 c) ?_; refine xaL (.bool true) (gtrI .i64 _ _ _ _ _ _ rfl rfl rfl true (decide_eq_true (by omega)) _) ?_; refine xpL (.bool true) ?_; refine xpL (.bool true) ?_
        with_reducible refine skipL ?_ ?_
        · rfl
        simp only [aP, lI, l0, lS]
        with_reducible refine skipL ?_ ?_
        · rfl
        simp only [aP, lI, l0, lS]
        with_reducible refine skipL ?_ ?_
        · rfl
        simp only [aP, lI, l0, lS]
        with_reducible refine skipL ?_ ?_
        · rfl
        simp only [aP, lI, l0, lS]
        with_reducible refine skipL ?_ ?_
        · rfl
        simp only [aP, lI, l0, lS]
        with_reducible refine skipL ?_ ?_
        · rfl
        simp only [aP, lI, l0, lS]
        with_reducible refine skipL ?_ ?_
        · rfl
        simp only [aP, lI, l0, lS]
        with_reducible refine skipL ?_ ?_
        · rfl
        simp only [aP, lI, l0, lS]
        with_reducible refine skipL ?_ ?_
        · rfl
        simp only [aP, lI, l0, lS]
        with_reducible refine skipL ?_ ?_
        · rfl
        simp only [aP, lI, l0, lS]
        with_reducible refine skipL ?_ ?_
        · rfl
        simp only [aP, lI, l0, lS]
        with_reducible refine skipL ?_ ?_
        · rfl
        simp only [aP, lI, l0, lS]
        with_reducible refine skipL ?_ ?_
        · rfl
        simp only [aP, lI, l0, lS]
        with_reducible refine skipL ?_ ?_
        · rfl
        simp only [aP, lI, l0, lS]
        with_reducible refine skipL ?_ ?_
        · rfl
        simp only [aP, lI, l0, lS]
        with_reducible refine skipL ?_ ?_
        · rfl
        simp only [aP, lI, l0, lS]
        with_reducible refine skipL ?_ ?_
        · rfl
        simp only [aP, lI, l0, lS]
        with_reducible refine skipL ?_ ?_
        · rfl
        simp only [aP, lI, l0, lS]
        with_reducible refine skipL ?_ ?_
        · rfl
        simp only [aP, lI, l0, lS]
        with_reducible refine skipL ?_ ?_
        · rfl
        simp only [aP, lI, l0, lS]; refine xpL (.bool true) ?_; refine xT ?_
        have hsm : smay d.f c = false := by
          unfold smay
          show (decide (0 ≤ c ∧ c ≤ 281474976710655) && (match d.top with | some t => decide ((t : Int) < c) | none => true)) = false
          rw [decide_eq_false (by omega), Bool.false_and]
        have hno := show Hid _ from (show ssn s id c now k = s by unfold ssn; rw [hI.lst, h5]; exact if_neg (by rw [hsm]; decide)); have HS := show Hid _ from (show DIn w2 s L (some ⟨g, 0, none⟩) cf ∧ Mm w0 ((R, drc s (some ⟨g, 0, none⟩) L.length cf) :: (obs (some ⟨g, 0, none⟩) ++ (gf L ++ l))) w2 ∧ Off (R :: (ob (some ⟨g, 0, none⟩) ++ (gf L).map Prod.fst)) w w2 from ⟨hI2, M_0.out, OF⟩)
        clear M M_0 hI hI2 lb_ N V_f A_o D_d OF h1 h2 h3 h4 h5 hks hSk hSc hSA hLm hdL hgN; go_wp2
        first | exact ⟨rfl, .tuple #[], by kernel_rfl, rfl, L, _, cf, by rw [hno.out]; exact HS.out⟩ | exact ⟨rfl, .tuple #[], by kernel_rfl, L, _, cf, rfl, by rw [hno.out]; exact HS.out⟩
      · cases ht : d.top with
        | some t =>
          by_cases hc3 : c ≤ (t : Int)
          · have hts : d.top.isSome = true := by rw [ht]; rfl
            rw [hts] at M V_f
            have htg : d.top.getD 0 = t := by rw [ht]; rfl
            rw [htg] at M V_f
            replace M : Mm w0 ((g, fcs A ++ ([.int .i64 ((d.n : Nat) : Int), .int .i64 ((d.win : Nat) : Int), .int .i64 ((t : Nat) : Int), .bool true, .slice d.sr d.Z.length d.cr] ++ fcs B)) :: (R, [.int .i64 (dpo s), .int .i64 s.last, .slice (some ⟨g, 0, none⟩) L.length cf]) :: (obs d.sr ++ (gks d.Z ++ (gf (A ++ B) ++ l)))) w2 := M
            go_upto_region 1 with fail; refine wp_region_list ?_; refine xpL (.int .i64 ((A.length : Nat) : Int)) ?_; refine xaL (.bool false) (lssI .i64 _ _ _ _ _ _ rfl rfl rfl false (decide_eq_false (by omega)) _) ?_; refine xpL (.bool false) ?_; refine xpL (.int .i64 c) ?_; refine xaL (.bool false) (lssI .i64 _ _ _ _ _ _ rfl rfl rfl false (decide_eq_false (by omega)) _) ?_
            refine xpL (.bool false) ?_; refine xpL (.bool false) ?_; refine xpL (.int .i64 c) ?_; refine xaL (.bool false) (gtrI .i64 _ _ _ _ _ _ rfl rfl rfl false (decide_eq_false (by omega)) _) ?_; refine xpL (.bool false) ?_; refine xpL (.bool false) ?_; refine xpL (.pointer (some ⟨R, 0, none⟩)) ?_; refine xpL (.pointer (some ⟨R, 0, none⟩)) ?_; refine xpL (.pointer (some ⟨R, 2, none⟩)) ?_
            refine xaL (.slice (some ⟨g, 0, none⟩) L.length cf) (load1 56 _ ⟨R, 2, none⟩ _ rfl rfl (fun _ => by kernel_rfl) (M.get (mT _ mS) 2 _ rfl)) ?_; refine xpL (.int .i64 ((A.length : Nat) : Int)) ?_; refine xaL (.pointer (some ⟨g, A.length * 5, none⟩)) (idxF5 g _ _ A.length (some ⟨g, 0, none⟩) rfl hjl _ _ rfl rfl rfl _) ?_; refine xpL (.pointer (some ⟨g, A.length * 5 + 3, none⟩)) ?_
            refine xaL (.bool true) (load1 4 _ ⟨g, A.length * 5 + 3, none⟩ _ rfl rfl (fun _ => by kernel_rfl) (M.get mS (A.length * 5 + 3) _ (mid_get rfl))) ?_; refine xpL (.bool true) ?_; refine xpL (.int .i64 c) ?_; refine xpL (.pointer (some ⟨R, 0, none⟩)) ?_; refine xpL (.pointer (some ⟨R, 0, none⟩)) ?_; refine xpL (.pointer (some ⟨R, 2, none⟩)) ?_
            refine xaL (.slice (some ⟨g, 0, none⟩) L.length cf) (load1 56 _ ⟨R, 2, none⟩ _ rfl rfl (fun _ => by kernel_rfl) (M.get (mT _ mS) 2 _ rfl)) ?_; refine xpL (.int .i64 ((A.length : Nat) : Int)) ?_; refine xaL (.pointer (some ⟨g, A.length * 5, none⟩)) (idxF5 g _ _ A.length (some ⟨g, 0, none⟩) rfl hjl _ _ rfl rfl rfl _) ?_; refine xpL (.pointer (some ⟨g, A.length * 5 + 2, none⟩)) ?_
            refine xaL (.int .i64 ((t : Nat) : Int)) (load1 3 _ ⟨g, A.length * 5 + 2, none⟩ _ rfl rfl (fun _ => by kernel_rfl) (M.get mS (A.length * 5 + 2) _ (mid_get rfl))) ?_; refine xaL (.bool true) (leqI .i64 _ _ _ _ _ _ rfl rfl rfl true (decide_eq_true (by omega)) _) ?_; refine xpL (.bool true) ?_; refine xpL (.bool true) ?_; refine xT ?_
            have hsm : smay d.f c = false := by
              unfold smay
              show (decide (0 ≤ c ∧ c ≤ 281474976710655) && (match d.top with | some t => decide ((t : Int) < c) | none => true)) = false
              rw [ht]
              simp only
              rw [decide_eq_false (p := (t : Int) < c) (by omega), Bool.and_false]
            have hno := show Hid _ from (show ssn s id c now k = s by unfold ssn; rw [hI.lst, h5]; exact if_neg (by rw [hsm]; decide)); have HS := show Hid _ from (show DIn w2 s L (some ⟨g, 0, none⟩) cf ∧ Mm w0 ((R, drc s (some ⟨g, 0, none⟩) L.length cf) :: (obs (some ⟨g, 0, none⟩) ++ (gf L ++ l))) w2 ∧ Off (R :: (ob (some ⟨g, 0, none⟩) ++ (gf L).map Prod.fst)) w w2 from ⟨hI2, M_0.out, OF⟩)
            clear M M_0 hI hI2 lb_ N V_f A_o D_d OF h1 h2 h3 h4 h5 hks hSk hSc hSA hLm hdL hgN; go_wp2
            first | exact ⟨rfl, .tuple #[], by kernel_rfl, rfl, L, _, cf, by rw [hno.out]; exact HS.out⟩ | exact ⟨rfl, .tuple #[], by kernel_rfl, L, _, cf, rfl, by rw [hno.out]; exact HS.out⟩
          · have hts : d.top.isSome = true := by rw [ht]; rfl
            rw [hts] at M V_f
            have htg : d.top.getD 0 = t := by rw [ht]; rfl
            rw [htg] at M V_f
            replace M : Mm w0 ((g, fcs A ++ ([.int .i64 ((d.n : Nat) : Int), .int .i64 ((d.win : Nat) : Int), .int .i64 ((t : Nat) : Int), .bool true, .slice d.sr d.Z.length d.cr] ++ fcs B)) :: (R, [.int .i64 (dpo s), .int .i64 s.last, .slice (some ⟨g, 0, none⟩) L.length cf]) :: (obs d.sr ++ (gks d.Z ++ (gf (A ++ B) ++ l)))) w2 := M
            go_upto_region 1 with fail; refine wp_region_list ?_; refine xpL (.int .i64 ((A.length : Nat) : Int)) ?_; refine xaL (.bool false) (lssI .i64 _ _ _ _ _ _ rfl rfl rfl false (decide_eq_false (by omega)) _) ?_; refine xpL (.bool false) ?_; refine xpL (.int .i64 c) ?_; refine xaL (.bool false) (lssI .i64 _ _ _ _ _ _ rfl rfl rfl false (decide_eq_false (by omega)) _) ?_
            refine xpL (.bool false) ?_; refine xpL (.bool false) ?_; refine xpL (.int .i64 c) ?_; refine xaL (.bool false) (gtrI .i64 _ _ _ _ _ _ rfl rfl rfl false (decide_eq_false (by omega)) _) ?_; refine xpL (.bool false) ?_; refine xpL (.bool false) ?_; refine xpL (.pointer (some ⟨R, 0, none⟩)) ?_; refine xpL (.pointer (some ⟨R, 0, none⟩)) ?_; refine xpL (.pointer (some ⟨R, 2, none⟩)) ?_
            refine xaL (.slice (some ⟨g, 0, none⟩) L.length cf) (load1 56 _ ⟨R, 2, none⟩ _ rfl rfl (fun _ => by kernel_rfl) (M.get (mT _ mS) 2 _ rfl)) ?_; refine xpL (.int .i64 ((A.length : Nat) : Int)) ?_; refine xaL (.pointer (some ⟨g, A.length * 5, none⟩)) (idxF5 g _ _ A.length (some ⟨g, 0, none⟩) rfl hjl _ _ rfl rfl rfl _) ?_; refine xpL (.pointer (some ⟨g, A.length * 5 + 3, none⟩)) ?_
            refine xaL (.bool true) (load1 4 _ ⟨g, A.length * 5 + 3, none⟩ _ rfl rfl (fun _ => by kernel_rfl) (M.get mS (A.length * 5 + 3) _ (mid_get rfl))) ?_; refine xpL (.bool true) ?_; refine xpL (.int .i64 c) ?_; refine xpL (.pointer (some ⟨R, 0, none⟩)) ?_; refine xpL (.pointer (some ⟨R, 0, none⟩)) ?_; refine xpL (.pointer (some ⟨R, 2, none⟩)) ?_
            refine xaL (.slice (some ⟨g, 0, none⟩) L.length cf) (load1 56 _ ⟨R, 2, none⟩ _ rfl rfl (fun _ => by kernel_rfl) (M.get (mT _ mS) 2 _ rfl)) ?_; refine xpL (.int .i64 ((A.length : Nat) : Int)) ?_; refine xaL (.pointer (some ⟨g, A.length * 5, none⟩)) (idxF5 g _ _ A.length (some ⟨g, 0, none⟩) rfl hjl _ _ rfl rfl rfl _) ?_; refine xpL (.pointer (some ⟨g, A.length * 5 + 2, none⟩)) ?_
            refine xaL (.int .i64 ((t : Nat) : Int)) (load1 3 _ ⟨g, A.length * 5 + 2, none⟩ _ rfl rfl (fun _ => by kernel_rfl) (M.get mS (A.length * 5 + 2) _ (mid_get rfl))) ?_; refine xaL (.bool false) (leqI .i64 _ _ _ _ _ _ rfl rfl rfl false (decide_eq_false (by omega)) _) ?_; refine xpL (.bool false) ?_; refine xpL (.bool false) ?_; refine xT ?_
            have hsm : smay d.f c = true := by
              unfold smay
              show (decide (0 ≤ c ∧ c ≤ 281474976710655) && (match d.top with | some t => decide ((t : Int) < c) | none => true)) = true
              rw [ht]
              simp only
              rw [decide_eq_true (p := (t : Int) < c) (by omega), decide_eq_true (by omega)]
              rfl
            clear M_0; go_upto_region 2 with fail; refine wp_region_list ?_; refine xpL (.pointer (some ⟨R, 0, none⟩)) ?_; refine xpL (.pointer (some ⟨R, 0, none⟩)) ?_; refine xpL (.pointer (some ⟨R, 2, none⟩)) ?_; refine xaL (.slice (some ⟨g, 0, none⟩) L.length cf) (load1 56 _ ⟨R, 2, none⟩ _ rfl rfl (fun _ => by kernel_rfl) (M.get (mT _ mS) 2 _ rfl)) ?_
            refine xpL (.int .i64 ((A.length : Nat) : Int)) ?_; refine xaL (.pointer (some ⟨g, A.length * 5, none⟩)) (idxF5 g _ _ A.length (some ⟨g, 0, none⟩) rfl hjl _ _ rfl rfl rfl _) ?_; refine xpL (.pointer (some ⟨g, A.length * 5 + 3, none⟩)) ?_
            refine skipOpL rfl (storeAny (.bool true) g (A.length * 5 + 3) 4 _ _ rfl rfl rfl rfl rfl (M.isSome mS (A.length * 5 + 3) (by rw [List.length_append, List.length_append, fcs_len]; show _ < _ + (5 + _); omega)) (M.free mS (A.length * 5 + 3) (by rw [List.length_append, List.length_append, fcs_len]; show _ < _ + (5 + _); omega)) (by kernel_rfl)) ?_
            simp only [Act.put]; replace M := M.set (A.length * 5 + 3) (by rw [List.length_append, List.length_append, fcs_len]; show _ < _ + (5 + _); omega) (.bool true)
            rw [mid_set (Nat.le_of_ble_eq_true rfl)] at M
            replace V_f := ownsRow_put V_f (A.length * 5 + 3) (.bool true)
            rw [mid_set (Nat.le_of_ble_eq_true rfl)] at V_f
            have o1_ := ((Off.refl [g] w2).set (b := g) mS (A.length * 5 + 3) (.bool true)); replace A_o := A_o.off o1_ (fun b_ hb_ => by obtain rfl := xm1 hb_; exact hgA); replace D_d := D_d.off o1_ (fun b_ hb_ => by obtain rfl := xm1 hb_; unfold gd; rw [List.map_append, obs_fst]; intro hm_; rcases List.mem_append.1 hm_ with h_ | h_; exact hgs h_; exact hgk h_)
            replace OF := OF.trans (o1_.mono (fun b_ hb_ => by rw [xm1 hb_]; exact mT _ (List.mem_append_left _ mS))); replace N := N.offB o1_ (fun b_ hb_ hn_ => by obtain rfl := xm1 hb_; exact hgN hn_); clear o1_; generalize w2.setCell ⟨g, (A.length * 5 + 3), none⟩ (.bool true) = w3 at M V_f A_o D_d OF N ⊢
            replace M : Mm w0 ((g, fcs A ++ ([.int .i64 ((d.n : Nat) : Int), .int .i64 ((d.win : Nat) : Int), .int .i64 ((t : Nat) : Int), .bool true, .slice d.sr d.Z.length d.cr] ++ fcs B)) :: (R, [.int .i64 (dpo s), .int .i64 s.last, .slice (some ⟨g, 0, none⟩) L.length cf]) :: (obs d.sr ++ (gks d.Z ++ (gf (A ++ B) ++ l)))) w3 := M
            replace V_f : w3.ownsRow 0 66 5 (.slice (some ⟨g, 0, none⟩) L.length cf) L.length (fcs A ++ ([.int .i64 ((d.n : Nat) : Int), .int .i64 ((d.win : Nat) : Int), .int .i64 ((t : Nat) : Int), .bool true, .slice d.sr d.Z.length d.cr] ++ fcs B)) := V_f
            refine xT ?_; go_upto_region 3 with fail; refine wp_region_list ?_; refine xpL (.pointer (some ⟨R, 0, none⟩)) ?_; refine xpL (.pointer (some ⟨R, 0, none⟩)) ?_; refine xpL (.pointer (some ⟨R, 2, none⟩)) ?_; refine xaL (.slice (some ⟨g, 0, none⟩) L.length cf) (load1 56 _ ⟨R, 2, none⟩ _ rfl rfl (fun _ => by kernel_rfl) (M.get (mT _ mS) 2 _ rfl)) ?_
            refine xpL (.int .i64 ((A.length : Nat) : Int)) ?_; refine xpL (.int .i64 c) ?_; refine xaL (.pointer (some ⟨g, A.length * 5, none⟩)) (idxF5 g _ _ A.length (some ⟨g, 0, none⟩) rfl hjl _ _ rfl rfl rfl _) ?_; refine xpL (.pointer (some ⟨g, A.length * 5 + 2, none⟩)) ?_
            refine skipOpL rfl (storeAny (.int .i64 c) g (A.length * 5 + 2) 3 _ _ rfl rfl rfl rfl rfl (M.isSome mS (A.length * 5 + 2) (by rw [List.length_append, List.length_append, fcs_len]; show _ < _ + (5 + _); omega)) (M.free mS (A.length * 5 + 2) (by rw [List.length_append, List.length_append, fcs_len]; show _ < _ + (5 + _); omega)) (by kernel_rfl)) ?_
            simp only [Act.put]; replace M := M.set (A.length * 5 + 2) (by rw [List.length_append, List.length_append, fcs_len]; show _ < _ + (5 + _); omega) (.int .i64 c)
            rw [mid_set (Nat.le_of_ble_eq_true rfl)] at M
            replace V_f := ownsRow_put V_f (A.length * 5 + 2) (.int .i64 c)
            rw [mid_set (Nat.le_of_ble_eq_true rfl)] at V_f
            have o1_ := ((Off.refl [g] w3).set (b := g) mS (A.length * 5 + 2) (.int .i64 c)); replace A_o := A_o.off o1_ (fun b_ hb_ => by obtain rfl := xm1 hb_; exact hgA); replace D_d := D_d.off o1_ (fun b_ hb_ => by obtain rfl := xm1 hb_; unfold gd; rw [List.map_append, obs_fst]; intro hm_; rcases List.mem_append.1 hm_ with h_ | h_; exact hgs h_; exact hgk h_)
            replace OF := OF.trans (o1_.mono (fun b_ hb_ => by rw [xm1 hb_]; exact mT _ (List.mem_append_left _ mS))); replace N := N.offB o1_ (fun b_ hb_ hn_ => by obtain rfl := xm1 hb_; exact hgN hn_); clear o1_; generalize w3.setCell ⟨g, (A.length * 5 + 2), none⟩ (.int .i64 c) = w4 at M V_f A_o D_d OF N ⊢
            replace M : Mm w0 ((g, fcs A ++ ([.int .i64 ((d.n : Nat) : Int), .int .i64 ((d.win : Nat) : Int), .int .i64 c, .bool true, .slice d.sr d.Z.length d.cr] ++ fcs B)) :: (R, [.int .i64 (dpo s), .int .i64 s.last, .slice (some ⟨g, 0, none⟩) L.length cf]) :: (obs d.sr ++ (gks d.Z ++ (gf (A ++ B) ++ l)))) w4 := M
            replace V_f : w4.ownsRow 0 66 5 (.slice (some ⟨g, 0, none⟩) L.length cf) L.length (fcs A ++ ([.int .i64 ((d.n : Nat) : Int), .int .i64 ((d.win : Nat) : Int), .int .i64 c, .bool true, .slice d.sr d.Z.length d.cr] ++ fcs B)) := V_f
            refine xT ?_; go_upto_region 4 with fail; have hdr := (Below.refl w4.heap.size w4).drew; replace M := M.drew; replace V_f := ownsRow_bel V_f hdr; replace A_o := A_o.below hdr; replace D_d := D_d.below21 hdr; replace OF := OF.below hdr; replace N := N.below hdr; clear hdr
            refine wp_region_C (S := fun w' => Mm w0 [(g, fcs A ++ ([.int .i64 ((d.n : Nat) : Int), .int .i64 ((d.win : Nat) : Int), .int .i64 c, .bool true, .slice d.sr d.Z.length d.cr] ++ fcs B)), (R, [.int .i64 (dpo s), .int .i64 s.last, .slice (some ⟨g, 0, none⟩) L.length cf])] w') 24 (by kernel_rfl) (M.sub _ (List.cons_sublist_cons.2 (List.cons_sublist_cons.2 (List.nil_sublist _)))) ?_
            intro _; generalize w4.drew = w5 at M V_f A_o D_d OF N ⊢; refine readC (i := 0) (some 61) rfl (.pointer (some ⟨R, 0, none⟩)) rfl rfl (by kernel_rfl) rfl (fun _ M => (by kernel_rfl)) (by kernel_rfl) (by kernel_rfl) (by kernel_rfl) (by kernel_rfl) (fun _ _ _ h => h) (M.sub _ (List.cons_sublist_cons.2 (List.cons_sublist_cons.2 (List.nil_sublist _)))) ?_; simp only [aP, lI, l0, lS]
            refine readC (i := 1) (some 62) rfl (.pointer (some ⟨R, 0, none⟩)) rfl rfl (by kernel_rfl) rfl (fun _ M => (by kernel_rfl)) (by kernel_rfl) (by kernel_rfl) (by kernel_rfl) (by kernel_rfl) (fun _ _ _ h => h) (M.sub _ (List.cons_sublist_cons.2 (List.cons_sublist_cons.2 (List.nil_sublist _)))) ?_; simp only [aP, lI, l0, lS]
            refine readC (i := 2) (some 63) rfl (.pointer (some ⟨R, 2, none⟩)) rfl rfl (by kernel_rfl) rfl (fun _ M => (by kernel_rfl)) (by kernel_rfl) (by kernel_rfl) (by kernel_rfl) (by kernel_rfl) (fun _ _ _ h => h) (M.sub _ (List.cons_sublist_cons.2 (List.cons_sublist_cons.2 (List.nil_sublist _)))) ?_; simp only [aP, lI, l0, lS]
            refine readC (i := 3) (some 64) rfl (.slice (some ⟨g, 0, none⟩) L.length cf) rfl rfl (by kernel_rfl) rfl (fun _ M => load1 56 _ ⟨R, 2, none⟩ _ rfl rfl (fun _ => by kernel_rfl) (M.get (mT _ mS) 2 _ rfl)) (by kernel_rfl) (by kernel_rfl) (by kernel_rfl) (by kernel_rfl) (fun _ _ _ h => h) (M.sub _ (List.cons_sublist_cons.2 (List.cons_sublist_cons.2 (List.nil_sublist _)))) ?_
            simp only [aP, lI, l0, lS]; refine readC (i := 4) (some 65) rfl (.int .i64 ((A.length : Nat) : Int)) rfl rfl (by kernel_rfl) rfl (fun _ M => (by kernel_rfl)) (by kernel_rfl) (by kernel_rfl) (by kernel_rfl) (by kernel_rfl) (fun _ _ _ h => h) (M.sub _ (List.cons_sublist_cons.2 (List.cons_sublist_cons.2 (List.nil_sublist _)))) ?_; simp only [aP, lI, l0, lS]
            refine readC (i := 5) (some 66) rfl (.pointer (some ⟨R, 0, none⟩)) rfl rfl (by kernel_rfl) rfl (fun _ M => (by kernel_rfl)) (by kernel_rfl) (by kernel_rfl) (by kernel_rfl) (by kernel_rfl) (fun _ _ _ h => h) (M.sub _ (List.cons_sublist_cons.2 (List.cons_sublist_cons.2 (List.nil_sublist _)))) ?_; simp only [aP, lI, l0, lS]
            refine readC (i := 6) (some 67) rfl (.pointer (some ⟨R, 0, none⟩)) rfl rfl (by kernel_rfl) rfl (fun _ M => (by kernel_rfl)) (by kernel_rfl) (by kernel_rfl) (by kernel_rfl) (by kernel_rfl) (fun _ _ _ h => h) (M.sub _ (List.cons_sublist_cons.2 (List.cons_sublist_cons.2 (List.nil_sublist _)))) ?_; simp only [aP, lI, l0, lS]
            refine readC (i := 7) (some 68) rfl (.pointer (some ⟨R, 2, none⟩)) rfl rfl (by kernel_rfl) rfl (fun _ M => (by kernel_rfl)) (by kernel_rfl) (by kernel_rfl) (by kernel_rfl) (by kernel_rfl) (fun _ _ _ h => h) (M.sub _ (List.cons_sublist_cons.2 (List.cons_sublist_cons.2 (List.nil_sublist _)))) ?_; simp only [aP, lI, l0, lS]
            refine readC (i := 8) (some 69) rfl (.slice (some ⟨g, 0, none⟩) L.length cf) rfl rfl (by kernel_rfl) rfl (fun _ M => load1 56 _ ⟨R, 2, none⟩ _ rfl rfl (fun _ => by kernel_rfl) (M.get (mT _ mS) 2 _ rfl)) (by kernel_rfl) (by kernel_rfl) (by kernel_rfl) (by kernel_rfl) (fun _ _ _ h => h) (M.sub _ (List.cons_sublist_cons.2 (List.cons_sublist_cons.2 (List.nil_sublist _)))) ?_
            simp only [aP, lI, l0, lS]; refine readC (i := 9) (some 70) rfl (.int .i64 ((A.length : Nat) : Int)) rfl rfl (by kernel_rfl) rfl (fun _ M => (by kernel_rfl)) (by kernel_rfl) (by kernel_rfl) (by kernel_rfl) (by kernel_rfl) (fun _ _ _ h => h) (M.sub _ (List.cons_sublist_cons.2 (List.cons_sublist_cons.2 (List.nil_sublist _)))) ?_; simp only [aP, lI, l0, lS]
            refine readC (i := 10) (some 71) rfl (.pointer (some ⟨g, A.length * 5, none⟩)) rfl rfl (by kernel_rfl) rfl (fun _ M => idxF5 g _ _ A.length (some ⟨g, 0, none⟩) rfl hjl _ _ rfl rfl rfl _) (by kernel_rfl) (by kernel_rfl) (by kernel_rfl) (by kernel_rfl) (fun _ _ _ h => h) (M.sub _ (List.cons_sublist_cons.2 (List.cons_sublist_cons.2 (List.nil_sublist _)))) ?_; simp only [aP, lI, l0, lS]
            refine readC (i := 11) (some 72) rfl (.pointer (some ⟨g, A.length * 5 + 4, none⟩)) rfl rfl (by kernel_rfl) rfl (fun _ M => (by kernel_rfl)) (by kernel_rfl) (by kernel_rfl) (by kernel_rfl) (by kernel_rfl) (fun _ _ _ h => h) (M.sub _ (List.cons_sublist_cons.2 (List.cons_sublist_cons.2 (List.nil_sublist _)))) ?_; simp only [aP, lI, l0, lS]
            refine readC (i := 12) (some 73) rfl (.slice d.sr d.Z.length d.cr) rfl rfl (by kernel_rfl) rfl (fun _ M => load1 64 _ ⟨g, A.length * 5 + 4, none⟩ _ rfl rfl (fun _ => by kernel_rfl) (M.get mS (A.length * 5 + 4) _ (mid_get rfl))) (by kernel_rfl) (by kernel_rfl) (by kernel_rfl) (by kernel_rfl) (fun _ _ _ h => h) (M.sub _ (List.cons_sublist_cons.2 (List.cons_sublist_cons.2 (List.nil_sublist _)))) ?_
            simp only [aP, lI, l0, lS]; refine readC (i := 13) (some 74) rfl (.int .i64 c) rfl rfl (by kernel_rfl) rfl (fun _ M => (by kernel_rfl)) (by kernel_rfl) (by kernel_rfl) (by kernel_rfl) (by kernel_rfl) (fun _ _ _ h => h) (M.sub _ (List.cons_sublist_cons.2 (List.cons_sublist_cons.2 (List.nil_sublist _)))) ?_; simp only [aP, lI, l0, lS]
            refine readC (i := 14) (some 75) rfl (.int .i64 now) rfl rfl (by kernel_rfl) rfl (fun _ M => (by kernel_rfl)) (by kernel_rfl) (by kernel_rfl) (by kernel_rfl) (by kernel_rfl) (fun _ _ _ h => h) (M.sub _ (List.cons_sublist_cons.2 (List.cons_sublist_cons.2 (List.nil_sublist _)))) ?_; simp only [aP, lI, l0, lS]
            refine readC (i := 17) (some 78) rfl (.slice sk k.length ck) rfl rfl (by kernel_rfl) rfl (fun _ M => (by kernel_rfl)) (by kernel_rfl) (by kernel_rfl) (by kernel_rfl) (by kernel_rfl) (fun _ _ _ h => h) (M.sub _ (List.cons_sublist_cons.2 (List.cons_sublist_cons.2 (List.nil_sublist _)))) ?_; simp only [aP, lI, l0, lS]; have hgM := M.lt mS; have hRM := M.lt (mT _ mS)
            have hsl : ∀ b ∈ ob d.sr, b < w5.heap.size := fun b hb => (World.ownsRow.lt D_d.V b ((ob_own _ _ _ b).2 hb)).2
            refine pairC (i := 15) (j := 16) (di := 76) (dj := 77) (T := 38) (v1 := .int .i64 ((smom now : Nat) : Int)) 2 (by kernel_rfl) rfl rfl rfl rfl (by decide) (by decide) (by kernel_rfl) (by kernel_rfl) (fun _ => rfl) (fun _ => rfl) (fun _ => by kernel_rfl) (fun _ _ => by kernel_rfl) (fun w_ => dmom21_any now w_) (fun _ _ => by kernel_rfl) (fun w_ hb_ => ((M.call hb_).sub _ (List.cons_sublist_cons.2 (List.cons_sublist_cons.2 (List.nil_sublist _))))) ?_
            intro be wz5 hB V_0; simp only [aP, lI, l0, lS]
            have hcl : ∀ j u, (wrc k)[j]? = some u → ∃ ad, sk = some ad ∧ wz5.cell? (ad.add j) = some u := fun j u hu => by
              obtain ⟨_, _, e_, _, _, h_⟩ := N.below hB
              injection e_ with e1_
              subst e1_
              exact h_ j u hu
            obtain ⟨v2, wz8, hr, V2, hgr, hg2⟩ := run_append_opt (P := Try.prog) (ty := 28) Try.underlying28 manyW rfl (by decide) V_0 sk k.length ck (wrc k) (wrc_len k) hcl (wrc_one k) (by unfold maxLen; omega) (by omega) hB.size
            have hB3 := hB.grown hgr hB.size (fun b_ hb_ => (World.ownsRow.lt V_0 b_ hb_).1)
            obtain ⟨sq, cq, rfl, _, _⟩ := row_form16 V2
            rw [List.nil_append] at V2
            simp only [Nat.zero_add] at V2 hr
            have M_ := M.call hB3; refine onlyC (i := 18) (w' := wz8) (some 79) rfl (.slice sq k.length cq) (by kernel_rfl) rfl rfl (appendOp _ _ 28 _ _ _ rfl rfl rfl hr) (M_.sub _ (List.cons_sublist_cons.2 (List.cons_sublist_cons.2 (List.nil_sublist _)))) ?_; simp only [aP, lI, l0, lS]; have MQ := (M.newRow21 hB3 V2).perm (perm_mid2 (obs sq) _ _ _)
            have hqlo := fun b_ hb_ => (World.ownsRow.lt V2 b_ hb_).1; have N_q := RgW.ofW (NewW.ofOwn21 V2); clear hr hgr hg2 hcl V2 V_0 M_ M N hB; have M := MQ; clear MQ; replace V_f := ownsRow_bel V_f hB3; replace A_o := A_o.below hB3; replace D_d := D_d.below21 hB3; replace OF := OF.below hB3; clear hB3
            replace M : Mm w0 ((g, fcs A ++ ([.int .i64 ((d.n : Nat) : Int), .int .i64 ((d.win : Nat) : Int), .int .i64 c, .bool true, .slice d.sr d.Z.length d.cr] ++ fcs B)) :: (R, [.int .i64 (dpo s), .int .i64 s.last, .slice (some ⟨g, 0, none⟩) L.length cf]) :: (obs sq ++ (obs d.sr ++ (gks d.Z ++ (gf (A ++ B) ++ l))))) wz8 := M
            refine readC (i := 19) (some 80) rfl (.agg #[.int .i64 c, .int .i64 ((smom now : Nat) : Int), .slice sq k.length cq]) rfl rfl (by kernel_rfl) rfl (fun _ M => (by kernel_rfl)) (by kernel_rfl) (by kernel_rfl) (by kernel_rfl) (by kernel_rfl) (fun _ _ _ h => h) (M.sub _ (List.cons_sublist_cons.2 (List.cons_sublist_cons.2 (List.nil_sublist _)))) ?_; simp only [aP, lI, l0, lS]
            have hlb := (Below.refl wz8.heap.size wz8).alloc (xnR _) (.cells #[.int .i64 c, .int .i64 ((smom now : Nat) : Int), .slice sq k.length cq] 74); have T_b := World.ownsRow.cells (World.ownsRow_lit (base := wz8.heap.size) (e := 74) (size := 3) wz8 #[.int .i64 c, .int .i64 ((smom now : Nat) : Int), .slice sq k.length cq] 1 (xnR _) (by unfold maxLen; omega) rfl) (g := wz8.heap.size) rfl
            have M_ := M.call hlb; refine onlyC (i := 20) (w' := wz8.alloc (.cells #[.int .i64 c, .int .i64 ((smom now : Nat) : Int), .slice sq k.length cq] 74)) (some 81) rfl (.slice (some ⟨wz8.heap.size, 0, none⟩) 1 1) (by kernel_rfl) rfl rfl (by kernel_rfl) (M_.sub _ (List.cons_sublist_cons.2 (List.cons_sublist_cons.2 (List.nil_sublist _)))) ?_; simp only [aP, lI, l0, lS]
            replace V_f := ownsRow_bel V_f hlb; replace A_o := A_o.below hlb; replace D_d := D_d.below21 hlb; replace OF := OF.below hlb; replace N_q := N_q.below hlb; clear M hlb; have M := M_; clear M_; generalize wz8.alloc (.cells #[.int .i64 c, .int .i64 ((smom now : Nat) : Int), .slice sq k.length cq] 74) = w6 at M T_b V_f A_o D_d OF N_q ⊢; generalize wz8.heap.size = bz at T_b ⊢
            have hcn : ((c.toNat : Nat) : Int) = c := Int.toNat_of_nonneg (by omega)
            have T_c : ∀ j u, (rc1 ((⟨c.toNat, smom now, k⟩ : Rcd), sq, cq))[j]? = some u → w6.cell? ((⟨bz, 0, none⟩ : Addr).add j) = some u := fun j u hu => T_b j u (by
              have e_ : rc1 ((⟨c.toNat, smom now, k⟩ : Rcd), sq, cq) = [.int .i64 c, .int .i64 ((smom now : Nat) : Int), .slice sq k.length cq] := by unfold rc1; rw [show ((c.toNat : Nat) : Int) = c from hcn]
              rw [e_] at hu
              exact hu)
            obtain ⟨v2, wz9, hr, V2, hgr, hg2⟩ := run_append_OwnV (P := Try.prog) (ty := 64) Try.underlying64 manyD21 rfl (by decide) D_d.V ⟨bz, 0, none⟩ 1 1 (rc1 ((⟨c.toNat, smom now, k⟩ : Rcd), sq, cq)) rfl T_c (fun u hu => rcs_one [((⟨c.toNat, smom now, k⟩ : Rcd), sq, cq)] u (by rw [rcs_one1]; exact hu)) (by unfold maxLen; omega) (by omega) (Nat.zero_le _)
            have o1 : Off (ob d.sr) w6 wz9 := Off.grown (Off.refl (ob d.sr) _) hgr (fun b_ hb_ => .inl ((ob_own _ _ _ b_).1 hb_))
            obtain ⟨sv, cv, rfl, _, _⟩ := row_form16 V2
            rw [← rcs_one1, ← rcs_app] at V2
            have hsv : ∀ b ∈ ob sv, b ∈ ob d.sr ∨ b = w6.heap.size := fun b hb => by
              rcases hg2 b ((ob_own sv _ cv b).2 hb) with h | h
              · exact .inl ((ob_own _ _ _ b).1 h)
              · exact .inr h
            have hg8 := M.lt mS
            have hgv : g ∉ ob sv := fun h => by
              rcases hsv g h with h | h
              · exact hgs h
              · omega
            have hgq : g ∉ ob sq := fun h => by
              have h1_ := hqlo g ((ob_own sq k.length cq g).2 h)
              omega
            have hsq : ∀ b ∈ ob d.sr, b ∉ ob sq := fun b hb h => by
              have h1_ := hqlo b ((ob_own sq k.length cq b).2 h); have h2_ := hsl b hb
              omega
            have P2 : DOK wz9 (⟨d.n, d.win, some c.toNat, d.Z ++ [((⟨c.toNat, smom now, k⟩ : Rcd), sq, cq)], sv, cv⟩ : Dfl) := ⟨by
                show wz9.ownsRow 0 74 3 (.slice sv (d.Z ++ [((⟨c.toNat, smom now, k⟩ : Rcd), sq, cq)]).length cv) (d.Z ++ [((⟨c.toNat, smom now, k⟩ : Rcd), sq, cq)]).length (rcs (d.Z ++ [((⟨c.toNat, smom now, k⟩ : Rcd), sq, cq)]))
                rw [List.length_append]
                exact V2, fun q hq => by
                rcases List.mem_append.1 hq with h | h
                · exact (D_d.K.off o1 hSc) q h
                · obtain rfl := xm1 h
                  exact N_q.offB o1 fun b hb _ hm => hsq b hb hm⟩
            have hgP : g ∉ (gd (⟨d.n, d.win, some c.toNat, d.Z ++ [((⟨c.toNat, smom now, k⟩ : Rcd), sq, cq)], sv, cv⟩ : Dfl)).map Prod.fst := fun hm => by
              unfold gd at hm
              rw [List.map_append, obs_fst] at hm
              rcases List.mem_append.1 hm with h | h
              · exact hgv h
              · change g ∈ (gks (d.Z ++ [((⟨c.toNat, smom now, k⟩ : Rcd), sq, cq)])).map Prod.fst at h
                rw [gks_app, List.map_append] at h
                rcases List.mem_append.1 h with h | h
                · exact hgk h
                · rw [gks_cons, show gks ([] : List (Rcd × Option Addr × Nat)) = [] from rfl, List.append_nil, obs_fst] at h
                  exact hgq h
            replace OF := OF.trans (o1.mono hLm)
            replace V_f := ownsRow_away V_f o1 (fun b hb hm => by obtain rfl : b = g := by simpa [ob] using hm
                                                                  exact hgs hb)
            replace A_o := A_o.off o1 hSA; have MP := M.perm (perm_snt (obs sq) (obs d.sr) (gks d.Z ++ (gf (A ++ B) ++ l)) _ _); have M9 := (Mm.rowApp21 MP hgr V2 hg2).perm (perm_mid2 (obs sv) _ _ _)
            refine onlyC (i := 21) (w' := wz9) (some 82) rfl _ (by kernel_rfl) rfl rfl (appendOp _ _ 64 _ _ _ rfl rfl rfl hr) (M9.sub _ (List.cons_sublist_cons.2 (List.cons_sublist_cons.2 (List.nil_sublist _)))) ?_; simp only [aP, lI, l0, lS]; clear hr hgr hg2 M MP T_b T_c D_d N_q o1 V2 hqlo hsv; have M := M9; clear M9
            replace M : Mm w0 ((g, fcs A ++ ([.int .i64 ((d.n : Nat) : Int), .int .i64 ((d.win : Nat) : Int), .int .i64 c, .bool true, .slice d.sr d.Z.length d.cr] ++ fcs B)) :: (R, [.int .i64 (dpo s), .int .i64 s.last, .slice (some ⟨g, 0, none⟩) L.length cf]) :: (obs sv ++ (obs sq ++ (gks d.Z ++ (gf (A ++ B) ++ l))))) wz9 := M
            refine xqC 22 83 rfl (.pointer (some ⟨g, A.length * 5, none⟩)) (fun _ => idxF5 g _ _ A.length (some ⟨g, 0, none⟩) rfl hjl _ _ rfl rfl rfl _) (M.sub _ (List.cons_sublist_cons.2 (List.cons_sublist_cons.2 (List.nil_sublist _)))) ?_
            refine readC (i := 23) (some 84) rfl (.pointer (some ⟨g, A.length * 5 + 4, none⟩)) rfl rfl (by kernel_rfl) rfl (fun _ M => (by kernel_rfl)) (by kernel_rfl) (by kernel_rfl) (by kernel_rfl) (by kernel_rfl) (fun _ _ _ h => h) (M.sub _ (List.cons_sublist_cons.2 (List.cons_sublist_cons.2 (List.nil_sublist _)))) ?_; simp only [aP, lI, l0, lS]
            refine skipC (S2 := fun _ => True) none rfl (by kernel_rfl) rfl rfl (storeAny (.slice sv (d.Z.length + 1) cv) g (A.length * 5 + 4) 64 _ _ rfl rfl rfl rfl rfl (M.isSome mS (A.length * 5 + 4) (by rw [List.length_append, List.length_append, fcs_len]; show _ < _ + (5 + _); omega)) (M.free mS (A.length * 5 + 4) (by rw [List.length_append, List.length_append, fcs_len]; show _ < _ + (5 + _); omega)) (by kernel_rfl)) (by kernel_rfl) ?_
            simp only [Act.put]; replace M := M.set (A.length * 5 + 4) (by rw [List.length_append, List.length_append, fcs_len]; show _ < _ + (5 + _); omega) (.slice sv (d.Z.length + 1) cv)
            rw [mid_set (Nat.le_of_ble_eq_true rfl)] at M
            replace V_f := ownsRow_put V_f (A.length * 5 + 4) (.slice sv (d.Z.length + 1) cv)
            rw [mid_set (Nat.le_of_ble_eq_true rfl)] at V_f
            have o1_ := ((Off.refl [g] wz9).set (b := g) mS (A.length * 5 + 4) (.slice sv (d.Z.length + 1) cv)); replace A_o := A_o.off o1_ (fun b_ hb_ => by obtain rfl := xm1 hb_; exact hgA); replace P2 := P2.off o1_ (fun b_ hb_ => by obtain rfl := xm1 hb_; exact hgP); replace OF := OF.trans (o1_.mono (fun b_ hb_ => by rw [xm1 hb_]; exact mT _ (List.mem_append_left _ mS))); clear o1_
            generalize wz9.setCell ⟨g, (A.length * 5 + 4), none⟩ (.slice sv (d.Z.length + 1) cv) = w7 at M V_f A_o P2 OF ⊢
            replace M : Mm w0 ((g, fcs A ++ ([.int .i64 ((d.n : Nat) : Int), .int .i64 ((d.win : Nat) : Int), .int .i64 c, .bool true, .slice sv (d.Z.length + 1) cv] ++ fcs B)) :: (R, [.int .i64 (dpo s), .int .i64 s.last, .slice (some ⟨g, 0, none⟩) L.length cf]) :: (obs sv ++ (obs sq ++ (gks d.Z ++ (gf (A ++ B) ++ l))))) w7 := M
            replace V_f : w7.ownsRow 0 66 5 (.slice (some ⟨g, 0, none⟩) L.length cf) L.length (fcs A ++ ([.int .i64 ((d.n : Nat) : Int), .int .i64 ((d.win : Nat) : Int), .int .i64 c, .bool true, .slice sv (d.Z.length + 1) cv] ++ fcs B)) := V_f
            refine wpAnyH_done (by kernel_rfl) ?_ _
            have e1 : fc1 (⟨d.n, d.win, some c.toNat, d.Z ++ [((⟨c.toNat, smom now, k⟩ : Rcd), sq, cq)], sv, cv⟩ : Dfl) = [.int .i64 ((d.n : Nat) : Int), .int .i64 ((d.win : Nat) : Int), .int .i64 c, .bool true, .slice sv (d.Z.length + 1) cv] := by
              show ([_, _, .int .i64 ((c.toNat : Nat) : Int), _, .slice sv (d.Z ++ [((⟨c.toNat, smom now, k⟩ : Rcd), sq, cq)]).length cv] : List Value) = _
              rw [hcn, List.length_append]
              rfl
            rw [← e1] at V_f
            have M7 := M.perm (List.Perm.cons _ (List.Perm.cons _ (List.Perm.append_left (obs sv) (sw21 (obs sq) (gks d.Z) (gf (A ++ B) ++ l)))))
            have M8 : Mm w0 ((g, fcs A ++ ([.int .i64 ((d.n : Nat) : Int), .int .i64 ((d.win : Nat) : Int), .int .i64 c, .bool true, .slice sv (d.Z.length + 1) cv] ++ fcs B)) :: (R, [.int .i64 (dpo s), .int .i64 s.last, .slice (some ⟨g, 0, none⟩) L.length cf]) :: (obs (⟨d.n, d.win, some c.toNat, d.Z ++ [((⟨c.toNat, smom now, k⟩ : Rcd), sq, cq)], sv, cv⟩ : Dfl).sr ++ (gks (⟨d.n, d.win, some c.toNat, d.Z ++ [((⟨c.toNat, smom now, k⟩ : Rcd), sq, cq)], sv, cv⟩ : Dfl).Z ++ (gf (A ++ B) ++ l)))) w7 := by
              show Mm w0 ((g, fcs A ++ ([.int .i64 ((d.n : Nat) : Int), .int .i64 ((d.win : Nat) : Int), .int .i64 c, .bool true, .slice sv (d.Z.length + 1) cv] ++ fcs B)) :: (R, [.int .i64 (dpo s), .int .i64 s.last, .slice (some ⟨g, 0, none⟩) L.length cf]) :: (obs sv ++ (gks (d.Z ++ [((⟨c.toNat, smom now, k⟩ : Rcd), sq, cq)]) ++ (gf (A ++ B) ++ l)))) w7
              rw [gks_app, gks_cons, show gks ([] : List (Rcd × Option Addr × Nat)) = [] from rfl, List.append_nil, List.append_assoc]
              exact M7
            obtain ⟨hc1, hc2⟩ := dfin21 (R := R) hI h1 h2 h3 (d' := (⟨d.n, d.win, some c.toNat, d.Z ++ [((⟨c.toNat, smom now, k⟩ : Rcd), sq, cq)], sv, cv⟩ : Dfl)) rfl V_f P2 A_o M8
            have hLn : (A ++ (⟨d.n, d.win, some c.toNat, d.Z ++ [((⟨c.toNat, smom now, k⟩ : Rcd), sq, cq)], sv, cv⟩ : Dfl) :: B).length = L.length := by rw [h1]; simp
            have hno := show Hid _ from (show ssn s id c now k = { s with L := sput s.L id (⟨d.n, d.win, some c.toNat, d.Z ++ [((⟨c.toNat, smom now, k⟩ : Rcd), sq, cq)], sv, cv⟩ : Dfl).f } by
              unfold ssn
              rw [hI.lst, h5]
              show (if smay d.f c = true then _ else _) = _
              rw [if_pos hsm]
              unfold Dfl.f
              simp only [List.map_append, List.map_cons, List.map_nil])
            have HS := show Hid _ from (And.intro hc1 (And.intro (show Mm w0 ((R, drc s (some ⟨g, 0, none⟩) (A ++ (⟨d.n, d.win, some c.toNat, d.Z ++ [((⟨c.toNat, smom now, k⟩ : Rcd), sq, cq)], sv, cv⟩ : Dfl) :: B).length cf) :: _) w7 by rw [hLn]; exact hc2) OF)); clear M M7 M8 V_f A_o P2 OF hc1 hc2 hI hI2 h1 h2 h3 h4 h5 hks hSk hSc hSA hLm hdL hgN hsl e1; go_wp2
            rw [hno.out]
            first | exact ⟨rfl, .tuple #[], by kernel_rfl, rfl, _, _, _, HS.out⟩ | exact ⟨rfl, .tuple #[], by kernel_rfl, _, _, _, rfl, HS.out⟩
        | none =>
          have hts : d.top.isSome = false := by rw [ht]; rfl
          rw [hts] at M V_f
          replace M : Mm w0 ((g, fcs A ++ ([.int .i64 ((d.n : Nat) : Int), .int .i64 ((d.win : Nat) : Int), .int .i64 (((d.top.getD 0) : Nat) : Int), .bool false, .slice d.sr d.Z.length d.cr] ++ fcs B)) :: (R, [.int .i64 (dpo s), .int .i64 s.last, .slice (some ⟨g, 0, none⟩) L.length cf]) :: (obs d.sr ++ (gks d.Z ++ (gf (A ++ B) ++ l)))) w2 := M
          go_upto_region 1 with fail; refine wp_region_list ?_; refine xpL (.int .i64 ((A.length : Nat) : Int)) ?_; refine xaL (.bool false) (lssI .i64 _ _ _ _ _ _ rfl rfl rfl false (decide_eq_false (by omega)) _) ?_; refine xpL (.bool false) ?_; refine xpL (.int .i64 c) ?_; refine xaL (.bool false) (lssI .i64 _ _ _ _ _ _ rfl rfl rfl false (decide_eq_false (by omega)) _) ?_
          refine xpL (.bool false) ?_; refine xpL (.bool false) ?_; refine xpL (.int .i64 c) ?_; refine xaL (.bool false) (gtrI .i64 _ _ _ _ _ _ rfl rfl rfl false (decide_eq_false (by omega)) _) ?_; refine xpL (.bool false) ?_; refine xpL (.bool false) ?_; refine xpL (.pointer (some ⟨R, 0, none⟩)) ?_; refine xpL (.pointer (some ⟨R, 0, none⟩)) ?_; refine xpL (.pointer (some ⟨R, 2, none⟩)) ?_
          refine xaL (.slice (some ⟨g, 0, none⟩) L.length cf) (load1 56 _ ⟨R, 2, none⟩ _ rfl rfl (fun _ => by kernel_rfl) (M.get (mT _ mS) 2 _ rfl)) ?_; refine xpL (.int .i64 ((A.length : Nat) : Int)) ?_; refine xaL (.pointer (some ⟨g, A.length * 5, none⟩)) (idxF5 g _ _ A.length (some ⟨g, 0, none⟩) rfl hjl _ _ rfl rfl rfl _) ?_; refine xpL (.pointer (some ⟨g, A.length * 5 + 3, none⟩)) ?_
          refine xaL (.bool false) (load1 4 _ ⟨g, A.length * 5 + 3, none⟩ _ rfl rfl (fun _ => by kernel_rfl) (M.get mS (A.length * 5 + 3) _ (mid_get rfl))) ?_; refine xpL (.bool false) ?_
          with_reducible refine skipL ?_ ?_
          · rfl
          simp only [aP, lI, l0, lS]
          with_reducible refine skipL ?_ ?_
          · rfl
          simp only [aP, lI, l0, lS]
          with_reducible refine skipL ?_ ?_
          · rfl
          simp only [aP, lI, l0, lS]
          with_reducible refine skipL ?_ ?_
          · rfl
          simp only [aP, lI, l0, lS]
          with_reducible refine skipL ?_ ?_
          · rfl
          simp only [aP, lI, l0, lS]
          with_reducible refine skipL ?_ ?_
          · rfl
          simp only [aP, lI, l0, lS]
          with_reducible refine skipL ?_ ?_
          · rfl
          simp only [aP, lI, l0, lS]
          with_reducible refine skipL ?_ ?_
          · rfl
          simp only [aP, lI, l0, lS]
          with_reducible refine skipL ?_ ?_
          · rfl
          simp only [aP, lI, l0, lS]
          with_reducible refine skipL ?_ ?_
          · rfl
          simp only [aP, lI, l0, lS]; refine xpL (.bool false) ?_; refine xpL (.bool false) ?_; refine xT ?_
          have hsm : smay d.f c = true := by
            unfold smay
            show (decide (0 ≤ c ∧ c ≤ 281474976710655) && (match d.top with | some t => decide ((t : Int) < c) | none => true)) = true
            rw [ht]
            simp only
            rw [decide_eq_true (by omega)]
            rfl
          clear M_0; go_upto_region 2 with fail; refine wp_region_list ?_; refine xpL (.pointer (some ⟨R, 0, none⟩)) ?_; refine xpL (.pointer (some ⟨R, 0, none⟩)) ?_; refine xpL (.pointer (some ⟨R, 2, none⟩)) ?_; refine xaL (.slice (some ⟨g, 0, none⟩) L.length cf) (load1 56 _ ⟨R, 2, none⟩ _ rfl rfl (fun _ => by kernel_rfl) (M.get (mT _ mS) 2 _ rfl)) ?_
          refine xpL (.int .i64 ((A.length : Nat) : Int)) ?_; refine xaL (.pointer (some ⟨g, A.length * 5, none⟩)) (idxF5 g _ _ A.length (some ⟨g, 0, none⟩) rfl hjl _ _ rfl rfl rfl _) ?_; refine xpL (.pointer (some ⟨g, A.length * 5 + 3, none⟩)) ?_
          refine skipOpL rfl (storeAny (.bool true) g (A.length * 5 + 3) 4 _ _ rfl rfl rfl rfl rfl (M.isSome mS (A.length * 5 + 3) (by rw [List.length_append, List.length_append, fcs_len]; show _ < _ + (5 + _); omega)) (M.free mS (A.length * 5 + 3) (by rw [List.length_append, List.length_append, fcs_len]; show _ < _ + (5 + _); omega)) (by kernel_rfl)) ?_
          simp only [Act.put]; replace M := M.set (A.length * 5 + 3) (by rw [List.length_append, List.length_append, fcs_len]; show _ < _ + (5 + _); omega) (.bool true)
          rw [mid_set (Nat.le_of_ble_eq_true rfl)] at M
          replace V_f := ownsRow_put V_f (A.length * 5 + 3) (.bool true)
          rw [mid_set (Nat.le_of_ble_eq_true rfl)] at V_f
          have o1_ := ((Off.refl [g] w2).set (b := g) mS (A.length * 5 + 3) (.bool true)); replace A_o := A_o.off o1_ (fun b_ hb_ => by obtain rfl := xm1 hb_; exact hgA); replace D_d := D_d.off o1_ (fun b_ hb_ => by obtain rfl := xm1 hb_; unfold gd; rw [List.map_append, obs_fst]; intro hm_; rcases List.mem_append.1 hm_ with h_ | h_; exact hgs h_; exact hgk h_)
          replace OF := OF.trans (o1_.mono (fun b_ hb_ => by rw [xm1 hb_]; exact mT _ (List.mem_append_left _ mS))); replace N := N.offB o1_ (fun b_ hb_ hn_ => by obtain rfl := xm1 hb_; exact hgN hn_); clear o1_; generalize w2.setCell ⟨g, (A.length * 5 + 3), none⟩ (.bool true) = w8 at M V_f A_o D_d OF N ⊢
          replace M : Mm w0 ((g, fcs A ++ ([.int .i64 ((d.n : Nat) : Int), .int .i64 ((d.win : Nat) : Int), .int .i64 (((d.top.getD 0) : Nat) : Int), .bool true, .slice d.sr d.Z.length d.cr] ++ fcs B)) :: (R, [.int .i64 (dpo s), .int .i64 s.last, .slice (some ⟨g, 0, none⟩) L.length cf]) :: (obs d.sr ++ (gks d.Z ++ (gf (A ++ B) ++ l)))) w8 := M
          replace V_f : w8.ownsRow 0 66 5 (.slice (some ⟨g, 0, none⟩) L.length cf) L.length (fcs A ++ ([.int .i64 ((d.n : Nat) : Int), .int .i64 ((d.win : Nat) : Int), .int .i64 (((d.top.getD 0) : Nat) : Int), .bool true, .slice d.sr d.Z.length d.cr] ++ fcs B)) := V_f
          refine xT ?_; go_upto_region 3 with fail; refine wp_region_list ?_; refine xpL (.pointer (some ⟨R, 0, none⟩)) ?_; refine xpL (.pointer (some ⟨R, 0, none⟩)) ?_; refine xpL (.pointer (some ⟨R, 2, none⟩)) ?_; refine xaL (.slice (some ⟨g, 0, none⟩) L.length cf) (load1 56 _ ⟨R, 2, none⟩ _ rfl rfl (fun _ => by kernel_rfl) (M.get (mT _ mS) 2 _ rfl)) ?_
          refine xpL (.int .i64 ((A.length : Nat) : Int)) ?_; refine xpL (.int .i64 c) ?_; refine xaL (.pointer (some ⟨g, A.length * 5, none⟩)) (idxF5 g _ _ A.length (some ⟨g, 0, none⟩) rfl hjl _ _ rfl rfl rfl _) ?_; refine xpL (.pointer (some ⟨g, A.length * 5 + 2, none⟩)) ?_
          refine skipOpL rfl (storeAny (.int .i64 c) g (A.length * 5 + 2) 3 _ _ rfl rfl rfl rfl rfl (M.isSome mS (A.length * 5 + 2) (by rw [List.length_append, List.length_append, fcs_len]; show _ < _ + (5 + _); omega)) (M.free mS (A.length * 5 + 2) (by rw [List.length_append, List.length_append, fcs_len]; show _ < _ + (5 + _); omega)) (by kernel_rfl)) ?_
          simp only [Act.put]; replace M := M.set (A.length * 5 + 2) (by rw [List.length_append, List.length_append, fcs_len]; show _ < _ + (5 + _); omega) (.int .i64 c)
          rw [mid_set (Nat.le_of_ble_eq_true rfl)] at M
          replace V_f := ownsRow_put V_f (A.length * 5 + 2) (.int .i64 c)
          rw [mid_set (Nat.le_of_ble_eq_true rfl)] at V_f
          have o1_ := ((Off.refl [g] w8).set (b := g) mS (A.length * 5 + 2) (.int .i64 c)); replace A_o := A_o.off o1_ (fun b_ hb_ => by obtain rfl := xm1 hb_; exact hgA); replace D_d := D_d.off o1_ (fun b_ hb_ => by obtain rfl := xm1 hb_; unfold gd; rw [List.map_append, obs_fst]; intro hm_; rcases List.mem_append.1 hm_ with h_ | h_; exact hgs h_; exact hgk h_)
          replace OF := OF.trans (o1_.mono (fun b_ hb_ => by rw [xm1 hb_]; exact mT _ (List.mem_append_left _ mS))); replace N := N.offB o1_ (fun b_ hb_ hn_ => by obtain rfl := xm1 hb_; exact hgN hn_); clear o1_; generalize w8.setCell ⟨g, (A.length * 5 + 2), none⟩ (.int .i64 c) = w9 at M V_f A_o D_d OF N ⊢
          replace M : Mm w0 ((g, fcs A ++ ([.int .i64 ((d.n : Nat) : Int), .int .i64 ((d.win : Nat) : Int), .int .i64 c, .bool true, .slice d.sr d.Z.length d.cr] ++ fcs B)) :: (R, [.int .i64 (dpo s), .int .i64 s.last, .slice (some ⟨g, 0, none⟩) L.length cf]) :: (obs d.sr ++ (gks d.Z ++ (gf (A ++ B) ++ l)))) w9 := M
          replace V_f : w9.ownsRow 0 66 5 (.slice (some ⟨g, 0, none⟩) L.length cf) L.length (fcs A ++ ([.int .i64 ((d.n : Nat) : Int), .int .i64 ((d.win : Nat) : Int), .int .i64 c, .bool true, .slice d.sr d.Z.length d.cr] ++ fcs B)) := V_f
          refine xT ?_; go_upto_region 4 with fail; have hdr := (Below.refl w9.heap.size w9).drew; replace M := M.drew; replace V_f := ownsRow_bel V_f hdr; replace A_o := A_o.below hdr; replace D_d := D_d.below21 hdr; replace OF := OF.below hdr; replace N := N.below hdr; clear hdr
          refine wp_region_C (S := fun w' => Mm w0 [(g, fcs A ++ ([.int .i64 ((d.n : Nat) : Int), .int .i64 ((d.win : Nat) : Int), .int .i64 c, .bool true, .slice d.sr d.Z.length d.cr] ++ fcs B)), (R, [.int .i64 (dpo s), .int .i64 s.last, .slice (some ⟨g, 0, none⟩) L.length cf])] w') 24 (by kernel_rfl) (M.sub _ (List.cons_sublist_cons.2 (List.cons_sublist_cons.2 (List.nil_sublist _)))) ?_; intro _
          generalize w9.drew = w10 at M V_f A_o D_d OF N ⊢; refine readC (i := 0) (some 61) rfl (.pointer (some ⟨R, 0, none⟩)) rfl rfl (by kernel_rfl) rfl (fun _ M => (by kernel_rfl)) (by kernel_rfl) (by kernel_rfl) (by kernel_rfl) (by kernel_rfl) (fun _ _ _ h => h) (M.sub _ (List.cons_sublist_cons.2 (List.cons_sublist_cons.2 (List.nil_sublist _)))) ?_; simp only [aP, lI, l0, lS]
          refine readC (i := 1) (some 62) rfl (.pointer (some ⟨R, 0, none⟩)) rfl rfl (by kernel_rfl) rfl (fun _ M => (by kernel_rfl)) (by kernel_rfl) (by kernel_rfl) (by kernel_rfl) (by kernel_rfl) (fun _ _ _ h => h) (M.sub _ (List.cons_sublist_cons.2 (List.cons_sublist_cons.2 (List.nil_sublist _)))) ?_; simp only [aP, lI, l0, lS]
          refine readC (i := 2) (some 63) rfl (.pointer (some ⟨R, 2, none⟩)) rfl rfl (by kernel_rfl) rfl (fun _ M => (by kernel_rfl)) (by kernel_rfl) (by kernel_rfl) (by kernel_rfl) (by kernel_rfl) (fun _ _ _ h => h) (M.sub _ (List.cons_sublist_cons.2 (List.cons_sublist_cons.2 (List.nil_sublist _)))) ?_; simp only [aP, lI, l0, lS]
          refine readC (i := 3) (some 64) rfl (.slice (some ⟨g, 0, none⟩) L.length cf) rfl rfl (by kernel_rfl) rfl (fun _ M => load1 56 _ ⟨R, 2, none⟩ _ rfl rfl (fun _ => by kernel_rfl) (M.get (mT _ mS) 2 _ rfl)) (by kernel_rfl) (by kernel_rfl) (by kernel_rfl) (by kernel_rfl) (fun _ _ _ h => h) (M.sub _ (List.cons_sublist_cons.2 (List.cons_sublist_cons.2 (List.nil_sublist _)))) ?_
          simp only [aP, lI, l0, lS]; refine readC (i := 4) (some 65) rfl (.int .i64 ((A.length : Nat) : Int)) rfl rfl (by kernel_rfl) rfl (fun _ M => (by kernel_rfl)) (by kernel_rfl) (by kernel_rfl) (by kernel_rfl) (by kernel_rfl) (fun _ _ _ h => h) (M.sub _ (List.cons_sublist_cons.2 (List.cons_sublist_cons.2 (List.nil_sublist _)))) ?_; simp only [aP, lI, l0, lS]
          refine readC (i := 5) (some 66) rfl (.pointer (some ⟨R, 0, none⟩)) rfl rfl (by kernel_rfl) rfl (fun _ M => (by kernel_rfl)) (by kernel_rfl) (by kernel_rfl) (by kernel_rfl) (by kernel_rfl) (fun _ _ _ h => h) (M.sub _ (List.cons_sublist_cons.2 (List.cons_sublist_cons.2 (List.nil_sublist _)))) ?_; simp only [aP, lI, l0, lS]
          refine readC (i := 6) (some 67) rfl (.pointer (some ⟨R, 0, none⟩)) rfl rfl (by kernel_rfl) rfl (fun _ M => (by kernel_rfl)) (by kernel_rfl) (by kernel_rfl) (by kernel_rfl) (by kernel_rfl) (fun _ _ _ h => h) (M.sub _ (List.cons_sublist_cons.2 (List.cons_sublist_cons.2 (List.nil_sublist _)))) ?_; simp only [aP, lI, l0, lS]
          refine readC (i := 7) (some 68) rfl (.pointer (some ⟨R, 2, none⟩)) rfl rfl (by kernel_rfl) rfl (fun _ M => (by kernel_rfl)) (by kernel_rfl) (by kernel_rfl) (by kernel_rfl) (by kernel_rfl) (fun _ _ _ h => h) (M.sub _ (List.cons_sublist_cons.2 (List.cons_sublist_cons.2 (List.nil_sublist _)))) ?_; simp only [aP, lI, l0, lS]
          refine readC (i := 8) (some 69) rfl (.slice (some ⟨g, 0, none⟩) L.length cf) rfl rfl (by kernel_rfl) rfl (fun _ M => load1 56 _ ⟨R, 2, none⟩ _ rfl rfl (fun _ => by kernel_rfl) (M.get (mT _ mS) 2 _ rfl)) (by kernel_rfl) (by kernel_rfl) (by kernel_rfl) (by kernel_rfl) (fun _ _ _ h => h) (M.sub _ (List.cons_sublist_cons.2 (List.cons_sublist_cons.2 (List.nil_sublist _)))) ?_
          simp only [aP, lI, l0, lS]; refine readC (i := 9) (some 70) rfl (.int .i64 ((A.length : Nat) : Int)) rfl rfl (by kernel_rfl) rfl (fun _ M => (by kernel_rfl)) (by kernel_rfl) (by kernel_rfl) (by kernel_rfl) (by kernel_rfl) (fun _ _ _ h => h) (M.sub _ (List.cons_sublist_cons.2 (List.cons_sublist_cons.2 (List.nil_sublist _)))) ?_; simp only [aP, lI, l0, lS]
          refine readC (i := 10) (some 71) rfl (.pointer (some ⟨g, A.length * 5, none⟩)) rfl rfl (by kernel_rfl) rfl (fun _ M => idxF5 g _ _ A.length (some ⟨g, 0, none⟩) rfl hjl _ _ rfl rfl rfl _) (by kernel_rfl) (by kernel_rfl) (by kernel_rfl) (by kernel_rfl) (fun _ _ _ h => h) (M.sub _ (List.cons_sublist_cons.2 (List.cons_sublist_cons.2 (List.nil_sublist _)))) ?_; simp only [aP, lI, l0, lS]
          refine readC (i := 11) (some 72) rfl (.pointer (some ⟨g, A.length * 5 + 4, none⟩)) rfl rfl (by kernel_rfl) rfl (fun _ M => (by kernel_rfl)) (by kernel_rfl) (by kernel_rfl) (by kernel_rfl) (by kernel_rfl) (fun _ _ _ h => h) (M.sub _ (List.cons_sublist_cons.2 (List.cons_sublist_cons.2 (List.nil_sublist _)))) ?_; simp only [aP, lI, l0, lS]
          refine readC (i := 12) (some 73) rfl (.slice d.sr d.Z.length d.cr) rfl rfl (by kernel_rfl) rfl (fun _ M => load1 64 _ ⟨g, A.length * 5 + 4, none⟩ _ rfl rfl (fun _ => by kernel_rfl) (M.get mS (A.length * 5 + 4) _ (mid_get rfl))) (by kernel_rfl) (by kernel_rfl) (by kernel_rfl) (by kernel_rfl) (fun _ _ _ h => h) (M.sub _ (List.cons_sublist_cons.2 (List.cons_sublist_cons.2 (List.nil_sublist _)))) ?_
          simp only [aP, lI, l0, lS]; refine readC (i := 13) (some 74) rfl (.int .i64 c) rfl rfl (by kernel_rfl) rfl (fun _ M => (by kernel_rfl)) (by kernel_rfl) (by kernel_rfl) (by kernel_rfl) (by kernel_rfl) (fun _ _ _ h => h) (M.sub _ (List.cons_sublist_cons.2 (List.cons_sublist_cons.2 (List.nil_sublist _)))) ?_; simp only [aP, lI, l0, lS]
          refine readC (i := 14) (some 75) rfl (.int .i64 now) rfl rfl (by kernel_rfl) rfl (fun _ M => (by kernel_rfl)) (by kernel_rfl) (by kernel_rfl) (by kernel_rfl) (by kernel_rfl) (fun _ _ _ h => h) (M.sub _ (List.cons_sublist_cons.2 (List.cons_sublist_cons.2 (List.nil_sublist _)))) ?_; simp only [aP, lI, l0, lS]
          refine readC (i := 17) (some 78) rfl (.slice sk k.length ck) rfl rfl (by kernel_rfl) rfl (fun _ M => (by kernel_rfl)) (by kernel_rfl) (by kernel_rfl) (by kernel_rfl) (by kernel_rfl) (fun _ _ _ h => h) (M.sub _ (List.cons_sublist_cons.2 (List.cons_sublist_cons.2 (List.nil_sublist _)))) ?_; simp only [aP, lI, l0, lS]; have hgM := M.lt mS; have hRM := M.lt (mT _ mS)
          have hsl : ∀ b ∈ ob d.sr, b < w10.heap.size := fun b hb => (World.ownsRow.lt D_d.V b ((ob_own _ _ _ b).2 hb)).2
          refine pairC (i := 15) (j := 16) (di := 76) (dj := 77) (T := 38) (v1 := .int .i64 ((smom now : Nat) : Int)) 2 (by kernel_rfl) rfl rfl rfl rfl (by decide) (by decide) (by kernel_rfl) (by kernel_rfl) (fun _ => rfl) (fun _ => rfl) (fun _ => by kernel_rfl) (fun _ _ => by kernel_rfl) (fun w_ => dmom21_any now w_) (fun _ _ => by kernel_rfl) (fun w_ hb_ => ((M.call hb_).sub _ (List.cons_sublist_cons.2 (List.cons_sublist_cons.2 (List.nil_sublist _))))) ?_
          intro be wz5 hB V_0; simp only [aP, lI, l0, lS]
          have hcl : ∀ j u, (wrc k)[j]? = some u → ∃ ad, sk = some ad ∧ wz5.cell? (ad.add j) = some u := fun j u hu => by
            obtain ⟨_, _, e_, _, _, h_⟩ := N.below hB
            injection e_ with e1_
            subst e1_
            exact h_ j u hu
          obtain ⟨v2, wz8, hr, V2, hgr, hg2⟩ := run_append_opt (P := Try.prog) (ty := 28) Try.underlying28 manyW rfl (by decide) V_0 sk k.length ck (wrc k) (wrc_len k) hcl (wrc_one k) (by unfold maxLen; omega) (by omega) hB.size
          have hB3 := hB.grown hgr hB.size (fun b_ hb_ => (World.ownsRow.lt V_0 b_ hb_).1)
          obtain ⟨sq, cq, rfl, _, _⟩ := row_form16 V2
          rw [List.nil_append] at V2
          simp only [Nat.zero_add] at V2 hr
          have M_ := M.call hB3; refine onlyC (i := 18) (w' := wz8) (some 79) rfl (.slice sq k.length cq) (by kernel_rfl) rfl rfl (appendOp _ _ 28 _ _ _ rfl rfl rfl hr) (M_.sub _ (List.cons_sublist_cons.2 (List.cons_sublist_cons.2 (List.nil_sublist _)))) ?_; simp only [aP, lI, l0, lS]; have MQ := (M.newRow21 hB3 V2).perm (perm_mid2 (obs sq) _ _ _)
          have hqlo := fun b_ hb_ => (World.ownsRow.lt V2 b_ hb_).1; have N_q := RgW.ofW (NewW.ofOwn21 V2); clear hr hgr hg2 hcl V2 V_0 M_ M N hB; have M := MQ; clear MQ; replace V_f := ownsRow_bel V_f hB3; replace A_o := A_o.below hB3; replace D_d := D_d.below21 hB3; replace OF := OF.below hB3; clear hB3
          replace M : Mm w0 ((g, fcs A ++ ([.int .i64 ((d.n : Nat) : Int), .int .i64 ((d.win : Nat) : Int), .int .i64 c, .bool true, .slice d.sr d.Z.length d.cr] ++ fcs B)) :: (R, [.int .i64 (dpo s), .int .i64 s.last, .slice (some ⟨g, 0, none⟩) L.length cf]) :: (obs sq ++ (obs d.sr ++ (gks d.Z ++ (gf (A ++ B) ++ l))))) wz8 := M
          refine readC (i := 19) (some 80) rfl (.agg #[.int .i64 c, .int .i64 ((smom now : Nat) : Int), .slice sq k.length cq]) rfl rfl (by kernel_rfl) rfl (fun _ M => (by kernel_rfl)) (by kernel_rfl) (by kernel_rfl) (by kernel_rfl) (by kernel_rfl) (fun _ _ _ h => h) (M.sub _ (List.cons_sublist_cons.2 (List.cons_sublist_cons.2 (List.nil_sublist _)))) ?_; simp only [aP, lI, l0, lS]
          have hlb := (Below.refl wz8.heap.size wz8).alloc (xnR _) (.cells #[.int .i64 c, .int .i64 ((smom now : Nat) : Int), .slice sq k.length cq] 74); have T_b := World.ownsRow.cells (World.ownsRow_lit (base := wz8.heap.size) (e := 74) (size := 3) wz8 #[.int .i64 c, .int .i64 ((smom now : Nat) : Int), .slice sq k.length cq] 1 (xnR _) (by unfold maxLen; omega) rfl) (g := wz8.heap.size) rfl
          have M_ := M.call hlb; refine onlyC (i := 20) (w' := wz8.alloc (.cells #[.int .i64 c, .int .i64 ((smom now : Nat) : Int), .slice sq k.length cq] 74)) (some 81) rfl (.slice (some ⟨wz8.heap.size, 0, none⟩) 1 1) (by kernel_rfl) rfl rfl (by kernel_rfl) (M_.sub _ (List.cons_sublist_cons.2 (List.cons_sublist_cons.2 (List.nil_sublist _)))) ?_; simp only [aP, lI, l0, lS]
          replace V_f := ownsRow_bel V_f hlb; replace A_o := A_o.below hlb; replace D_d := D_d.below21 hlb; replace OF := OF.below hlb; replace N_q := N_q.below hlb; clear M hlb; have M := M_; clear M_; generalize wz8.alloc (.cells #[.int .i64 c, .int .i64 ((smom now : Nat) : Int), .slice sq k.length cq] 74) = w11 at M T_b V_f A_o D_d OF N_q ⊢; generalize wz8.heap.size = bz at T_b ⊢
          have hcn : ((c.toNat : Nat) : Int) = c := Int.toNat_of_nonneg (by omega)
          have T_c : ∀ j u, (rc1 ((⟨c.toNat, smom now, k⟩ : Rcd), sq, cq))[j]? = some u → w11.cell? ((⟨bz, 0, none⟩ : Addr).add j) = some u := fun j u hu => T_b j u (by
            have e_ : rc1 ((⟨c.toNat, smom now, k⟩ : Rcd), sq, cq) = [.int .i64 c, .int .i64 ((smom now : Nat) : Int), .slice sq k.length cq] := by unfold rc1; rw [show ((c.toNat : Nat) : Int) = c from hcn]
            rw [e_] at hu
            exact hu)
          obtain ⟨v2, wz9, hr, V2, hgr, hg2⟩ := run_append_OwnV (P := Try.prog) (ty := 64) Try.underlying64 manyD21 rfl (by decide) D_d.V ⟨bz, 0, none⟩ 1 1 (rc1 ((⟨c.toNat, smom now, k⟩ : Rcd), sq, cq)) rfl T_c (fun u hu => rcs_one [((⟨c.toNat, smom now, k⟩ : Rcd), sq, cq)] u (by rw [rcs_one1]; exact hu)) (by unfold maxLen; omega) (by omega) (Nat.zero_le _)
          have o1 : Off (ob d.sr) w11 wz9 := Off.grown (Off.refl (ob d.sr) _) hgr (fun b_ hb_ => .inl ((ob_own _ _ _ b_).1 hb_))
          obtain ⟨sv, cv, rfl, _, _⟩ := row_form16 V2
          rw [← rcs_one1, ← rcs_app] at V2
          have hsv : ∀ b ∈ ob sv, b ∈ ob d.sr ∨ b = w11.heap.size := fun b hb => by
            rcases hg2 b ((ob_own sv _ cv b).2 hb) with h | h
            · exact .inl ((ob_own _ _ _ b).1 h)
            · exact .inr h
          have hg8 := M.lt mS
          have hgv : g ∉ ob sv := fun h => by
            rcases hsv g h with h | h
            · exact hgs h
            · omega
          have hgq : g ∉ ob sq := fun h => by
            have h1_ := hqlo g ((ob_own sq k.length cq g).2 h)
            omega
          have hsq : ∀ b ∈ ob d.sr, b ∉ ob sq := fun b hb h => by
            have h1_ := hqlo b ((ob_own sq k.length cq b).2 h); have h2_ := hsl b hb
            omega
          have P2 : DOK wz9 (⟨d.n, d.win, some c.toNat, d.Z ++ [((⟨c.toNat, smom now, k⟩ : Rcd), sq, cq)], sv, cv⟩ : Dfl) := ⟨by
              show wz9.ownsRow 0 74 3 (.slice sv (d.Z ++ [((⟨c.toNat, smom now, k⟩ : Rcd), sq, cq)]).length cv) (d.Z ++ [((⟨c.toNat, smom now, k⟩ : Rcd), sq, cq)]).length (rcs (d.Z ++ [((⟨c.toNat, smom now, k⟩ : Rcd), sq, cq)]))
              rw [List.length_append]
              exact V2, fun q hq => by
              rcases List.mem_append.1 hq with h | h
              · exact (D_d.K.off o1 hSc) q h
              · obtain rfl := xm1 h
                exact N_q.offB o1 fun b hb _ hm => hsq b hb hm⟩
          have hgP : g ∉ (gd (⟨d.n, d.win, some c.toNat, d.Z ++ [((⟨c.toNat, smom now, k⟩ : Rcd), sq, cq)], sv, cv⟩ : Dfl)).map Prod.fst := fun hm => by
            unfold gd at hm
            rw [List.map_append, obs_fst] at hm
            rcases List.mem_append.1 hm with h | h
            · exact hgv h
            · change g ∈ (gks (d.Z ++ [((⟨c.toNat, smom now, k⟩ : Rcd), sq, cq)])).map Prod.fst at h
              rw [gks_app, List.map_append] at h
              rcases List.mem_append.1 h with h | h
              · exact hgk h
              · rw [gks_cons, show gks ([] : List (Rcd × Option Addr × Nat)) = [] from rfl, List.append_nil, obs_fst] at h
                exact hgq h
          replace OF := OF.trans (o1.mono hLm)
          replace V_f := ownsRow_away V_f o1 (fun b hb hm => by obtain rfl : b = g := by simpa [ob] using hm
                                                                exact hgs hb)
          replace A_o := A_o.off o1 hSA; have MP := M.perm (perm_snt (obs sq) (obs d.sr) (gks d.Z ++ (gf (A ++ B) ++ l)) _ _); have M9 := (Mm.rowApp21 MP hgr V2 hg2).perm (perm_mid2 (obs sv) _ _ _); refine onlyC (i := 21) (w' := wz9) (some 82) rfl _ (by kernel_rfl) rfl rfl (appendOp _ _ 64 _ _ _ rfl rfl rfl hr) (M9.sub _ (List.cons_sublist_cons.2 (List.cons_sublist_cons.2 (List.nil_sublist _)))) ?_
          simp only [aP, lI, l0, lS]; clear hr hgr hg2 M MP T_b T_c D_d N_q o1 V2 hqlo hsv; have M := M9; clear M9
          replace M : Mm w0 ((g, fcs A ++ ([.int .i64 ((d.n : Nat) : Int), .int .i64 ((d.win : Nat) : Int), .int .i64 c, .bool true, .slice d.sr d.Z.length d.cr] ++ fcs B)) :: (R, [.int .i64 (dpo s), .int .i64 s.last, .slice (some ⟨g, 0, none⟩) L.length cf]) :: (obs sv ++ (obs sq ++ (gks d.Z ++ (gf (A ++ B) ++ l))))) wz9 := M
          refine xqC 22 83 rfl (.pointer (some ⟨g, A.length * 5, none⟩)) (fun _ => idxF5 g _ _ A.length (some ⟨g, 0, none⟩) rfl hjl _ _ rfl rfl rfl _) (M.sub _ (List.cons_sublist_cons.2 (List.cons_sublist_cons.2 (List.nil_sublist _)))) ?_
          refine readC (i := 23) (some 84) rfl (.pointer (some ⟨g, A.length * 5 + 4, none⟩)) rfl rfl (by kernel_rfl) rfl (fun _ M => (by kernel_rfl)) (by kernel_rfl) (by kernel_rfl) (by kernel_rfl) (by kernel_rfl) (fun _ _ _ h => h) (M.sub _ (List.cons_sublist_cons.2 (List.cons_sublist_cons.2 (List.nil_sublist _)))) ?_; simp only [aP, lI, l0, lS]
          refine skipC (S2 := fun _ => True) none rfl (by kernel_rfl) rfl rfl (storeAny (.slice sv (d.Z.length + 1) cv) g (A.length * 5 + 4) 64 _ _ rfl rfl rfl rfl rfl (M.isSome mS (A.length * 5 + 4) (by rw [List.length_append, List.length_append, fcs_len]; show _ < _ + (5 + _); omega)) (M.free mS (A.length * 5 + 4) (by rw [List.length_append, List.length_append, fcs_len]; show _ < _ + (5 + _); omega)) (by kernel_rfl)) (by kernel_rfl) ?_
          simp only [Act.put]; replace M := M.set (A.length * 5 + 4) (by rw [List.length_append, List.length_append, fcs_len]; show _ < _ + (5 + _); omega) (.slice sv (d.Z.length + 1) cv)
          rw [mid_set (Nat.le_of_ble_eq_true rfl)] at M
          replace V_f := ownsRow_put V_f (A.length * 5 + 4) (.slice sv (d.Z.length + 1) cv)
          rw [mid_set (Nat.le_of_ble_eq_true rfl)] at V_f
          have o1_ := ((Off.refl [g] wz9).set (b := g) mS (A.length * 5 + 4) (.slice sv (d.Z.length + 1) cv)); replace A_o := A_o.off o1_ (fun b_ hb_ => by obtain rfl := xm1 hb_; exact hgA); replace P2 := P2.off o1_ (fun b_ hb_ => by obtain rfl := xm1 hb_; exact hgP); replace OF := OF.trans (o1_.mono (fun b_ hb_ => by rw [xm1 hb_]; exact mT _ (List.mem_append_left _ mS))); clear o1_
          generalize wz9.setCell ⟨g, (A.length * 5 + 4), none⟩ (.slice sv (d.Z.length + 1) cv) = w12 at M V_f A_o P2 OF ⊢
          replace M : Mm w0 ((g, fcs A ++ ([.int .i64 ((d.n : Nat) : Int), .int .i64 ((d.win : Nat) : Int), .int .i64 c, .bool true, .slice sv (d.Z.length + 1) cv] ++ fcs B)) :: (R, [.int .i64 (dpo s), .int .i64 s.last, .slice (some ⟨g, 0, none⟩) L.length cf]) :: (obs sv ++ (obs sq ++ (gks d.Z ++ (gf (A ++ B) ++ l))))) w12 := M
          replace V_f : w12.ownsRow 0 66 5 (.slice (some ⟨g, 0, none⟩) L.length cf) L.length (fcs A ++ ([.int .i64 ((d.n : Nat) : Int), .int .i64 ((d.win : Nat) : Int), .int .i64 c, .bool true, .slice sv (d.Z.length + 1) cv] ++ fcs B)) := V_f
          refine wpAnyH_done (by kernel_rfl) ?_ _
          have e1 : fc1 (⟨d.n, d.win, some c.toNat, d.Z ++ [((⟨c.toNat, smom now, k⟩ : Rcd), sq, cq)], sv, cv⟩ : Dfl) = [.int .i64 ((d.n : Nat) : Int), .int .i64 ((d.win : Nat) : Int), .int .i64 c, .bool true, .slice sv (d.Z.length + 1) cv] := by
            show ([_, _, .int .i64 ((c.toNat : Nat) : Int), _, .slice sv (d.Z ++ [((⟨c.toNat, smom now, k⟩ : Rcd), sq, cq)]).length cv] : List Value) = _
            rw [hcn, List.length_append]
            rfl
          rw [← e1] at V_f
          have M7 := M.perm (List.Perm.cons _ (List.Perm.cons _ (List.Perm.append_left (obs sv) (sw21 (obs sq) (gks d.Z) (gf (A ++ B) ++ l)))))
          have M8 : Mm w0 ((g, fcs A ++ ([.int .i64 ((d.n : Nat) : Int), .int .i64 ((d.win : Nat) : Int), .int .i64 c, .bool true, .slice sv (d.Z.length + 1) cv] ++ fcs B)) :: (R, [.int .i64 (dpo s), .int .i64 s.last, .slice (some ⟨g, 0, none⟩) L.length cf]) :: (obs (⟨d.n, d.win, some c.toNat, d.Z ++ [((⟨c.toNat, smom now, k⟩ : Rcd), sq, cq)], sv, cv⟩ : Dfl).sr ++ (gks (⟨d.n, d.win, some c.toNat, d.Z ++ [((⟨c.toNat, smom now, k⟩ : Rcd), sq, cq)], sv, cv⟩ : Dfl).Z ++ (gf (A ++ B) ++ l)))) w12 := by
            show Mm w0 ((g, fcs A ++ ([.int .i64 ((d.n : Nat) : Int), .int .i64 ((d.win : Nat) : Int), .int .i64 c, .bool true, .slice sv (d.Z.length + 1) cv] ++ fcs B)) :: (R, [.int .i64 (dpo s), .int .i64 s.last, .slice (some ⟨g, 0, none⟩) L.length cf]) :: (obs sv ++ (gks (d.Z ++ [((⟨c.toNat, smom now, k⟩ : Rcd), sq, cq)]) ++ (gf (A ++ B) ++ l)))) w12
            rw [gks_app, gks_cons, show gks ([] : List (Rcd × Option Addr × Nat)) = [] from rfl, List.append_nil, List.append_assoc]
            exact M7
          obtain ⟨hc1, hc2⟩ := dfin21 (R := R) hI h1 h2 h3 (d' := (⟨d.n, d.win, some c.toNat, d.Z ++ [((⟨c.toNat, smom now, k⟩ : Rcd), sq, cq)], sv, cv⟩ : Dfl)) rfl V_f P2 A_o M8
          have hLn : (A ++ (⟨d.n, d.win, some c.toNat, d.Z ++ [((⟨c.toNat, smom now, k⟩ : Rcd), sq, cq)], sv, cv⟩ : Dfl) :: B).length = L.length := by rw [h1]; simp
          have hno := show Hid _ from (show ssn s id c now k = { s with L := sput s.L id (⟨d.n, d.win, some c.toNat, d.Z ++ [((⟨c.toNat, smom now, k⟩ : Rcd), sq, cq)], sv, cv⟩ : Dfl).f } by
            unfold ssn
            rw [hI.lst, h5]
            show (if smay d.f c = true then _ else _) = _
            rw [if_pos hsm]
            unfold Dfl.f
            simp only [List.map_append, List.map_cons, List.map_nil])
          have HS := show Hid _ from (And.intro hc1 (And.intro (show Mm w0 ((R, drc s (some ⟨g, 0, none⟩) (A ++ (⟨d.n, d.win, some c.toNat, d.Z ++ [((⟨c.toNat, smom now, k⟩ : Rcd), sq, cq)], sv, cv⟩ : Dfl) :: B).length cf) :: _) w12 by rw [hLn]; exact hc2) OF)); clear M M7 M8 V_f A_o P2 OF hc1 hc2 hI hI2 h1 h2 h3 h4 h5 hks hSk hSc hSA hLm hdL hgN hsl e1; go_wp2
          rw [hno.out]
          first | exact ⟨rfl, .tuple #[], by kernel_rfl, rfl, _, _, _, HS.out⟩ | exact ⟨rfl, .tuple #[], by kernel_rfl, _, _, _, rfl, HS.out⟩
end
end Go.Proofs.Ytmedjdadhmdpgaa
