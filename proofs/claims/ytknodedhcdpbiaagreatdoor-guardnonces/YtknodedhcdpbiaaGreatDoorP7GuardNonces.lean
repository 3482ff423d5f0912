/- Texts of LawGuardNonces Mi Fl Fm Fn Hz Fo, joined. -/
import Derived.Test.YtknodedhcdpbiaaGreatDoorP6GuardNonces
import Derived.Maps.Range
set_option maxRecDepth 20000
set_option maxHeartbeats 64000000
namespace Go.Proofs.YtknodedhcdpbiaaGreatDoor
open Go.RowKit
def wuc:List (Int × Int × Int)→List Value
 | []=>[]
 | u::l=>.int .i64 u.1::.int .i64 u.2.1::.int .i64 u.2.2::wuc l
theorem wuc_app:∀ x y:List (Int × Int × Int),wuc (x++y)=wuc x++wuc y
 | [],_=>rfl
 | u::x,y=>by show _::_::_::wuc (x++y)=_; rw [wuc_app x y]; rfl
theorem wuc_get:∀ (l:List (Int × Int × Int)) (i:Nat) (u:Int × Int × Int),l[i]?=some u→∀ j v,[Value.int .i64 u.1,.int .i64 u.2.1,.int .i64 u.2.2][j]?=some v→(wuc l)[i*3+j]?=some v
 | [],_,_,h=>by cases h
 | q::l,0,u,h=>by
   obtain rfl:q=u:=by simpa using h
   intro j v hj
   rw [Nat.zero_mul,Nat.zero_add]
   match j,hj with
   | 0,hj=>exact hj
   | 1,hj=>exact hj
   | 2,hj=>exact hj
   | j+3,hj=>cases hj
 | q::l,i+1,u,h=>by
   intro j v hj
   have:=wuc_get l i u (by simpa using h) j v hj
   rw [show (i+1)*3+j=i*3+j+1+1+1 by omega]
   exact this
theorem wuc_one:∀ (l:List (Int × Int × Int)),∀ u∈wuc l,u.oneCell'=true
 | [],_,h=>by cases h
 | p::l,u,h=>by
   rcases xc1 h with rfl | h
   · rfl
   rcases xc1 h with rfl | h
   · rfl
   rcases xc1 h with rfl | h
   · rfl
   exact wuc_one l u h
theorem manyU:Many Tryz.prog 39 (.agg #[.int .i64 0,.int .i64 0,.int .i64 0]) 24 3:=⟨by kernel_rfl⟩
structure NonI (g:Grd) (U:List (Int × Int × Int)):Prop where
 w:GrdW g
 old:∀ u∈U,u.1<g.out.e∨(u.1=g.out.e∧u.2.2<g.cnt u.2.1)
theorem NonI.adv {g:Grd} {U:List (Int × Int × Int)} (h:NonI g U):NonI (gaN g) U:=by
 refine ⟨gaN_w h.w,fun u hu=>?_⟩
 have h1:=h.old u hu
 by_cases c:65535≤g.out.e
 · rw [gaN_end c]; exact h1
 · rw [gaN_on c]
   have e:(yad g.out).e=g.out.e+1:=by rw [yad_on c]
   left
   show u.1<(yad g.out).e
   omega
theorem NonI.skp {g:Grd} {U:List (Int × Int × Int)} (h:NonI g U) (p n:Int):NonI (gkN g p n) U:=by
 refine ⟨gkN_w h.w p n,fun u hu=>?_⟩
 have h1:=h.old u hu
 by_cases c:gkE g p n=0
 · rw [gkN_ok c]
   have hn:g.cnt p≤n:=by
    unfold gkE at c
    split at c
    · cases c
    · next hh=>omega
   rcases h1 with h1 | ⟨h1,h2⟩
   · exact .inl h1
   · refine .inr ⟨h1,?_⟩
     show u.2.2<if u.2.1=p then n else g.cnt u.2.1
     split
     · next e=>rw [e] at h2; omega
     · exact h2
 · have e:gkN g p n=g:=if_neg c
   rw [e]; exact h1
theorem NonI.new {g:Grd} {U:List (Int × Int × Int)} (h:NonI g U) (p:Int):∀ u∈U,¬ (u.1=g.out.e∧u.2.1=p∧u.2.2=g.cnt p):=fun u hu e=>by
 obtain ⟨e1,e2,e3⟩:=e
 rcases h.old u hu with h1 | ⟨_,h2⟩
 · omega
 · rw [e2] at h2; omega
theorem NonI.sel {g:Grd} {U:List (Int × Int × Int)} (h:NonI g U) {p:Int} {n:Nat} (hE:gsE g p n=0):NonI (gsN g p n) (U++[(g.out.e,p,g.cnt p)]):=by
 refine ⟨gsN_w h.w p n,fun u hu=>?_⟩
 rw [gsN_ok hE]
 rcases List.mem_append.1 hu with hu | hu
 · rcases h.old u hu with h1 | ⟨h1,h2⟩
   · exact .inl h1
   · refine .inr ⟨h1,?_⟩
     show u.2.2<if u.2.1=p then g.cnt p+1 else g.cnt u.2.1
     split
     · next e=>rw [e] at h2; omega
     · exact h2
 · obtain rfl:=xm1 hu
   refine .inr ⟨rfl,?_⟩
   show g.cnt p<if p=p then g.cnt p+1 else g.cnt p
   rw [if_pos rfl]
   omega
theorem NonI.same {g:Grd} {U:List (Int × Int × Int)} (h:NonI g U) {p:Int} {n:Nat} (hE:¬ gsE g p n=0):NonI (gsN g p n) U:=by rw [gsN_err hE]; exact h
theorem law_GuardNonces {I:GrdI} (hK:GrdOK I) (hN:GrdNew I) (x y:Nat→Int) (hx:In 256 32 x) (hy:In 256 32 y) (sp:Option Addr) (cap:Nat) (l:List Opv) (hmax:l.length≤140737488351232) (w0:World) (hg:GGlob w0) (hin:OpsIn w0 140737488351232 sp l) :
 Calls Tryz.prog 3 #[.agg (row .u8 32 x).toArray,.agg (row .u8 32 y).toArray,.slice sp l.length cap] w0 fun e w'=>e=.returned (.bool true)∧Below w0.heap.size w0 w':=by
 have M:=Mm.init w0
 go_enter Tryz.func3,Tryz.ntmps3
 go_upto_region 0 with fail; refine wp_region_list ?_; have hlb:=(Below.refl w0.heap.size w0).alloc (xnR _) (.cells (row .u8 32 x).toArray 23); refine actL (w':=w0.alloc (.cells (row .u8 32 x).toArray 23)) (.pointer (some ⟨w0.heap.size,0,none⟩)) rfl (by kernel_rfl) ?_; simp only [aP,lI,l0,lS]; replace M:=M.box (row .u8 32 x).toArray 23 w0.heap.size rfl; clear hlb
 generalize w0.alloc (.cells (row .u8 32 x).toArray 23)=w1 at M  ⊢
 have hA_B1:w0.heap.size≤w0.heap.size:=xnR _
 generalize eB_:w0.heap.size=B1 at M hA_B1 ⊢
 replace hA_B1:w0.heap.size≤B1:=Nat.le_of_eq eB_
 clear eB_
 replace M:Mm w0 ((B1,row .u8 32 x)::([]:List (Nat × List Value))) w1:=M
 have hlb:=(Below.refl w1.heap.size w1).alloc (xnR _) (.cells (row .u8 32 y).toArray 23); refine actL (w':=w1.alloc (.cells (row .u8 32 y).toArray 23)) (.pointer (some ⟨w1.heap.size,0,none⟩)) rfl (by kernel_rfl) ?_; simp only [aP,lI,l0,lS]; replace M:=M.box (row .u8 32 y).toArray 23 w1.heap.size rfl; clear hlb; generalize w1.alloc (.cells (row .u8 32 y).toArray 23)=w2 at M  ⊢
 have hA_B2:w1.heap.size≤w1.heap.size:=xnR _
 generalize eB_:w1.heap.size=B2 at M hA_B2 ⊢
 replace hA_B2:w1.heap.size≤B2:=Nat.le_of_eq eB_
 clear eB_
 replace M:Mm w0 ((B2,row .u8 32 y)::(B1,row .u8 32 x)::([]:List (Nat × List Value))) w2:=M
 refine xpL (.bool false) ?_; refine xT ?_; go_upto_region 1 with fail; refine wp_region_list ?_; refine xcL (shown16_any hK hN _ (hg.mm M)) ?_; rintro e w3 ⟨rfl,l⟩; replace M:=M.call l; clear l; refine xeL ?_; refine xpL (.bool true) ?_; refine xT ?_; go_upto_region 2 with fail; refine wp_region_list ?_
 refine xaL (.agg (row .u8 32 x).toArray) (loadN 23 _ ⟨B1,0,none⟩ (row .u8 32 x) rfl rfl (fun _=>by kernel_rfl) (fun _=>by rw [row32]; kernel_rfl) (M.part (mT _ mS) 0 _ (by rw [List.drop_zero,List.take_length]))) ?_
 refine xaL (.agg (row .u8 32 y).toArray) (loadN 23 _ ⟨B2,0,none⟩ (row .u8 32 y) rfl rfl (fun _=>by kernel_rfl) (fun _=>by rw [row32]; kernel_rfl) (M.part mS 0 _ (by rw [List.drop_zero,List.take_length]))) ?_; have key:=hN w0 _ _ 0 x y hg (by unfold i64; decide) hx hy M; refine xcL key ?_; clear key; rintro e w4 ⟨v_,ba0,rfl,hIa,M',l⟩
 obtain ⟨Ra,rfl⟩:=hK.ptr _ _ _ _ hIa
 clear M; have M:=M'.perm (pull0 ([(B2,row .u8 32 y),(B1,row .u8 32 x)]:List (Nat × List Value)) ba0 ([]:List (Nat × List Value))).symm; clear M'; clear l
 replace M:Mm w0 ((B2,row .u8 32 y)::(B1,row .u8 32 x)::(ba0++([]:List (Nat × List Value)))) w4:=M
 refine xeL ?_; refine xpL (.pointer (some ⟨Ra,0,none⟩)) ?_; refine xT ?_; go_upto_region 3 with fail; refine wp_region_list ?_; refine xpL (.bool true) ?_; refine xpL (.bool false) ?_; refine xpL (.bool false) ?_; refine xpL (.pointer (some ⟨Ra,0,none⟩)) ?_; refine xpL (.bool false) ?_; refine xpL (.bool false) ?_; refine xT ?_; go_upto_region 5 with fail; refine wp_region_list ?_
 have V_:=World.ownsRow_lit (base:=w0.heap.size) (e:=39) (size:=3) w4 #[] 0 M.below.size (Nat.zero_le _) rfl; have hlb:=(Below.refl w4.heap.size w4).alloc (xnR _) (.cells #[] 39); refine actL (w':=w4.alloc (.cells #[] 39)) (.slice (some ⟨w4.heap.size,0,none⟩) 0 0) rfl (by kernel_rfl) ?_; simp only [aP,lI,l0,lS]; replace hIa:=hK.bel hIa hlb
 have M':=M.rowNil #[] 39
 clear M hlb
 obtain ⟨su,hsu⟩:∃ su,su=(some ⟨w4.heap.size,0,none⟩:Option Addr):=⟨_,rfl⟩
 rw [← hsu] at M' V_ ⊢
 generalize w4.alloc (.cells #[] 39)=w5 at M' V_ hIa ⊢; have M:=M'.perm (pull0 ([(B2,row .u8 32 y),(B1,row .u8 32 x)]:List (Nat × List Value)) (obs su) (ba0++([]:List (Nat × List Value)))).symm; clear M' hsu
 replace M:Mm w0 ((B2,row .u8 32 y)::(B1,row .u8 32 x)::((obs su)++(ba0++([]:List (Nat × List Value))))) w5:=M
 refine xpL (.slice su 0 0) ?_; refine xT ?_; go_upto_region 6 with fail; refine wp_region_list ?_; refine xpL (.int .i64 0) ?_; refine xT ?_
 have M2:Mm w0 ((B2,row .u8 32 y)::(B1,row .u8 32 x)::(ba0++(obs su++([]:List (Nat × List Value))))) w5:=M.perm (List.Perm.cons _ (List.Perm.cons _ (by rw [List.append_nil,List.append_nil]; exact List.perm_append_comm)))
 have HI:=show Hid _ from (show NonI (gat 0 x y 0 0) ([]:List (Int × Int × Int))∧I w5 (.pointer (some ⟨Ra,0,none⟩)) (gat 0 x y 0 0) ba0∧w5.ownsRow w0.heap.size 39 3 (.slice su (([]:List (Int × Int × Int))).length 0) (([]:List (Int × Int × Int))).length (wuc ([]:List (Int × Int × Int)))∧Mm w0 ((B2,row .u8 32 y)::(B1,row .u8 32 x)::(ba0++(obs su++([]:List (Nat × List Value))))) w5 from ⟨⟨gat_w 0 hx hy 0 0,fun u hu=>by cases hu⟩,hIa,V_,M2⟩)
 clear M M2 hIa V_; go_wp2
 go_loopw [9,10] (fun uv i w'=>∃ (q:Nat) (g:Grd) (U:List (Int × Int × Int)) (ga:List (Nat × List Value)) (su:Option Addr) (cu:Nat),q≤80∧q≤l.length∧U.length≤q∧uv=.slice su U.length cu∧i=.int .i64 (q:Int)∧NonI g U∧I w' (.pointer (some ⟨Ra,0,none⟩)) g ga∧w'.ownsRow w0.heap.size 39 3 (.slice su (U).length cu) (U).length (wuc U)∧Mm w0 ((B2,row .u8 32 y)::(B1,row .u8 32 x)::(ga++(obs su++([]:List (Nat × List Value))))) w') (fun _ i _=>l.length-(intOf i).toNat)
 case atStart=>exact ⟨0,_,[],_,_,0,by omega,by omega,xnR 0,rfl,rfl,HI.out⟩
 case round =>
  clear HI
  obtain ⟨q,g,U,ga,su,cu,hq,hq2,hU,rfl,rfl,hNo,hIa,V_,M⟩:=hrel
  go_upto_region 7 with fail; refine wp_region_list ?_; refine xpL (.int .i64 (q:Int)) ?_; refine xpL (.slice sp l.length cap) ?_; refine xaL (.int .i64 ((l.length:Nat):Int)) (lenS _ 24 31 sp l.length cap rfl Tryz.underlying24 rfl _) ?_
  obtain ⟨b1,hb1⟩:∃ y_,y_=(decide ((q:Int)<((l.length:Nat):Int))):=⟨_,rfl⟩
  refine xaL (.bool b1) (lssI .i64 _ _ _ _ _ _ rfl rfl rfl b1 hb1.symm _) ?_; refine xpL (.bool b1) ?_
  refine mayL (b1) (.int .i64 (q:Int)) ((bif b1 then (.int .i64 (q:Int)) else undef)) (by cases b1 <;> rfl) (by cases b1 <;> rfl) (fun hc=>by cases b1 <;> first | (cases hc; done) | kernel_rfl) ?_
  simp only [aP,lI,l0,lS]
  obtain ⟨b2,hb2⟩:∃ y_,y_=(decide ((q:Int)<80)):=⟨_,rfl⟩
  refine mayL (b1) (.bool b2) ((bif b1 then (.bool b2) else undef)) (by cases b1 <;> rfl) (by cases b1 <;> rfl) (fun hc=>by cases b1 <;> first | (cases hc; done) | exact (lssI .i64 _ _ _ _ _ _ rfl rfl rfl b2 hb2.symm _)) ?_
  simp only [aP,lI,l0,lS]
  obtain ⟨b3,hb3⟩:∃ y_,y_=(b1&&b2):=⟨_,rfl⟩
  refine xaL (.bool b3) (by subst hb3; cases b1 <;> rfl) ?_; refine xT ?_
  cases b3 with
  | true =>
    have hlt:q<l.length∧q<80:=by
     simp only [hb1,hb2] at hb3
     simp at hb3
     omega
    try clear hb1
    try clear hb2
    try clear hb3
    obtain ⟨hlt,hlt2⟩:=hlt
    obtain ⟨vq,hvq⟩:∃ vq,l[q]?=some vq:=⟨_,List.getElem?_eq_getElem hlt⟩
    obtain ⟨ad,bp,bc,rfl,hoc,hov⟩:=hin q vq hvq
    go_upto_region 9 with fail; refine wp_region_list ?_; refine xpL (.slice (some ad) l.length cap) ?_; refine xpL (.int .i64 (q:Int)) ?_; refine readL (.pointer (some (ad.add (q*5)))) rfl (idxS16 24 31 5 _ _ ad q _ _ Tryz.underlying24 (fun _=>by kernel_rfl) hlt rfl rfl rfl _) ?_; simp only [aP,lI,l0,lS]
    refine xaL (.agg #[.int .i64 vq.k,.int .i64 vq.o,.int .i64 vq.p,.int .i64 vq.n,.slice bp vq.b.length bc]) (loadN 31 _ (ad.add (q*5)) [.int .i64 vq.k,.int .i64 vq.o,.int .i64 vq.p,.int .i64 vq.n,.slice bp vq.b.length bc] rfl rfl (fun _=>by kernel_rfl) (fun _=>by kernel_rfl) (fun k_ x_ hx_=>cellS M.below (hoc k_ x_ hx_))) ?_
    have hlb:=(Below.refl wr.heap.size wr).alloc (xnR _) (.cells #[.int .i64 0,.int .i64 0,.int .i64 0,.int .i64 0,.slice none 0 0] 31); refine actL (w':=wr.alloc (.cells #[.int .i64 0,.int .i64 0,.int .i64 0,.int .i64 0,.slice none 0 0] 31)) (.pointer (some ⟨wr.heap.size,0,none⟩)) rfl (by kernel_rfl) ?_; simp only [aP,lI,l0,lS]; replace hIa:=hK.bel hIa hlb
    replace V_:=ownsRow_bel V_ hlb; replace M:=M.box #[.int .i64 0,.int .i64 0,.int .i64 0,.int .i64 0,.slice none 0 0] 31 wr.heap.size rfl; clear hlb; generalize wr.alloc (.cells #[.int .i64 0,.int .i64 0,.int .i64 0,.int .i64 0,.slice none 0 0] 31)=w6 at M hIa V_ ⊢
    have hA_B6:wr.heap.size≤wr.heap.size:=xnR _
    generalize eB_:wr.heap.size=B6 at M hA_B6 ⊢
    replace hA_B6:wr.heap.size≤B6:=Nat.le_of_eq eB_
    clear eB_
    replace M:Mm w0 ((B6,[.int .i64 0,.int .i64 0,.int .i64 0,.int .i64 0,.slice none 0 0])::(B2,row .u8 32 y)::(B1,row .u8 32 x)::(ga++((obs su)++([]:List (Nat × List Value))))) w6:=M
    refine skipOpL rfl (storeP [.int .i64 vq.k,.int .i64 vq.o,.int .i64 vq.p,.int .i64 vq.n,.slice bp vq.b.length bc] B6 0 31 _ _ rfl rfl rfl (M.thereP mS 0 5 (Nat.le_of_ble_eq_true rfl)) (by kernel_rfl) (List.all_eq_true.1 (rfl:([.int .i64 vq.k,.int .i64 vq.o,.int .i64 vq.p,.int .i64 vq.n,.slice bp vq.b.length bc]:List Value).all (fun u=>u.oneCell')=true))) ?_
    simp only [Act.put]; have oS:=(Off.refl [B6] w6).setAll (b:=B6) mS 0 [.int .i64 vq.k,.int .i64 vq.o,.int .i64 vq.p,.int .i64 vq.n,.slice bp vq.b.length bc]; replace hIa:=hK.off _ _ _ _ _ _ hIa oS (fun b_ hb_=>by obtain rfl:=xm1 hb_; exact M.awayC (fun p_ hp_=>by simp [hp_]))
    replace V_:=ownsRow_away V_ oS (fun b_ hb_=>by obtain rfl:=xm1 hb_; exact M.awayB (fun p_ hp_=>by simp [hp_])); clear oS; replace M:=M.setAll [.int .i64 vq.k,.int .i64 vq.o,.int .i64 vq.p,.int .i64 vq.n,.slice bp vq.b.length bc] rfl; generalize w6.setCells B6 0 [.int .i64 vq.k,.int .i64 vq.o,.int .i64 vq.p,.int .i64 vq.n,.slice bp vq.b.length bc]=w7 at M hIa V_ ⊢
    refine xT ?_; go_upto_region 10 with fail; refine wp_region_list ?_; refine xpL (.pointer (some ⟨B6,0,none⟩)) ?_; refine xaL (.int .i64 vq.k) (load1 3 _ ⟨B6,0,none⟩ _ rfl rfl (fun _=>by kernel_rfl) (M.get mS 0 _ rfl)) ?_; refine xcL (kind16_any vq.k 8 (by decide) hov.k_i _) ?_; rintro e w8 ⟨rfl,l⟩; replace M:=M.call l; replace hIa:=hK.bel hIa l; replace V_:=ownsRow_bel V_ l
    clear l; refine xeL ?_; refine xT ?_
    by_cases h6:kdn vq.k 8=6
    · go_upto_region 24 with fail
      refine wp_region_list ?_; refine xaL (.bool true) (eqlI .i64 _ _ _ _ _ _ rfl rfl rfl true (by rw [beq_iff_eq]; omega) _) ?_; refine xpL (.bool true) ?_; refine xT ?_; go_upto_region 25 with fail; refine wp_region_list ?_; refine xpL (.pointer (some ⟨Ra,0,none⟩)) ?_
      have Mp:=M.perm (pull0 ([(B6,[.int .i64 vq.k,.int .i64 vq.o,.int .i64 vq.p,.int .i64 vq.n,.slice bp vq.b.length bc]),(B2,row .u8 32 y),(B1,row .u8 32 x)]:List (Nat × List Value)) ga ((obs su)++([]:List (Nat × List Value)))); have key:=hK.adv w0 _ _ g ga _ hg hNo.w hIa Mp; refine xcL key ?_; clear key; rintro e w9 ⟨ba1,rfl,hI_,M',o1⟩
      replace V_:=ownsRow_away V_ o1 (Mp.awayS (fun p_ hp_=>by simp [hp_])); clear o1 Mp M hIa; have hIa:=hI_; clear hI_
      have M:Mm w0 ((B6,[.int .i64 vq.k,.int .i64 vq.o,.int .i64 vq.p,.int .i64 vq.n,.slice bp vq.b.length bc])::(B2,row .u8 32 y)::(B1,row .u8 32 x)::(ba1++((obs su)++([]:List (Nat × List Value))))) w9:=M'.perm (pull0 ([(B6,[.int .i64 vq.k,.int .i64 vq.o,.int .i64 vq.p,.int .i64 vq.n,.slice bp vq.b.length bc]),(B2,row .u8 32 y),(B1,row .u8 32 x)]:List (Nat × List Value)) ba1 ((obs su)++([]:List (Nat × List Value)))).symm
      clear M'; refine xeL ?_; refine xT ?_; replace M:=M.rot3; replace M:=M.rot3
      have M3:Mm w0 ((B2,row .u8 32 y)::(B1,row .u8 32 x)::(ba1++((obs su)++([]:List (Nat × List Value))))) w9:=M.sub _ (List.cons_sublist_cons.2 (List.cons_sublist_cons.2 (List.Sublist.cons _ (List.Sublist.refl _))))
      clear M
      have M:Mm w0 ((B2,row .u8 32 y)::(B1,row .u8 32 x)::(ba1++(obs su++([]:List (Nat × List Value))))) w9:=M3
      clear M3; have HS:=show Hid _ from (show NonI (gaN g) U∧I w9 (.pointer (some ⟨Ra,0,none⟩)) (gaN g) ba1∧w9.ownsRow w0.heap.size 39 3 (.slice su (U).length cu) (U).length (wuc U)∧Mm w0 ((B2,row .u8 32 y)::(B1,row .u8 32 x)::(ba1++(obs su++([]:List (Nat × List Value))))) w9 from ⟨hNo.adv,hIa,V_,M⟩); clear M hIa V_ hNo; go_wp2
      go_roundw
      case rel=>exact ⟨q+1,gaN g,U,ba1,su,cu,by omega,by omega,by omega,rfl,by go_num,HS.out⟩
      case measure=>simp [intOf]; omega
    · by_cases h7:kdn vq.k 8=7
      · go_upto_region 24 with fail
        refine wp_region_list ?_; refine xaL (.bool false) (eqlI .i64 _ _ _ _ _ _ rfl rfl rfl false (by rw [beq_eq_false_iff_ne]; omega) _) ?_; refine xpL (.bool false) ?_; refine xT ?_; go_upto_region 26 with fail; refine wp_region_list ?_; refine xaL (.bool true) (eqlI .i64 _ _ _ _ _ _ rfl rfl rfl true (by rw [beq_iff_eq]; omega) _) ?_; refine xpL (.bool true) ?_; refine xT ?_
        go_upto_region 27 with fail; refine wp_region_list ?_; refine xpL (.pointer (some ⟨Ra,0,none⟩)) ?_; refine xpL (.pointer (some ⟨B6,2,none⟩)) ?_; refine xaL (.int .i64 vq.p) (load1 3 _ ⟨B6,2,none⟩ _ rfl rfl (fun _=>by kernel_rfl) (M.get mS 2 _ rfl)) ?_; refine xpL (.pointer (some ⟨B6,3,none⟩)) ?_
        refine xaL (.int .i64 vq.n) (load1 3 _ ⟨B6,3,none⟩ _ rfl rfl (fun _=>by kernel_rfl) (M.get mS 3 _ rfl)) ?_; have Mp:=M.perm (pull0 ([(B6,[.int .i64 vq.k,.int .i64 vq.o,.int .i64 vq.p,.int .i64 vq.n,.slice bp vq.b.length bc]),(B2,row .u8 32 y),(B1,row .u8 32 x)]:List (Nat × List Value)) ga ((obs su)++([]:List (Nat × List Value))))
        have key:=hK.skp w0 _ _ g ga _ vq.p vq.n hNo.w hov.p_i hov.n_i hIa Mp; refine xcL key ?_; clear key; rintro e w10 ⟨ba1,rfl,hI_,M',o1⟩; replace V_:=ownsRow_away V_ o1 (Mp.awayS (fun p_ hp_=>by simp [hp_])); clear o1 Mp M hIa; have hIa:=hI_; clear hI_
        have M:Mm w0 ((B6,[.int .i64 vq.k,.int .i64 vq.o,.int .i64 vq.p,.int .i64 vq.n,.slice bp vq.b.length bc])::(B2,row .u8 32 y)::(B1,row .u8 32 x)::(ba1++((obs su)++([]:List (Nat × List Value))))) w10:=M'.perm (pull0 ([(B6,[.int .i64 vq.k,.int .i64 vq.o,.int .i64 vq.p,.int .i64 vq.n,.slice bp vq.b.length bc]),(B2,row .u8 32 y),(B1,row .u8 32 x)]:List (Nat × List Value)) ba1 ((obs su)++([]:List (Nat × List Value)))).symm
        clear M'; refine xeL ?_; refine xT ?_; replace M:=M.rot3; replace M:=M.rot3
        have M3:Mm w0 ((B2,row .u8 32 y)::(B1,row .u8 32 x)::(ba1++((obs su)++([]:List (Nat × List Value))))) w10:=M.sub _ (List.cons_sublist_cons.2 (List.cons_sublist_cons.2 (List.Sublist.cons _ (List.Sublist.refl _))))
        clear M
        have M:Mm w0 ((B2,row .u8 32 y)::(B1,row .u8 32 x)::(ba1++(obs su++([]:List (Nat × List Value))))) w10:=M3
        clear M3; have HS:=show Hid _ from (show NonI (gkN g vq.p vq.n) U∧I w10 (.pointer (some ⟨Ra,0,none⟩)) (gkN g vq.p vq.n) ba1∧w10.ownsRow w0.heap.size 39 3 (.slice su (U).length cu) (U).length (wuc U)∧Mm w0 ((B2,row .u8 32 y)::(B1,row .u8 32 x)::(ba1++(obs su++([]:List (Nat × List Value))))) w10 from ⟨hNo.skp _ _,hIa,V_,M⟩); clear M hIa V_ hNo; go_wp2
        go_roundw
        case rel=>exact ⟨q+1,gkN g vq.p vq.n,U,ba1,su,cu,by omega,by omega,by omega,rfl,by go_num,HS.out⟩
        case measure=>simp [intOf]; omega
      · go_upto_region 24 with fail
        refine wp_region_list ?_; refine xaL (.bool false) (eqlI .i64 _ _ _ _ _ _ rfl rfl rfl false (by rw [beq_eq_false_iff_ne]; omega) _) ?_; refine xpL (.bool false) ?_; refine xT ?_; go_upto_region 26 with fail; refine wp_region_list ?_; refine xaL (.bool false) (eqlI .i64 _ _ _ _ _ _ rfl rfl rfl false (by rw [beq_eq_false_iff_ne]; omega) _) ?_; refine xpL (.bool false) ?_; refine xT ?_
        by_cases hE:gsE g vq.p 0=0
        · replace hE:gsE g vq.p ([]:List Int).length=0:=hE
          go_upto_region 11 with fail; refine wp_region_list ?_; refine xpL (.pointer (some ⟨Ra,0,none⟩)) ?_; refine xpL (.pointer (some ⟨B6,2,none⟩)) ?_; refine xaL (.int .i64 vq.p) (load1 3 _ ⟨B6,2,none⟩ _ rfl rfl (fun _=>by kernel_rfl) (M.get mS 2 _ rfl)) ?_
          have Mp:=M.perm (pull0 ([(B6,[.int .i64 vq.k,.int .i64 vq.o,.int .i64 vq.p,.int .i64 vq.n,.slice bp vq.b.length bc]),(B2,row .u8 32 y),(B1,row .u8 32 x)]:List (Nat × List Value)) ga ((obs su)++([]:List (Nat × List Value))))
          have key:=hK.sel w0 _ _ g ga _ vq.p none 0 ([]) hg hNo.w hov.p_i hIa (by decide) (xnR 0) (fun _=>rfl) (by unfold Byts; decide) Mp (show SrcA _ _ none 0 _ from ⟨fun j hj=>absurd hj (xnZ j),fun ad e=>by cases e⟩)
          rw [hE] at key
          refine xcL key ?_; clear key; rintro e w12 ⟨p12,c12,ba1,rfl,N_12,hI_,M',o1⟩; replace V_:=ownsRow_away V_ o1 (Mp.awayS (fun p_ hp_=>by simp [hp_])); clear o1 Mp M hIa; have hIa:=hI_; clear hI_
          have M:Mm w0 ((B6,[.int .i64 vq.k,.int .i64 vq.o,.int .i64 vq.p,.int .i64 vq.n,.slice bp vq.b.length bc])::(B2,row .u8 32 y)::(B1,row .u8 32 x)::(ba1++((obs p12)++((obs su)++([]:List (Nat × List Value)))))) w12:=M'.perm (pullY ([(B6,[.int .i64 vq.k,.int .i64 vq.o,.int .i64 vq.p,.int .i64 vq.n,.slice bp vq.b.length bc]),(B2,row .u8 32 y),(B1,row .u8 32 x)]:List (Nat × List Value)) ba1 (obs p12) ((obs su)++([]:List (Nat × List Value))))
          clear M'; refine xeL ?_; refine xpL (.tuple #[.slice p12 ((gsB g vq.p []).length) c12,.int .i64 0]) ?_; refine xpL (.slice p12 ((gsB g vq.p []).length) c12) ?_; refine xpL (.int .i64 0) ?_; refine xpL (.slice p12 ((gsB g vq.p []).length) c12) ?_; refine xpL (.int .i64 0) ?_; refine xT ?_; go_upto_region 12 with fail; refine wp_region_list ?_; refine xpL (.int .i64 0) ?_
          refine xaL (.bool false) (neqI .i64 _ _ _ _ _ _ rfl rfl rfl false (by decide) _) ?_; refine xT ?_; go_upto_region 15 with fail; refine wp_region_list ?_; refine xpL (.slice p12 ((gsB g vq.p []).length) c12) ?_
          have key:=use16_any p12 c12 (gsB g vq.p []) _ (by rw [gsB_len hE]; decide) (NewF.le N_12) (NewF.nilCap N_12) (gsB_byts hNo.w (by unfold Byts; decide)) (NewF.src N_12) _ (gsB_pps hNo.w hE) rfl
          replace key:Calls _ _ _ _ (fun e w'=>e=.returned (.tuple #[.agg #[.int .i64 g.out.e,.int .i64 vq.p,.int .i64 (g.cnt vq.p)],.bool true])∧_):=key
          refine xcL key ?_; clear key; rintro e w13 ⟨rfl,l_⟩; replace M:=M.call l_; replace hIa:=hK.bel hIa l_; replace V_:=ownsRow_bel V_ l_; replace N_12:=NewF.below N_12 l_; clear l_; refine xeL ?_; refine xpL (.tuple #[.agg #[.int .i64 g.out.e,.int .i64 vq.p,.int .i64 (g.cnt vq.p)],.bool true]) ?_; refine xpL (.agg #[.int .i64 g.out.e,.int .i64 vq.p,.int .i64 (g.cnt vq.p)]) ?_
          refine xpL (.bool true) ?_; have hlb:=(Below.refl w13.heap.size w13).alloc (xnR _) (.cells #[.int .i64 0,.int .i64 0,.int .i64 0] 39); refine actL (w':=w13.alloc (.cells #[.int .i64 0,.int .i64 0,.int .i64 0] 39)) (.pointer (some ⟨w13.heap.size,0,none⟩)) rfl (by kernel_rfl) ?_; simp only [aP,lI,l0,lS]; replace hIa:=hK.bel hIa hlb; replace V_:=ownsRow_bel V_ hlb
          replace N_12:=NewF.below N_12 hlb; replace M:=M.box #[.int .i64 0,.int .i64 0,.int .i64 0] 39 w13.heap.size rfl; clear hlb; generalize w13.alloc (.cells #[.int .i64 0,.int .i64 0,.int .i64 0] 39)=w14 at M hIa V_ N_12 ⊢
          have hA_B14:w13.heap.size≤w13.heap.size:=xnR _
          generalize eB_:w13.heap.size=B14 at M hA_B14 ⊢
          replace hA_B14:w13.heap.size≤B14:=Nat.le_of_eq eB_
          clear eB_
          replace M:Mm w0 ((B14,[.int .i64 0,.int .i64 0,.int .i64 0])::(B6,[.int .i64 vq.k,.int .i64 vq.o,.int .i64 vq.p,.int .i64 vq.n,.slice bp vq.b.length bc])::(B2,row .u8 32 y)::(B1,row .u8 32 x)::(ba1++((obs p12)++((obs su)++([]:List (Nat × List Value)))))) w14:=M
          refine skipOpL rfl (storeP [.int .i64 g.out.e,.int .i64 vq.p,.int .i64 (g.cnt vq.p)] B14 0 39 _ _ rfl rfl rfl (M.thereP mS 0 3 (Nat.le_of_ble_eq_true rfl)) (by kernel_rfl) (List.all_eq_true.1 (rfl:([.int .i64 g.out.e,.int .i64 vq.p,.int .i64 (g.cnt vq.p)]:List Value).all (fun u=>u.oneCell')=true))) ?_; simp only [Act.put]
          have oS:=(Off.refl [B14] w14).setAll (b:=B14) mS 0 [.int .i64 g.out.e,.int .i64 vq.p,.int .i64 (g.cnt vq.p)]; replace hIa:=hK.off _ _ _ _ _ _ hIa oS (fun b_ hb_=>by obtain rfl:=xm1 hb_; exact M.awayC (fun p_ hp_=>by simp [hp_])); replace V_:=ownsRow_away V_ oS (fun b_ hb_=>by obtain rfl:=xm1 hb_; exact M.awayB (fun p_ hp_=>by simp [hp_]))
          replace N_12:=NewF.offB N_12 oS (fun b_ hb_=>by obtain rfl:=xm1 hb_; exact M.awayB (fun p_ hp_=>by simp [hp_])); clear oS; replace M:=M.setAll [.int .i64 g.out.e,.int .i64 vq.p,.int .i64 (g.cnt vq.p)] rfl; generalize w14.setCells B14 0 [.int .i64 g.out.e,.int .i64 vq.p,.int .i64 (g.cnt vq.p)]=w15 at M hIa V_ N_12 ⊢; refine xpL (.bool true) ?_; refine xT ?_
          go_upto_region 16 with fail; refine wp_region_list ?_; refine xpL (.bool true) ?_; refine xpL (.bool false) ?_; refine xT ?_; go_upto_region 18 with fail; refine wp_region_list ?_; refine xpL (.int .i64 0) ?_; refine xT ?_
          replace M:Mm w0 ((B14,[.int .i64 g.out.e,.int .i64 vq.p,.int .i64 (g.cnt vq.p)])::(B6,[.int .i64 vq.k,.int .i64 vq.o,.int .i64 vq.p,.int .i64 vq.n,.slice bp vq.b.length bc])::(B2,row .u8 32 y)::(B1,row .u8 32 x)::(ba1++((obs su)++([]:List (Nat × List Value))))) w15:=M.sub _ (List.cons_sublist_cons.2 (List.cons_sublist_cons.2 (List.cons_sublist_cons.2 (List.cons_sublist_cons.2 ((List.Sublist.refl _).append (List.sublist_append_right _ _))))))
          clear N_12
          have HJ:=show Hid _ from (show I w15 (.pointer (some ⟨Ra,0,none⟩)) (gsN g vq.p ([]:List Int).length) ba1∧w15.ownsRow w0.heap.size 39 3 (.slice su U.length cu) U.length (wuc U)∧Mm w0 ((B14,[.int .i64 g.out.e,.int .i64 vq.p,.int .i64 (g.cnt vq.p)])::(B6,[.int .i64 vq.k,.int .i64 vq.o,.int .i64 vq.p,.int .i64 vq.n,.slice bp vq.b.length bc])::(B2,row .u8 32 y)::(B1,row .u8 32 x)::(ba1++((obs su)++([]:List (Nat × List Value))))) w15 from ⟨hIa,V_,M⟩)
          clear M hIa V_; go_wp2
          go_loopw [16] (fun i w'=>∃ z:Nat,z≤U.length∧i=.int .i64 (z:Int)∧I w' (.pointer (some ⟨Ra,0,none⟩)) (gsN g vq.p ([]:List Int).length) ba1∧w'.ownsRow w0.heap.size 39 3 (.slice su U.length cu) U.length (wuc U)∧Mm w0 ((B14,[.int .i64 g.out.e,.int .i64 vq.p,.int .i64 (g.cnt vq.p)])::(B6,[.int .i64 vq.k,.int .i64 vq.o,.int .i64 vq.p,.int .i64 vq.n,.slice bp vq.b.length bc])::(B2,row .u8 32 y)::(B1,row .u8 32 x)::(ba1++((obs su)++([]:List (Nat × List Value))))) w') (fun i _=>U.length-(intOf i).toNat)
          case atStart=>exact ⟨0,Nat.zero_le _,rfl,HJ.out⟩
          case round =>
           clear HJ
           obtain ⟨z,hzl,rfl,hIa,V_,M⟩:=hrel
           by_cases hz:z<U.length
           · obtain ⟨uq,huq⟩:∃ uq,U[z]?=some uq:=⟨_,List.getElem?_eq_getElem hz⟩
             have hnew:=hNo.new vq.p uq (List.mem_of_getElem? huq)
             obtain ⟨gu,rfl⟩:=row_some16 V_ (by omega)
             go_upto_region 19 with fail; refine wp_region_list ?_; refine xpL (.int .i64 (z:Int)) ?_; refine xpL (.slice (some ⟨gu,0,none⟩) U.length cu) ?_; refine xaL (.int .i64 ((U.length:Nat):Int)) (lenS _ 28 39 (some ⟨gu,0,none⟩) U.length cu rfl Tryz.underlying28 rfl _) ?_; refine xaL (.bool true) (lssI .i64 _ _ _ _ _ _ rfl rfl rfl true (decide_eq_true (by omega)) _) ?_
             refine xT ?_; go_upto_region 21 with fail
             refine wp_region_held_drew (S:=fun w'=>Mm w0 ((B14,[.int .i64 g.out.e,.int .i64 vq.p,.int .i64 (g.cnt vq.p)])::(B6,[.int .i64 vq.k,.int .i64 vq.o,.int .i64 vq.p,.int .i64 vq.n,.slice bp vq.b.length bc])::(B2,row .u8 32 y)::(B1,row .u8 32 x)::(ba1++((obs (some ⟨gu,0,none⟩))++([]:List (Nat × List Value))))) w'∧w'.ownsRow w0.heap.size 39 3 (.slice (some ⟨gu,0,none⟩) U.length cu) U.length (wuc U)) (by kernel_rfl) ⟨M.drew,ownsRow_bel V_ (Below.refl _ _).drew⟩ ?_
             intro _; replace M:=M.drew; have hdr:=(Below.refl wr.heap.size wr).drew; replace hIa:=hK.bel hIa hdr; replace V_:=ownsRow_bel V_ hdr; clear hdr; generalize wr.drew=w16 at M hIa V_ ⊢; refine xrH 0 70 rfl (.slice (some ⟨gu,0,none⟩) U.length cu) (fun _ ⟨M,hV_⟩=>(by kernel_rfl)) ⟨M,V_⟩ ?_
             refine xrH 1 71 rfl (.int .i64 (z:Int)) (fun _ ⟨M,hV_⟩=>(by kernel_rfl)) ⟨M,V_⟩ ?_; refine xrH 2 72 rfl (.pointer (some ((⟨gu,0,none⟩:Addr).add (z*3)))) (fun _ ⟨M,hV_⟩=>idxS16 28 39 3 _ _ ⟨gu,0,none⟩ z _ _ Tryz.underlying28 (fun _=>by kernel_rfl) hz rfl rfl rfl _) ⟨M,V_⟩ ?_
             refine xrH 3 73 rfl (.agg #[.int .i64 uq.1,.int .i64 uq.2.1,.int .i64 uq.2.2]) (fun _ ⟨M,hV_⟩=>loadN 39 _ ((⟨gu,0,none⟩:Addr).add (z*3)) [.int .i64 uq.1,.int .i64 uq.2.1,.int .i64 uq.2.2] rfl rfl (fun _=>by kernel_rfl) (fun _=>by kernel_rfl) (fun j_ v_ hv_=>by have h_:=World.ownsRow.cells hV_ (g:=gu) rfl _ _ (wuc_get U z uq huq j_ v_ hv_); rw [Addr.add_add]; exact h_)) ⟨M,V_⟩ ?_
             refine xrH 4 74 rfl (.agg #[.int .i64 g.out.e,.int .i64 vq.p,.int .i64 (g.cnt vq.p)]) (fun _ ⟨M,hV_⟩=>loadN 39 _ ⟨B14,0,none⟩ [.int .i64 g.out.e,.int .i64 vq.p,.int .i64 (g.cnt vq.p)] rfl rfl (fun _=>by kernel_rfl) (fun _=>by kernel_rfl) (M.rangeAt mS)) ⟨M,V_⟩ ?_
             refine readH (i:=5) (some 75) rfl (.bool false) rfl rfl (fun _ ⟨M,hV_⟩=>eqlUs _ _ _ _ _ _ _ _ rfl rfl rfl false (by
              have h_:¬ (uq.1=g.out.e∧uq.2.1=vq.p∧uq.2.2=g.cnt vq.p):=hnew
              cases h1_:(uq.1 == g.out.e&&(uq.2.1 == vq.p&&uq.2.2 == g.cnt vq.p)) with
              | false=>rfl
              | true =>
                simp only [xbA,beq_iff_eq] at h1_
                exact absurd h1_ h_) _) (by kernel_rfl) (by kernel_rfl) (by kernel_rfl) (fun _ _ _ h=>h) ⟨M,V_⟩ ?_
             simp only [aP,lI,l0,lS]
             refine wpAnyH_done (by kernel_rfl) ?_ _
             first | show Exit.then _ _ _ _ _ | show Exit.inBlock _ _ _ _ _
             have HS:=show Hid _ from (And.intro hIa (And.intro V_ M)); clear M hIa V_ hNo hnew; go_wp2
             go_roundw
             case rel=>exact ⟨z+1,by omega,by go_num,HS.out⟩
             case measure=>simp [intOf]; omega
           · go_upto_region 19 with fail
             refine wp_region_list ?_; refine xpL (.int .i64 (z:Int)) ?_; refine xpL (.slice su U.length cu) ?_; refine xaL (.int .i64 ((U.length:Nat):Int)) (lenS _ 28 39 su U.length cu rfl Tryz.underlying28 rfl _) ?_; refine xaL (.bool false) (lssI .i64 _ _ _ _ _ _ rfl rfl rfl false (decide_eq_false (by omega)) _) ?_; refine xT ?_; go_upto_region 23 with fail; refine wp_region_list ?_
             refine xpL (.slice su U.length cu) ?_; refine xaL (.agg #[.int .i64 g.out.e,.int .i64 vq.p,.int .i64 (g.cnt vq.p)]) (loadN 39 _ ⟨B14,0,none⟩ [.int .i64 g.out.e,.int .i64 vq.p,.int .i64 (g.cnt vq.p)] rfl rfl (fun _=>by kernel_rfl) (fun _=>by kernel_rfl) (M.rangeAt mS)) ?_
             have S_1:=World.ownsRow.cells (World.ownsRow_lit (base:=wr.heap.size) (e:=39) (size:=3) wr #[.int .i64 g.out.e,.int .i64 vq.p,.int .i64 (g.cnt vq.p)] 1 (xnR _) (by unfold maxLen; omega) rfl) (g:=wr.heap.size) rfl; have hlb:=(Below.refl wr.heap.size wr).alloc (xnR _) (.cells #[.int .i64 g.out.e,.int .i64 vq.p,.int .i64 (g.cnt vq.p)] 39)
             refine actL (w':=wr.alloc (.cells #[.int .i64 g.out.e,.int .i64 vq.p,.int .i64 (g.cnt vq.p)] 39)) (.slice (some ⟨wr.heap.size,0,none⟩) 1 1) rfl (by kernel_rfl) ?_; simp only [aP,lI,l0,lS]; replace hIa:=hK.bel hIa hlb; replace V_:=ownsRow_bel V_ hlb; replace M:=M.call hlb; clear hlb
             generalize wr.alloc (.cells #[.int .i64 g.out.e,.int .i64 vq.p,.int .i64 (g.cnt vq.p)] 39)=w17 at M S_1 hIa V_ ⊢; generalize wr.heap.size=bz at S_1 ⊢
             obtain ⟨v2,w18,hr,V2,hgr,hg2⟩:=run_append_OwnV (P:=Tryz.prog) (ty:=28) Tryz.underlying28 manyU rfl (by decide) V_ ⟨bz,0,none⟩ 1 1 [.int .i64 g.out.e,.int .i64 vq.p,.int .i64 (g.cnt vq.p)] rfl S_1 (wuc_one [(g.out.e,vq.p,g.cnt vq.p)]) (by unfold maxLen; omega) (by omega) M.below.size
             have Mp:=M.perm (pull1 ([(B14,[.int .i64 g.out.e,.int .i64 vq.p,.int .i64 (g.cnt vq.p)]),(B6,[.int .i64 vq.k,.int .i64 vq.o,.int .i64 vq.p,.int .i64 vq.n,.slice bp vq.b.length bc]),(B2,row .u8 32 y),(B1,row .u8 32 x)]:List (Nat × List Value)) ba1 (obs su) ([]:List (Nat × List Value)))
             obtain ⟨sv,cv,rfl,_,_⟩:=row_form16 V2
             have M':=Mp.rowApp V_ hgr V2 hg2 (xnR _)
             have oS:Off (ob su) w17 w18:=(Off.refl (ob su) w17).grown hgr (fun b_ hb_=>.inl ((ob_own _ _ _ _).1 hb_))
             replace hIa:=hK.off _ _ _ _ _ _ hIa oS (fun b_ hb_=>Mp.awayG (fun p_ hp_=>by simp [hp_]) b_ (by rw [obs_fst]; exact hb_)); refine xaL _ (appendOp _ _ 28 _ _ _ rfl rfl rfl hr) ?_
             replace V2:w18.ownsRow w0.heap.size 39 3 (.slice sv (U++[(g.out.e,vq.p,g.cnt vq.p)]).length cv) (U++[(g.out.e,vq.p,g.cnt vq.p)]).length (wuc (U++[(g.out.e,vq.p,g.cnt vq.p)])):=by rw [wuc_app,List.length_append]; exact V2
             clear hr hgr hg2 V_ S_1 oS Mp M
             have M:Mm w0 ((B14,[.int .i64 g.out.e,.int .i64 vq.p,.int .i64 (g.cnt vq.p)])::(B6,[.int .i64 vq.k,.int .i64 vq.o,.int .i64 vq.p,.int .i64 vq.n,.slice bp vq.b.length bc])::(B2,row .u8 32 y)::(B1,row .u8 32 x)::(obs sv++(ba1++([]:List (Nat × List Value))))) w18:=M'.perm (pull0 ([(B14,[.int .i64 g.out.e,.int .i64 vq.p,.int .i64 (g.cnt vq.p)]),(B6,[.int .i64 vq.k,.int .i64 vq.o,.int .i64 vq.p,.int .i64 vq.n,.slice bp vq.b.length bc]),(B2,row .u8 32 y),(B1,row .u8 32 x)]:List (Nat × List Value)) (obs sv) (ba1++([]:List (Nat × List Value)))).symm
             clear M'; refine xpL (.slice sv (U.length+1) cv) ?_; refine xT ?_; replace M:=M.rot4; replace M:=M.rot4
             have M3:Mm w0 ((B2,row .u8 32 y)::(B1,row .u8 32 x)::((obs sv)++(ba1++([]:List (Nat × List Value))))) w18:=M.sub _ (List.cons_sublist_cons.2 (List.cons_sublist_cons.2 (List.Sublist.cons _ (List.Sublist.cons _ (List.Sublist.refl _)))))
             clear M
             have M:Mm w0 ((B2,row .u8 32 y)::(B1,row .u8 32 x)::(ba1++(obs sv++([]:List (Nat × List Value))))) w18:=M3.perm (List.Perm.cons _ (List.Perm.cons _ (by rw [List.append_nil,List.append_nil]; exact List.perm_append_comm)))
             clear M3
             have HS:=show Hid _ from (show NonI (gsN g vq.p ([]:List Int).length) (U++[(g.out.e,vq.p,g.cnt vq.p)])∧I w18 (.pointer (some ⟨Ra,0,none⟩)) (gsN g vq.p ([]:List Int).length) ba1∧w18.ownsRow w0.heap.size 39 3 (.slice sv ((U++[(g.out.e,vq.p,g.cnt vq.p)])).length cv) ((U++[(g.out.e,vq.p,g.cnt vq.p)])).length (wuc (U++[(g.out.e,vq.p,g.cnt vq.p)]))∧Mm w0 ((B2,row .u8 32 y)::(B1,row .u8 32 x)::(ba1++(obs sv++([]:List (Nat × List Value))))) w18 from ⟨hNo.sel hE,hIa,V2,M⟩)
             clear M hIa V2 hNo; go_wp2
             go_roundw
             case rel=>exact ⟨q+1,gsN g vq.p ([]:List Int).length,(U++[(g.out.e,vq.p,g.cnt vq.p)]),ba1,sv,cv,by omega,by omega,by rw [List.length_append]; simp only [List.length_cons,List.length_nil]; omega,by rw [List.length_append]; rfl,by go_num,HS.out⟩
             case measure=>simp [intOf]; omega
        · replace hE:=show ¬ gsE g vq.p ([]:List Int).length=0 from hE
          go_upto_region 11 with fail; refine wp_region_list ?_; refine xpL (.pointer (some ⟨Ra,0,none⟩)) ?_; refine xpL (.pointer (some ⟨B6,2,none⟩)) ?_; refine xaL (.int .i64 vq.p) (load1 3 _ ⟨B6,2,none⟩ _ rfl rfl (fun _=>by kernel_rfl) (M.get mS 2 _ rfl)) ?_
          have Mp:=M.perm (pull0 ([(B6,[.int .i64 vq.k,.int .i64 vq.o,.int .i64 vq.p,.int .i64 vq.n,.slice bp vq.b.length bc]),(B2,row .u8 32 y),(B1,row .u8 32 x)]:List (Nat × List Value)) ga ((obs su)++([]:List (Nat × List Value))))
          have key:=hK.sel w0 _ _ g ga _ vq.p none 0 ([]) hg hNo.w hov.p_i hIa (by decide) (xnR 0) (fun _=>rfl) (by unfold Byts; decide) Mp (show SrcA _ _ none 0 _ from ⟨fun j hj=>absurd hj (xnZ j),fun ad e=>by cases e⟩)
          rw [gsB_err (g:=g) (p:=vq.p) (t:=[]) hE] at key
          refine xcL key ?_; clear key; rintro e w11 ⟨p11,c11,ba1,rfl,N_11,hI_,M',o1⟩; replace V_:=ownsRow_away V_ o1 (Mp.awayS (fun p_ hp_=>by simp [hp_])); clear o1 Mp M hIa; have hIa:=hI_; clear hI_
          have M:Mm w0 ((B6,[.int .i64 vq.k,.int .i64 vq.o,.int .i64 vq.p,.int .i64 vq.n,.slice bp vq.b.length bc])::(B2,row .u8 32 y)::(B1,row .u8 32 x)::(ba1++((obs p11)++((obs su)++([]:List (Nat × List Value)))))) w11:=M'.perm (pullY ([(B6,[.int .i64 vq.k,.int .i64 vq.o,.int .i64 vq.p,.int .i64 vq.n,.slice bp vq.b.length bc]),(B2,row .u8 32 y),(B1,row .u8 32 x)]:List (Nat × List Value)) ba1 (obs p11) ((obs su)++([]:List (Nat × List Value))))
          clear M'; refine xeL ?_; refine xpL (.tuple #[.slice p11 ((([]:List Int)).length) c11,.int .i64 (gsE g vq.p ([]:List Int).length)]) ?_; refine xpL (.slice p11 ((([]:List Int)).length) c11) ?_; refine xpL (.int .i64 (gsE g vq.p ([]:List Int).length)) ?_; refine xpL (.slice p11 ((([]:List Int)).length) c11) ?_; refine xpL (.int .i64 (gsE g vq.p ([]:List Int).length)) ?_
          refine xT ?_; go_upto_region 12 with fail; refine wp_region_list ?_; refine xpL (.int .i64 (gsE g vq.p ([]:List Int).length)) ?_; refine xaL (.bool true) (neqI .i64 _ _ _ _ _ _ rfl rfl rfl true (by rw [bne_iff_ne]; exact hE) _) ?_; refine xT ?_; go_upto_region 13 with fail; refine wp_region_list ?_; refine xpL (.slice p11 ((([]:List Int)).length) c11) ?_
          refine readL (.int .i64 (((([]:List Int)).length:Nat):Int)) rfl (lenS _ 29 5 p11 ((([]:List Int)).length) c11 rfl Tryz.underlying29 rfl _) ?_; simp only [aP,lI,l0,lS]; refine xaL (.bool false) (gtrI .i64 _ _ _ _ _ _ rfl rfl rfl false (decide_eq_false (by decide)) _) ?_; refine xT ?_
          replace M:Mm w0 ((B6,[.int .i64 vq.k,.int .i64 vq.o,.int .i64 vq.p,.int .i64 vq.n,.slice bp vq.b.length bc])::(B2,row .u8 32 y)::(B1,row .u8 32 x)::(ba1++((obs su)++([]:List (Nat × List Value))))) w11:=M.sub _ (List.cons_sublist_cons.2 (List.cons_sublist_cons.2 (List.cons_sublist_cons.2 ((List.Sublist.refl _).append (List.sublist_append_right _ _)))))
          clear N_11; replace M:=M.rot3; replace M:=M.rot3
          have M3:Mm w0 ((B2,row .u8 32 y)::(B1,row .u8 32 x)::(ba1++((obs su)++([]:List (Nat × List Value))))) w11:=M.sub _ (List.cons_sublist_cons.2 (List.cons_sublist_cons.2 (List.Sublist.cons _ (List.Sublist.refl _))))
          clear M
          have M:Mm w0 ((B2,row .u8 32 y)::(B1,row .u8 32 x)::(ba1++(obs su++([]:List (Nat × List Value))))) w11:=M3
          clear M3; have HS:=show Hid _ from (show NonI (gsN g vq.p ([]:List Int).length) U∧I w11 (.pointer (some ⟨Ra,0,none⟩)) (gsN g vq.p ([]:List Int).length) ba1∧w11.ownsRow w0.heap.size 39 3 (.slice su (U).length cu) (U).length (wuc U)∧Mm w0 ((B2,row .u8 32 y)::(B1,row .u8 32 x)::(ba1++(obs su++([]:List (Nat × List Value))))) w11 from ⟨hNo.same hE,hIa,V_,M⟩)
          clear M hIa V_ hNo; go_wp2
          go_roundw
          case rel=>exact ⟨q+1,gsN g vq.p ([]:List Int).length,U,ba1,su,cu,by omega,by omega,by omega,rfl,by go_num,HS.out⟩
          case measure=>simp [intOf]; omega
  | false =>
    try clear hb1
    try clear hb2
    try clear hb3
    go_upto_region 28 with fail; refine wp_region_list ?_; refine xpL (.bool true) ?_; refine xT ?_; have hbel:=M.below; clear M hIa V_; go_wp2; go_ret
    exact ⟨rfl,hbel⟩
section
open Go.RowKit Go.MapKept Go.ChangeMaps Go.WideShapes
def heldR (v:Value):Option (DataW Value × List MemPlace):=some (.held v,[])
def IM (P:Program) (k:TypeId) (w:World) (b n:Nat) (f:Int→Option Value):Prop :=
 ∃ D:DataW Value,w.ownsMap P k heldR b n D∧∀ x,i64 x→Maps.has D (.int .i64 x)=(f x).isSome∧∀ d,D.atKey (.int .i64 x) d=((f x).map DataW.held).getD d
theorem wfI {x:Int} (h:i64 x):(Lit.int .i64 x).wf=true:=WalkArith.wf_i64 (by unfold i64 at h; omega)
theorem litNe {x y:Int} (h:y≠x):(Lit.int .i64 y)≠.int .i64 x:=fun e=>by injection e with _ e; exact h e
def iput (f:Int→Option Value) (x:Int) (v:Value):Int→Option Value:=fun y=>if y=x then some v else f y
theorem iput_same (f:Int→Option Value) (x:Int) (v:Value):iput f x v x=some v:=if_pos rfl
theorem iput_other {f:Int→Option Value} {x y:Int} {v:Value} (h:¬ y=x):iput f x v y=f y:=if_neg h
section
variable {P:Program} {k t e:TypeId} {w:World} {b n:Nat} {f:Int→Option Value}
theorem IM.made (P:Program) (k:TypeId) (w:World):IM P k (w.alloc (.map #[] 0)) w.heap.size 0 (fun _=>none) :=
 ⟨_,World.ownsMap_made w P k heldR,fun _ _=>⟨rfl,fun _=>rfl⟩⟩
theorem IM.mono (h:IM P k w b n f) {m:Nat} (hm:n≤m):IM P k w b m f:=let ⟨D,h,h2⟩:=h; ⟨D,h.mono hm,h2⟩
theorem IM.off {w':World} {X:List Nat} (h:IM P k w b n f) (o:Off X w w') (hb:b∉X):IM P k w' b n f:=by
 obtain ⟨D,⟨es,clock,h1,h2⟩,h3⟩:=h
 exact ⟨D,⟨es,clock,(o.blk b (Array.getElem?_eq_some_iff.1 h1).1 hb).trans h1,h2⟩,h3⟩
theorem IM.bel {w':World} (h:IM P k w b n f) (l:Below w.heap.size w w'):IM P k w' b n f:=h.off (X:=[]) (Off.of_below l) (fun hb=>by cases hb)
theorem IM.look (h:IM P k w b n f) (hk:P.underlying k=some (.int .i64)) (ht:P.underlying t=some (.map k e)) {z:Value} (hz:(zeroValue e).run P w=.ok z w) {x:Int} (hx:i64 x):(Instr.lookup t (.map (some b)) (.int .i64 x) false).run P w=.ok ((f x).getD z) w:=by
 obtain ⟨D,h1,h2⟩:=h
 obtain ⟨v,ps,hr,hv⟩:=h1.lookup (Maps.int_keyed hk) ht hz (show heldR z=some (.held z,[]) from rfl) (Maps.keyOf_int_mk hk (wfI hx))
 rw [hr]
 have e:=(h2 x hx).2 (.held z)
 unfold heldR at hv
 injection hv with hv
 injection hv with hv _
 rw [e] at hv
 cases hf:f x with
 | none=>rw [hf] at hv; injection hv with hv; rw [hv]; rfl
 | some u=>rw [hf] at hv; injection hv with hv; rw [hv]; rfl
theorem IM.lookOk (h:IM P k w b n f) (hk:P.underlying k=some (.int .i64)) (ht:P.underlying t=some (.map k e)) {z:Value} (hz:(zeroValue e).run P w=.ok z w) {x:Int} (hx:i64 x):(Instr.lookup t (.map (some b)) (.int .i64 x) true).run P w=.ok (.tuple #[(f x).getD z,.bool (f x).isSome]) w:=by
 obtain ⟨D,h1,h2⟩:=h
 obtain ⟨v,ps,hr,hv⟩:=h1.look_ok (Maps.int_keyed hk) ht hz (show heldR z=some (.held z,[]) from rfl) (Maps.keyOf_int_mk hk (wfI hx))
 rw [hr,(h2 x hx).1]
 have e:=(h2 x hx).2 (.held z)
 unfold heldR at hv
 injection hv with hv
 injection hv with hv _
 rw [e] at hv
 cases hf:f x with
 | none=>rw [hf] at hv; injection hv with hv; rw [hv]; rfl
 | some u=>rw [hf] at hv; injection hv with hv; rw [hv]; rfl
theorem IM.put (h:IM P k w b n f) (hk:P.underlying k=some (.int .i64)) (ht:P.underlying t=some (.map k e)) (hn:n<maxLen) {x:Int} (hx:i64 x) (v:Value) :
 ∃ w',(Instr.mapUpdate t (.map (some b)) (.int .i64 x) v).run P w=.ok () w'∧IM P k w' b (n+1) (iput f x v)∧w.grownBy w' (some b):=by
 obtain ⟨D,h1,h2⟩:=h
 obtain ⟨w',hr,ho,hg⟩:=h1.update (Maps.int_keyed hk) ht hn (Maps.keyOf_int_mk hk (wfI hx)) (show heldR v=some (.held v,[]) from rfl)
 refine ⟨w',hr,⟨_,ho,fun y hy=>?_⟩,hg⟩
 by_cases c:y=x
 · subst c
   rw [iput_same]
   exact ⟨Maps.has_put_same h1.isMap (show WideAt.IsKeyLit (.int .i64 y) from trivial) _,fun d=>Maps.atKey_put_same h1.isMap (show WideAt.IsKeyLit (.int .i64 y) from trivial) _ d⟩
 · rw [iput_other c]
   exact ⟨(Maps.has_put_other (litNe c) _).trans (h2 y hy).1,fun d=>(Maps.atKey_put_other (litNe c) _ d).trans ((h2 y hy).2 d)⟩
theorem IM.bound (h:IM P k w b n f) (hk:P.underlying k=some (.int .i64)) (m:Nat) (hf:∀ x,(f x).isSome=true→0≤x∧x<m):IM P k w b m f:=by
 obtain ⟨D,ho,h2⟩:=h
 obtain ⟨L,hD,hp⟩:=ho.tidy (Maps.int_keyed hk)
 have h3:=fun x hx=>(h2 x hx).1
 obtain ⟨es,clock,hb,F,hs,hD'⟩:=ho
 refine ⟨D,⟨es,clock,hb,F,?_,hD'⟩,h2⟩
 have e1:L=(es.toList.map (WideElems.rg P k heldR)).foldr DataW.insert []:=by rw [hD] at hD'; injection hD'
 have e2:es.size=L.length:=by rw [e1,length_read]
 have hle:(L.map Prod.fst).length≤((List.range m).map fun i:Nat=>Lit.int .i64 (i:Int)).length:=?_
 · rw [List.length_map,List.length_map,List.length_range] at hle
   omega
 refine List.Nodup.length_le_of_subset (List.pairwise_map.2 hp) fun l hl=>?_
 obtain ⟨p,hpm,rfl⟩:=List.mem_map.1 hl
 rw [e1] at hpm
 obtain ⟨x,hx,hpx⟩:=List.mem_map.1 (mem_sorted.1 hpm)
 obtain ⟨y,hy⟩:=F.reads x hx
 rw [WideElems.rg_of hy] at hpx
 subst hpx; have hkey:=WideElems.rd_key hy
 have hkm:mapKey P k x.key=some y.1:=by
  unfold keyOf at hkey
  rw [hk] at hkey
  exact hkey
 unfold mapKey at hkm
 rw [hk] at hkm
 cases hxk:x.key with
 | int q a =>
   rw [hxk] at hkm
   simp only [Option.ite_none_right_eq_some,Option.some.injEq] at hkm
   obtain ⟨⟨rfl,hw⟩,hy1⟩:=hkm
   have hi:i64 a:=by
    unfold i64
    simp [Lit.wf,IntKind.min,IntKind.max,IntKind.signed,IntKind.bits] at hw
    omega
   have hh:Maps.has D (.int .i64 a)=true:=by
    rw [hD,Maps.has_eq,List.any_eq_true]
    exact ⟨y,by rw [e1]; exact hpm,by rw [← hy1]; exact WideAt.sameKey_self (show WideAt.IsKeyLit (.int .i64 a) from trivial)⟩
   rw [h3 a hi] at hh
   have hr:=hf a hh
   refine List.mem_map.2 ⟨a.toNat,List.mem_range.2 (by omega),?_⟩
   rw [← hy1,Int.toNat_of_nonneg hr.1]
 | _=>rw [hxk] at hkm; simp at hkm
theorem IM.clr (h:IM P k w b n f) (ht:P.underlying t=some (.map k e)) (ty:TypeId):∃ w',(Builtin.clear_ #[t] ty #[.map (some b)]).run P w=.ok (.tuple #[]) w'∧IM P k w' b 0 (fun _=>none)∧w.grownBy w' (some b):=by
 obtain ⟨D,⟨es,clock,hb,hF,_⟩,_⟩:=h
 refine ⟨setBlock w b (.map #[] clock),?_,⟨.map [],⟨#[],clock,heap_setBlock_same hb _,⟨by simp,stamped_empty clock,by simp⟩,xnR _,rfl⟩,fun _ _=>⟨rfl,fun _=>rfl⟩⟩,⟨rfl,rfl,rfl,by simp [setBlock],fun i _ hi=>heap_setBlock_other hb _ (fun e=>hi (by rw [e]))⟩⟩
 simp [Builtin.clear_,run_underlying ht,MapKept.run_getObj_map hb,MapKept.run_setObj_map _ hb,setBlock,Result.andThen]
end
section
variable {P:Program} {k t e:TypeId} {w:World} {b n:Nat} {f:Int→Option Value} {o:Oper} {a:Act}
end
theorem Mm.touch {w0 w w':World} {l:List (Nat × List Value)} {b:Nat} (M:Mm w0 ((b,[])::l) w) (g:w.grownBy w' (some b)):Mm w0 ((b,[])::l) w':=by
 have h:=M.tail.grownN g fun b' e=>by
  injection e with e
  subst e
  exact ⟨M.lo mS,fun p hp e=>(List.pairwise_cons.1 M.apart).1 p hp e.symm⟩
 exact h.addB (M.lo mS) (xnL (M.lt mS) g.size) fun p hp e=>(List.pairwise_cons.1 M.apart).1 p hp e.symm
theorem Off.touched {w w':World} {b:Nat} (g:w.grownBy w' (some b)):Off [b] w w':=(Off.refl [b] w).grown g fun b' e=>by
 injection e with e
 subst e
 exact .inl mS
end
def rp (n:Int):Nat:=(n%1024).toNat
structure Bts (W:Nat→Nat) (f:Nat→Bool):Prop where
 lt:∀ i,i<16→W i<2^64
 bit:∀ i b,i<16→b<64→(W i).testBit b=f (64*i+b)
def wsee (L:List Int) (k:Nat):Bool:=decide (wtop L-(k:Int)∈L)
theorem Bts.nil:Bts (fun _=>0) (wsee []):=⟨fun _ _=>by decide,fun i b _ _=>by rw [Nat.zero_testBit]; exact (decide_eq_false (by simp)).symm⟩
theorem Bts.congr {W:Nat→Nat} {f g:Nat→Bool} (h:Bts W f) (e:∀ k,k<1024→f k=g k):Bts W g:=⟨h.lt,fun i b hi hb=>by rw [h.bit i b hi hb]; exact e _ (by omega)⟩
theorem Bts.at {W:Nat→Nat} {f:Nat→Bool} (h:Bts W f) (k:Nat) (hk:k<1024):(W (k/64)).testBit (k%64)=f k:=by
 rw [h.bit _ _ (by omega) (by omega)]
 congr 1
 omega
theorem Bts.put {W V:Nat→Nat} {f:Nat→Bool} (h:Bts W f) (k:Nat) (hV:∀ i,i<16→V i=if i=k/64 then W i ||| 2^(k%64) else W i):Bts V (fun j=>decide (j=k) || f j):=by
 refine ⟨fun i hi=>?_,fun i b hi hb=>?_⟩
 · rw [hV i hi]
   split
   · exact Nat.or_lt_two_pow (h.lt i hi) (Nat.pow_lt_pow_right (by decide) (by omega))
   · exact h.lt i hi
 · rw [hV i hi]
   split
   · next e =>
     rw [Nat.testBit_or,h.bit i b hi hb,Nat.testBit_two_pow,Bool.or_comm]
     congr 1
     exact decide_eq_decide.2 (by omega)
   · next e =>
     rw [h.bit i b hi hb,decide_eq_false (by omega),Bool.false_or]
def wup (W:Nat→Nat) (d i:Nat):Nat:=if d/64≤i then W (i-d/64)*2^(d%64)%2^64 else 0
def wdn (W:Nat→Nat) (d i:Nat):Nat:=if d/64<i then W (i-d/64-1)/2^(64-d%64) else 0
def wst (W:Nat→Nat) (d i:Nat):Nat:=wup W d i ||| wdn W d i
theorem wup_lt (W:Nat→Nat) (d i:Nat):wup W d i<2^64:=by
 unfold wup
 split
 · exact Nat.mod_lt _ (by decide)
 · decide
theorem Bts.div_lt {W:Nat→Nat} {f:Nat→Bool} (h:Bts W f) (i e:Nat) (hi:i<16):W i/2^e<2^64:=Nat.lt_of_le_of_lt (Nat.div_le_self _ _) (h.lt i hi)
theorem Bts.up {W:Nat→Nat} {f:Nat→Bool} (h:Bts W f) (d:Nat):Bts (wst W d) (fun k=>decide (d≤k)&&f (k-d)):=by
 refine ⟨fun i hi=>?_,fun i b hi hb=>?_⟩
 · refine Nat.or_lt_two_pow (wup_lt W d i) ?_
   unfold wdn
   split
   · exact h.div_lt _ _ (by omega)
   · decide
 · have e1:(wup W d i).testBit b=(decide (64*(d/64)+d%64≤64*i+b∧d%64≤b)&&f (64*i+b-d)):=by
    unfold wup
    by_cases c:d/64≤i
    · rw [if_pos c,Nat.testBit_mod_two_pow,decide_eq_true hb,Bool.true_and,Nat.testBit_mul_two_pow]
      by_cases c2:d%64≤b
      · rw [decide_eq_true (show b≥d%64 from c2),Bool.true_and,h.bit _ _ (by omega) (by omega),decide_eq_true (by omega),Bool.true_and]
        congr 1
        omega
      · rw [decide_eq_false (show ¬ b≥d%64 from c2),Bool.false_and,decide_eq_false (by omega),Bool.false_and]
    · rw [if_neg c,Nat.zero_testBit,decide_eq_false (by omega),Bool.false_and]
   have e2:(wdn W d i).testBit b=(decide (64*(d/64)+d%64≤64*i+b∧b<d%64)&&f (64*i+b-d)):=by
    unfold wdn
    by_cases c:d/64<i
    · rw [if_pos c,Nat.testBit_div_two_pow]
      by_cases c2:b<d%64
      · rw [h.bit _ _ (by omega) (by omega),decide_eq_true (by omega),Bool.true_and]
        congr 1
        omega
      · rw [Nat.testBit_lt_two_pow (xnL (h.lt _ (by omega)) (Nat.pow_le_pow_right (by decide) (by omega))),decide_eq_false (by omega),Bool.false_and]
    · rw [if_neg c,Nat.zero_testBit,decide_eq_false (by omega),Bool.false_and]
   unfold wst
   rw [Nat.testBit_or,e1,e2,← Bool.and_or_distrib_right]
   congr 1
   rw [← Bool.decide_or]
   exact decide_eq_decide.2 (by omega)
theorem wsee_put {L:List Int} {n:Int} {k:Nat} (hk:wtop L-n=(k:Int)) (j:Nat):(decide (j=k) || wsee L j)=wsee (L++[n]) j:=by
 unfold wsee
 rw [← Bool.decide_or,wtop_app,show max (wtop L) n=wtop L by omega]
 refine decide_eq_decide.2 ?_
 rw [List.mem_append,List.mem_singleton]
 constructor
 · rintro (h | h)
   · exact .inr (by omega)
   · exact .inl h
 · rintro (h | h)
   · exact .inr h
   · exact .inl (by omega)
theorem wsee_up {L:List Int} {n:Int} {d:Nat} (hd:n-wtop L=(d:Int)) (h1:1≤d) (j:Nat):(decide (j=0) || (decide (d≤j)&&wsee L (j-d)))=wsee (L++[n]) j:=by
 unfold wsee
 rw [← Bool.decide_and,← Bool.decide_or,wtop_app,show max (wtop L) n=n by omega]
 refine decide_eq_decide.2 ?_
 rw [List.mem_append,List.mem_singleton]
 constructor
 · rintro (h | ⟨h,h2⟩)
   · exact .inr (by omega)
   · refine .inl ?_
     rw [show n-(j:Int)=wtop L-((j-d:Nat):Int) by omega]
     exact h2
 · rintro (h | h)
   · have:=wtop_le h
     refine .inr ⟨by omega,?_⟩
     rw [show wtop L-((j-d:Nat):Int)=n-(j:Int) by omega]
     exact h
   · exact .inl (by omega)
def Wds (W:Nat→Nat) (L:List Int):Prop:=Bts W (wsee L)
theorem Wds.at {W:Nat→Nat} {L:List Int} (h:Wds W L) {n:Int} {k:Nat} (hk:wtop L-n=(k:Int)) (hlt:k<1024):(W (k/64)).testBit (k%64)=decide (n∈L):=by
 rw [Bts.at h k hlt]
 unfold wsee
 rw [← hk]
 exact decide_eq_decide.2 (by rw [show wtop L-(wtop L-n)=n by omega])
theorem shr64 (x e:Nat) (he:e≤64):(x:Int)/2^min ((e:Nat):Int).toNat IntKind.u64.bits=((x/2^e:Nat):Int):=by
 have h1:min ((e:Nat):Int).toNat IntKind.u64.bits=e:=by
  show min ((e:Nat):Int).toNat 64=e
  omega
 rw [h1]
 norm_cast
theorem shl64 (x e:Nat) (he:e≤64):IntKind.u64.wrap ((x:Int)*2^min ((e:Nat):Int).toNat IntKind.u64.bits)=((x*2^e%2^64:Nat):Int):=by
 have h1:min ((e:Nat):Int).toNat IntKind.u64.bits=e:=by
  show min ((e:Nat):Int).toNat 64=e
  omega
 rw [h1,show (x:Int)*2^e=((x*2^e:Nat):Int) by norm_cast,IntKind.wrap_u64]
 omega
theorem and64 (x y:Nat) (hx:x<2^64) (hy:y<2^64):bits .and .u64 (x:Int) (y:Int)=((x &&& y:Nat):Int):=by
 have key:(BitVec.ofInt 64 (x:Int) &&& BitVec.ofInt 64 (y:Int)).toNat=x &&& y:=by
  rw [BitVec.toNat_and,BitVec.toNat_ofInt,BitVec.toNat_ofInt,show ((x:Int)%((2^64:Nat):Int)).toNat=x by omega,show ((y:Int)%((2^64:Nat):Int)).toNat=y by omega]
 show IntKind.u64.wrap ((BitVec.ofInt 64 (x:Int) &&& BitVec.ofInt 64 (y:Int)).toNat:Nat)=_
 rw [key,IntKind.wrap_u64]
 have:=Nat.and_lt_two_pow x hy
 omega
theorem or64 (x y:Nat) (hx:x<2^64) (hy:y<2^64):bits .or .u64 (x:Int) (y:Int)=((x ||| y:Nat):Int):=by
 have key:(BitVec.ofInt 64 (x:Int) ||| BitVec.ofInt 64 (y:Int)).toNat=x ||| y:=by
  rw [BitVec.toNat_or,BitVec.toNat_ofInt,BitVec.toNat_ofInt,show ((x:Int)%((2^64:Nat):Int)).toNat=x by omega,show ((y:Int)%((2^64:Nat):Int)).toNat=y by omega]
 show IntKind.u64.wrap ((BitVec.ofInt 64 (x:Int) ||| BitVec.ofInt 64 (y:Int)).toNat:Nat)=_
 rw [key,IntKind.wrap_u64]
 have:=Nat.or_lt_two_pow hx hy
 omega
theorem bit64 (x e:Nat) (hx:x<2^64):bits .and .u64 ((x/2^e:Nat):Int) 1=(if x.testBit e then 1 else 0):=by
 rw [show (1:Int)=((1:Nat):Int) from rfl,and64 _ 1 (Nat.lt_of_le_of_lt (Nat.div_le_self _ _) hx) (by decide),Nat.and_one_is_mod]
 rw [Nat.testBit_eq_decide_div_mod_eq]
 by_cases h:x/2^e%2=1
 · rw [h,decide_eq_true rfl]; rfl
 · rw [decide_eq_false h,show x/2^e%2=0 by omega]; rfl
section
section
variable {P:Program} {ops:Array Oper} {Q:Exit→Act→World→Prop} {md:Region.Mode} {S S2:World→Prop} {c:Nat}
theorem readC {i:Nat} {oi oc:Oper} (dst:Option Tmp) (hdst:oi.dst=dst) {n:Nat} {l:Array Bool} {a:Act} {w:World} (v:Value) (hi:ops[i]?=some oi) (hc:ops[c]?=some oc) (hwait:(oc.after.any fun e=>Region.binds md e&&e.on == i)=true)
 (hw:Region.wanted oi (yielded ops a.tmps)=true) (hv:∀ w,S w→(execOp a.eval oi).run P w=.ok (.value v) w)
 (hs:Region.noSelect ops=true) (hf:Region.free md ops l i=true) (hl:l.getD c true=false) (hr:(Region.ready md ops l).contains i=true)
 (hQ:∀ p a w,Q (.panic p) (a.put dst v) w→Q (.panic p) a w) (hS:S w)
 (h:wpAnyC P md ops Q S c n (l.setIfInBounds i true) (a.put dst v) w):wpAnyC P md ops Q S c (n+1) l a w:=by
 subst hdst
 exact wpAnyC_take hi hc hwait hs hf hl hr hQ (.inl ⟨hw,hv⟩) hS h
theorem skipC (dst:Option Tmp) {oc:Oper} (hdst:oc.dst=dst) {n:Nat} {l:Array Bool} {a:Act} {w w':World} (hr:Region.ready md ops l=[c]) (hi:ops[c]?=some oc)
 (hw:Region.wanted oc (yielded ops a.tmps)=true) (he:(execOp a.eval oc).run P w=.ok .skip w') (hl:(l.setIfInBounds c true).getD c true=true)
 (h:wpAnyH P md ops Q S2 n (l.setIfInBounds c true) (a.put dst undef) w'):wpAnyC P md ops Q S c (n+1) l a w :=
 ⟨fun h0=>(by rw [h0] at hr; cases hr),fun j hj=>by
  rw [hr] at hj
  obtain rfl:=xm1 hj
  unfold wpOp
  simp only [hi,hw,if_true]; refine .inl ?_
  unfold Oper.wp
  rw [he]
  subst hdst
  exact ⟨fun hf=>(by rw [hl] at hf; cases hf),wpAnyC_rest n _ _ _ hl (wpAny_of_held n _ _ _ h)⟩⟩
end
end
def wcv (T:Int) (W:Nat→Nat):List Value:=.int .i64 (T+1)::row .u64 16 (fun i=>(W i:Int))
theorem wcv_len (T:Int) (W:Nat→Nat):(wcv T W).length=17:=by unfold wcv; rw [List.length_cons,row_length]
theorem wcv_get (T:Int) (W:Nat→Nat) (i:Nat) (h:i<16):(wcv T W)[1+i]?=some (.int .u64 (W i:Int)):=by
 unfold wcv
 rw [Nat.add_comm,List.getElem?_cons_succ]
 exact row_get .u64 16 _ i h
theorem row_put (k:IntKind) (n:Nat) (f:Nat→Int) (i:Nat) (v:Int):(row k n f).set i (.int k v)=row k n (fun j=>if j=i then v else f j):=by
 refine List.ext_getElem? fun j=>?_
 rw [List.getElem?_set]
 by_cases hj:j<n
 · rw [row_get k n _ j hj,row_get k n _ j hj,row_length]
   by_cases e:i=j
   · rw [if_pos e,if_pos (by omega),if_pos e.symm]
   · rw [if_neg e,if_neg (fun h=>e h.symm)]
 · rw [List.getElem?_eq_none (by rw [row_length]; omega),List.getElem?_eq_none (by rw [row_length]; omega),row_length]
   split
   · rw [if_neg (by omega)]
   · rfl
theorem row_nat (n:Nat) (W:Nat→Nat) (i v:Nat):row .u64 n (fun j=>if j=i then ((v:Nat):Int) else (W j:Int))=row .u64 n (fun j=>((if j=i then v else W j:Nat):Int)):=row_congr _ _ fun j _=>by split <;> rfl
theorem wcv_set (T:Int) (W:Nat→Nat) (i v:Nat):(wcv T W).set (1+i) (.int .u64 (v:Int))=wcv T (fun j=>if j=i then v else W j):=by
 unfold wcv
 rw [Nat.add_comm,List.set_cons_succ,row_put,row_nat]
theorem wcv_setA (T:Int) (W V:Nat→Nat):setL (wcv T W) 1 (row .u64 16 (fun i=>(V i:Int)))=wcv T V:=by
 have h:=setL_pre [.int .i64 (T+1)] (row .u64 16 (fun i=>(V i:Int))) (row .u64 16 (fun i=>(W i:Int))) 0; have h2:=setL_left (row .u64 16 (fun i=>(V i:Int))) (row .u64 16 (fun i=>(W i:Int))) [] (by rw [row_length,row_length])
 rw [List.append_nil,List.append_nil] at h2
 rw [h2] at h
 exact h
theorem wcv_congr {T:Int} {W V:Nat→Nat} (h:∀ i,i<16→W i=V i):wcv T W=wcv T V:=by
 unfold wcv
 rw [row_congr .u64 16 (fun j hj=>by rw [h j hj])]
theorem quo64 (k:Nat) (hk:k≤562949953421312):IntKind.i64.wrap ((k:Int).tdiv 64)=((k/64:Nat):Int):=by
 rw [Int.tdiv_eq_ediv_of_nonneg (by omega),xw6]
 omega
theorem rem64 (k:Nat):(k:Int).tmod 64=((k%64:Nat):Int):=by
 rw [Int.tmod_eq_emod_of_nonneg (by omega)]
 omega
def ib (b:Bool):Int:=if b then 1 else 0
theorem ib_eq (b:Bool):(ib b == 1)=b:=by cases b <;> rfl
theorem ib64 (x e:Nat) (hx:x<2^64):bits .and .u64 ((x/2^e:Nat):Int) 1=ib (x.testBit e):=bit64 x e hx
theorem vtop14_any (w0 w:World) (R:Nat) (l:List (Nat × List Value)) (T:Int) (W:Nat→Nat) (hT1:-1≤T) (hT2:T≤281474976710655) (M:Mm w0 ((R,wcv T W)::l) w) :
 Calls Tryz.prog 65 #[.pointer (some ⟨R,0,none⟩)] w fun e w'=>e=.returned (.int .i64 T)∧Below w.heap.size w w':=by
 have hB:=Below.refl w.heap.size w
 go_enter Tryz.func65,Tryz.ntmps65
 go_upto_region 0 with fail; refine wp_region_list ?_; refine xpL (.int .i64 0) ?_; refine xT ?_; go_upto_region 1 with fail; refine wp_region_list ?_; refine xpL (.pointer (some ⟨R,0,none⟩)) ?_; refine xpL (.pointer (some ⟨R,0,none⟩)) ?_; refine xpL (.pointer (some ⟨R,0,none⟩)) ?_
 refine xaL (.int .i64 (T+1)) (load1 3 _ ⟨R,0,none⟩ _ rfl rfl (fun _=>by kernel_rfl) (M.get mS 0 _ rfl)) ?_; refine xaL (.int .i64 T) (subI .i64 _ _ _ _ _ _ _ rfl rfl rfl (by rw [xw6]; omega) _) ?_; refine xpL (.int .i64 T) ?_; refine xT ?_; have HS:=show Hid _ from hB; clear M hB; go_wp2; go_ret
 exact ⟨rfl,HS.out⟩
theorem vplace_any (w0 w:World) (R:Nat) (l:List (Nat × List Value)) (T:Int) (W:Nat→Nat) (hT1:-1≤T) (hT2:T≤281474976710655) (n:Int) (k:Nat) (hk:T-n=(k:Int)) (hk2:k<1024) (M:Mm w0 ((R,wcv T W)::l) w) :
 Calls Tryz.prog 69 #[.pointer (some ⟨R,0,none⟩),.int .i64 n] w fun e w'=>e=.returned (.tuple #[.int .i64 ((k/64:Nat):Int),.int .i64 ((k%64:Nat):Int)])∧Below w.heap.size w w':=by
 have hB:=Below.refl w.heap.size w
 go_enter Tryz.func69,Tryz.ntmps69
 go_upto_region 0 with fail; refine wp_region_list ?_; refine xpL (.int .i64 0) ?_; refine xpL (.int .i64 0) ?_; refine xT ?_; go_upto_region 1 with fail; refine wp_region_list ?_; refine xpL (.pointer (some ⟨R,0,none⟩)) ?_; refine xcL (vtop14_any w0 _ R _ T W hT1 hT2 M) ?_; rintro e w1 ⟨rfl,l1⟩; replace M:=M.call l1; replace hB:=hB.trans (l1.mono hB.size); clear l1; refine xeL ?_
 refine xpL (.int .i64 n) ?_; refine xaL (.int .i64 ((k:Nat):Int)) (subI .i64 _ _ _ _ _ _ _ rfl rfl rfl (by rw [hk,xw6]; omega) _) ?_; refine xpL (.int .i64 ((k:Nat):Int)) ?_; refine xT ?_; go_upto_region 2 with fail; refine wp_region_list ?_; refine xpL (.int .i64 ((k:Nat):Int)) ?_
 refine xaL (.int .i64 ((k/64:Nat):Int)) (quoI .i64 _ _ _ _ _ _ _ rfl rfl rfl (by decide) (quo64 k (by omega)) _) ?_; refine xpL (.int .i64 ((k:Nat):Int)) ?_; refine xaL (.int .i64 ((k%64:Nat):Int)) (remI .i64 _ _ _ _ _ _ _ rfl rfl rfl (by decide) (rem64 k) _) ?_; refine xpL (.int .i64 ((k/64:Nat):Int)) ?_; refine xpL (.int .i64 ((k%64:Nat):Int)) ?_; refine xT ?_
 have HS:=show Hid _ from hB; clear M hB; go_wp2; go_ret2
 exact ⟨rfl,HS.out⟩
theorem vmarked_any (w0 w:World) (R:Nat) (l:List (Nat × List Value)) (T:Int) (W:Nat→Nat) (hT1:-1≤T) (hT2:T≤281474976710655) (hW:∀ i,i<16→W i<2^64) (n:Int) (k:Nat) (hk:T-n=(k:Int)) (hk2:k<1024) (b:Bool) (hb:(W (k/64)).testBit (k%64)=b) (M:Mm w0 ((R,wcv T W)::l) w) :
 Calls Tryz.prog 66 #[.pointer (some ⟨R,0,none⟩),.int .i64 n] w fun e w'=>e=.returned (.bool b)∧Below w.heap.size w w':=by
 have hB:=Below.refl w.heap.size w
 go_enter Tryz.func66,Tryz.ntmps66
 go_upto_region 0 with fail; refine wp_region_list ?_; refine xpL (.bool false) ?_; refine xT ?_; go_upto_region 1 with fail; refine wp_region_list ?_; refine xpL (.pointer (some ⟨R,0,none⟩)) ?_; refine xpL (.int .i64 n) ?_; refine xcL (vplace_any w0 _ R _ T W hT1 hT2 n k hk hk2 M) ?_; rintro e w1 ⟨rfl,l1⟩; replace M:=M.call l1; replace hB:=hB.trans (l1.mono hB.size); clear l1
 refine xeL ?_; refine xpL (.tuple #[.int .i64 ((k/64:Nat):Int),.int .i64 ((k%64:Nat):Int)]) ?_; refine xpL (.int .i64 ((k/64:Nat):Int)) ?_; refine xpL (.int .i64 ((k%64:Nat):Int)) ?_; refine xpL (.int .i64 ((k/64:Nat):Int)) ?_; refine xpL (.int .i64 ((k%64:Nat):Int)) ?_; refine xT ?_; go_upto_region 2 with fail; refine wp_region_list ?_
 refine xpL (.pointer (some ⟨R,0,none⟩)) ?_; refine xpL (.int .i64 ((k/64:Nat):Int)) ?_; refine xpL (.pointer (some ⟨R,0,none⟩)) ?_; refine xpL (.pointer (some ⟨R,1,none⟩)) ?_; refine xaL (.pointer (some ⟨R,1+(k/64),none⟩)) (idxArr 120 107 16 .i64 R 1 (k/64) _ _ Tryz.underlying120 (fun _=>by kernel_rfl) (by omega) rfl rfl rfl _) ?_
 refine readL (.int .u64 ((W (k/64):Nat):Int)) rfl (load1 107 _ ⟨R,1+(k/64),none⟩ _ rfl rfl (fun _=>by kernel_rfl) (M.get mS _ _ (wcv_get T W (k/64) (by omega)))) ?_; simp only [aP,lI,l0,lS]; refine xpL (.int .i64 ((k%64:Nat):Int)) ?_
 refine readL (.int .u64 ((W (k/64)/2^(k%64):Nat):Int)) rfl (shrI .u64 .i64 _ _ _ _ _ _ _ rfl rfl rfl (by omega) (shr64 _ _ (by omega)) _) ?_; simp only [aP,lI,l0,lS]; refine readL (.int .u64 (ib ((W (k/64)).testBit (k%64)))) rfl (vandI .u64 _ _ _ _ _ _ _ rfl rfl rfl (ib64 _ _ (hW _ (by omega))) _) ?_; simp only [aP,lI,l0,lS]
 refine xaL (.bool b) (eqlI .u64 _ _ _ _ _ _ rfl rfl rfl b (by rw [ib_eq]; exact hb) _) ?_; refine xpL (.bool b) ?_; refine xT ?_; have HS:=show Hid _ from hB; clear M hB; go_wp2; go_ret
 exact ⟨rfl,HS.out⟩
theorem wck_arg {L:List Int} {n:Int} (h:n<0∨281474976710655<n):wchk L n=1:=if_pos h
theorem wck_old {L:List Int} {n:Int} (h:¬ (n<0∨281474976710655<n)) (h2:n≤wtop L-1024∨n∈L):wchk L n=140:=by unfold wchk; rw [if_neg h,if_pos h2]
theorem wck_new {L:List Int} {n:Int} (h:¬ (n<0∨281474976710655<n)) (h2:¬ (n≤wtop L-1024∨n∈L)):wchk L n=0:=by unfold wchk; rw [if_neg h,if_neg h2]
theorem vcheck14_any (w0 w:World) (R:Nat) (l:List (Nat × List Value)) (L:List Int) (W:Nat→Nat) (hL:WinL L) (hW:Wds W L) (n:Int) (hn:i64 n) (M:Mm w0 ((R,wcv (wtop L) W)::l) w) :
 Calls Tryz.prog 48 #[.pointer (some ⟨R,0,none⟩),.int .i64 n] w fun e w'=>e=.returned (.int .i64 (wchk L n))∧Below w.heap.size w w':=by
 have hB:=Below.refl w.heap.size w
 go_enter Tryz.func48,Tryz.ntmps48
 have hT1:=wtop_ge L; have hT2:=wtop_max hL
 unfold i64 at hn
 go_upto_region 0 with fail; refine wp_region_list ?_; refine xpL (.int .i64 0) ?_; refine xT ?_
 by_cases h1:n<0
 · go_upto_region 1 with fail
   refine wp_region_list ?_; refine xpL (.int .i64 n) ?_; refine xaL (.bool true) (lssI .i64 _ _ _ _ _ _ rfl rfl rfl true (decide_eq_true (by omega)) _) ?_; refine xpL (.bool true) ?_
   with_reducible refine skipL ?_ ?_
   · rfl
   simp only [aP,lI,l0,lS]
   with_reducible refine skipL ?_ ?_
   · rfl
   simp only [aP,lI,l0,lS]; refine xpL (.bool true) ?_; refine xpL (.bool true) ?_; refine xT ?_; go_upto_region 2 with fail; refine wp_region_list ?_; refine xpL (.int .i64 1) ?_; refine xT ?_; have hk_:=show Hid _ from (wck_arg (L:=L) (.inl h1)); have HS:=show Hid _ from hB; clear M hB hW hL; go_wp2; go_ret
   exact ⟨by rw [hk_.out]; rfl,HS.out⟩
 · by_cases h2:281474976710655<n
   · go_upto_region 1 with fail
     refine wp_region_list ?_; refine xpL (.int .i64 n) ?_; refine xaL (.bool false) (lssI .i64 _ _ _ _ _ _ rfl rfl rfl false (decide_eq_false (by omega)) _) ?_; refine xpL (.bool false) ?_; refine xpL (.int .i64 n) ?_; refine xaL (.bool true) (gtrI .i64 _ _ _ _ _ _ rfl rfl rfl true (decide_eq_true (by omega)) _) ?_; refine xpL (.bool true) ?_; refine xpL (.bool true) ?_; refine xT ?_
     go_upto_region 2 with fail; refine wp_region_list ?_; refine xpL (.int .i64 1) ?_; refine xT ?_; have hk_:=show Hid _ from (wck_arg (L:=L) (.inr h2)); have HS:=show Hid _ from hB; clear M hB hW hL; go_wp2; go_ret
     exact ⟨by rw [hk_.out]; rfl,HS.out⟩
   · go_upto_region 1 with fail
     refine wp_region_list ?_; refine xpL (.int .i64 n) ?_; refine xaL (.bool false) (lssI .i64 _ _ _ _ _ _ rfl rfl rfl false (decide_eq_false (by omega)) _) ?_; refine xpL (.bool false) ?_; refine xpL (.int .i64 n) ?_; refine xaL (.bool false) (gtrI .i64 _ _ _ _ _ _ rfl rfl rfl false (decide_eq_false (by omega)) _) ?_; refine xpL (.bool false) ?_; refine xpL (.bool false) ?_; refine xT ?_
     by_cases h3:n>wtop L
     · go_upto_region 3 with fail
       refine wp_region_list ?_; refine xpL (.int .i64 n) ?_; refine xpL (.pointer (some ⟨R,0,none⟩)) ?_; refine xcL (vtop14_any w0 _ R _ (wtop L) W hT1 hT2 M) ?_; rintro e w1 ⟨rfl,l1⟩; replace M:=M.call l1; replace hB:=hB.trans (l1.mono hB.size); clear l1; refine xeL ?_; refine xaL (.bool true) (gtrI .i64 _ _ _ _ _ _ rfl rfl rfl true (decide_eq_true (by omega)) _) ?_
       refine xpL (.bool true) ?_; refine xT ?_; go_upto_region 4 with fail; refine wp_region_list ?_; refine xpL (.int .i64 0) ?_; refine xT ?_; have hk_:=show Hid _ from (wck_new (L:=L) (n:=n) (by omega) (fun h=>h.elim (fun h=>by omega) (fun h=>by have:=wtop_le h; omega))); have HS:=show Hid _ from hB; clear M hB hW hL; go_wp2; go_ret
       exact ⟨by rw [hk_.out]; rfl,HS.out⟩
     · go_upto_region 3 with fail
       refine wp_region_list ?_; refine xpL (.int .i64 n) ?_; refine xpL (.pointer (some ⟨R,0,none⟩)) ?_; refine xcL (vtop14_any w0 _ R _ (wtop L) W hT1 hT2 M) ?_; rintro e w2 ⟨rfl,l1⟩; replace M:=M.call l1; replace hB:=hB.trans (l1.mono hB.size); clear l1; refine xeL ?_; refine xaL (.bool false) (gtrI .i64 _ _ _ _ _ _ rfl rfl rfl false (decide_eq_false (by omega)) _) ?_
       refine xpL (.bool false) ?_; refine xT ?_
       by_cases h4:n≤wtop L-1024
       · go_upto_region 5 with fail
         refine wp_region_list ?_; refine xpL (.int .i64 n) ?_; refine xpL (.pointer (some ⟨R,0,none⟩)) ?_; refine xcL (vtop14_any w0 _ R _ (wtop L) W hT1 hT2 M) ?_; rintro e w3 ⟨rfl,l1⟩; replace M:=M.call l1; replace hB:=hB.trans (l1.mono hB.size); clear l1; refine xeL ?_; refine xaL (.int .i64 ((wtop L)-1024)) (subI .i64 _ _ _ _ _ _ _ rfl rfl rfl (by rw [xw6]; omega) _) ?_
         refine xaL (.bool true) (leqI .i64 _ _ _ _ _ _ rfl rfl rfl true (decide_eq_true (by omega)) _) ?_; refine xpL (.bool true) ?_
         with_reducible refine skipL ?_ ?_
         · rfl
         simp only [aP,lI,l0,lS]
         with_reducible refine skipL ?_ ?_
         · rfl
         simp only [aP,lI,l0,lS]
         with_reducible refine skipL ?_ ?_
         · rfl
         simp only [aP,lI,l0,lS]; refine xpL (.bool true) ?_; refine xpL (.bool true) ?_; refine xT ?_; go_upto_region 6 with fail; refine wp_region_list ?_; refine xpL (.int .i64 140) ?_; refine xT ?_; have hk_:=show Hid _ from (wck_old (L:=L) (n:=n) (by omega) (.inl h4)); have HS:=show Hid _ from hB; clear M hB hW hL; go_wp2; go_ret
         exact ⟨by rw [hk_.out]; rfl,HS.out⟩
       · have hk:wtop L-n=((wtop L-n).toNat:Int):=by omega
         by_cases hm:n∈L
         · go_upto_region 5 with fail
           refine wp_region_list ?_; refine xpL (.int .i64 n) ?_; refine xpL (.pointer (some ⟨R,0,none⟩)) ?_; refine xcL (vtop14_any w0 _ R _ (wtop L) W hT1 hT2 M) ?_; rintro e w4 ⟨rfl,l1⟩; replace M:=M.call l1; replace hB:=hB.trans (l1.mono hB.size); clear l1; refine xeL ?_; refine xaL (.int .i64 ((wtop L)-1024)) (subI .i64 _ _ _ _ _ _ _ rfl rfl rfl (by rw [xw6]; omega) _) ?_
           refine xaL (.bool false) (leqI .i64 _ _ _ _ _ _ rfl rfl rfl false (decide_eq_false (by omega)) _) ?_; refine xpL (.bool false) ?_; refine xpL (.pointer (some ⟨R,0,none⟩)) ?_; refine xpL (.int .i64 n) ?_; refine xcL (vmarked_any w0 _ R _ (wtop L) W hT1 hT2 hW.lt n (wtop L-n).toNat hk (by omega) true ((hW.at hk (by omega)).trans (decide_eq_true hm)) M) ?_; rintro e w5 ⟨rfl,l1⟩
           replace M:=M.call l1; replace hB:=hB.trans (l1.mono hB.size); clear l1; refine xeL ?_; refine xpL (.bool true) ?_; refine xpL (.bool true) ?_; refine xT ?_; go_upto_region 6 with fail; refine wp_region_list ?_; refine xpL (.int .i64 140) ?_; refine xT ?_; have hk_:=show Hid _ from (wck_old (L:=L) (n:=n) (by omega) (.inr hm)); have HS:=show Hid _ from hB; clear M hB hW hL
           go_wp2; go_ret
           exact ⟨by rw [hk_.out]; rfl,HS.out⟩
         · go_upto_region 5 with fail
           refine wp_region_list ?_; refine xpL (.int .i64 n) ?_; refine xpL (.pointer (some ⟨R,0,none⟩)) ?_; refine xcL (vtop14_any w0 _ R _ (wtop L) W hT1 hT2 M) ?_; rintro e w6 ⟨rfl,l1⟩; replace M:=M.call l1; replace hB:=hB.trans (l1.mono hB.size); clear l1; refine xeL ?_; refine xaL (.int .i64 ((wtop L)-1024)) (subI .i64 _ _ _ _ _ _ _ rfl rfl rfl (by rw [xw6]; omega) _) ?_
           refine xaL (.bool false) (leqI .i64 _ _ _ _ _ _ rfl rfl rfl false (decide_eq_false (by omega)) _) ?_; refine xpL (.bool false) ?_; refine xpL (.pointer (some ⟨R,0,none⟩)) ?_; refine xpL (.int .i64 n) ?_; refine xcL (vmarked_any w0 _ R _ (wtop L) W hT1 hT2 hW.lt n (wtop L-n).toNat hk (by omega) false ((hW.at hk (by omega)).trans (decide_eq_false hm)) M) ?_; rintro e w7 ⟨rfl,l1⟩
           replace M:=M.call l1; replace hB:=hB.trans (l1.mono hB.size); clear l1; refine xeL ?_; refine xpL (.bool false) ?_; refine xpL (.bool false) ?_; refine xT ?_; go_upto_region 7 with fail; refine wp_region_list ?_; refine xpL (.int .i64 0) ?_; refine xT ?_; have hk_:=show Hid _ from (wck_new (L:=L) (n:=n) (by omega) (fun h=>h.elim h4 hm)); have HS:=show Hid _ from hB
           clear M hB hW hL; go_wp2; go_ret
           exact ⟨by rw [hk_.out]; rfl,HS.out⟩
def VI (v:Value) (L:List Int) (bs:List (Nat × List Value)):Prop:=∃ R W,v=.pointer (some ⟨R,0,none⟩)∧Wds W L∧bs=[(R,wcv (wtop L) W)]
end Go.Proofs.YtknodedhcdpbiaaGreatDoor
