/- Texts of Ts Tt Tv, joined. -/
import Derived.Test.YtpdpfdelglgfnaaP8OutboxPlays
set_option maxRecDepth 20000
set_option maxHeartbeats 64000000
namespace Go.Proofs.Ytpdpfdelglgfnaa
open Go.RowKit
theorem Mm.keepS {w0 w:World} {l:List (Nat × List Value)} {R ro:Nat} {cs:List Value} {v:Value} (M:Mm w0 ((R,cs)::l) w) (h:cs[ro]?=some v):Mm w0 ((R,cs.set ro v)::l) w:=by
 have e:cs.set ro v=cs:=by
  apply List.ext_getElem?
  intro i
  rw [List.getElem?_set]
  split
  · rename_i c
    subst c
    split
    · exact h.symm
    · rename_i d
      rw [List.getElem?_eq_none (by omega)]
  · rfl
 rw [e]
 exact M
theorem mid_cell {L:Rgs17} {i j k:Nat} {u:Value} (hi:i≤L.length) (h:(wrc (mid17 L i j))[k]?=some u):(wrc L)[i*2+k]?=some u:=by
 have h1:(wrc (L.drop i))[k]?=some u:=by
  have e:wrc (L.drop i)=wrc (mid17 L i j)++wrc ((L.drop i).drop (j-i)):=by unfold mid17; rw [← wrc_app,List.take_append_drop]
  rw [e]
  exact get_left h
 rw [dp_get hi,Nat.add_comm] at h1
 exact h1
theorem NewW.mid {w:World} {L:Rgs17} {sp:Option Addr} {cap i j:Nat} (hij:i≤j) (hj:j≤L.length) (h:NewW w 0 L (.slice sp L.length cap)):NewW w 0 (mid17 L i j) (.slice (slp sp cap i) (mid17 L i j).length (cap-i)):=by
 obtain ⟨sp',cap',hv,hc,hn,hs,ha⟩:=h
 injection hv with h1 _ h3
 subst h1; subst h3
 refine ⟨_,_,rfl,by rw [mid_len hj]; omega,fun e=>?_,fun k u hu=>?_,fun a e=>?_⟩
 · unfold slp at e
   split at e
   · omega
   · cases sp with
     | none=>have:=hn rfl; omega
     | some ad=>cases e
 · obtain ⟨ad,rfl,hcl⟩:=hs _ _ (mid_cell (by omega) hu)
   have hk:k<(j-i)*2:=by
    have:=(List.getElem?_eq_some_iff.1 hu).1
    rw [wrc_len,mid_len hj] at this
    exact this
   refine ⟨ad.add (i*2),?_,by rw [Addr.add_add]; exact hcl⟩
   unfold slp
   rw [if_neg (by omega)]
   rfl
 · unfold slp at e
   split at e
   · exact ha a e
   · cases sp with
     | none=>cases e
     | some ad =>
       injection e with e
       subst e
       have:=ha ad rfl
       rw [add_block]
       exact this
theorem Mm.rep17 {w0 w w2:World} {l:List (Nat × List Value)} {R:Nat} {cs:List Value} {sp sq:Option Addr} {m cq:Nat} {xs:List Value} (M:Mm w0 ((R,cs)::(obs sp++l)) w) (hg:w.grownBy w2 (sp.map (·.block))) (O:w2.ownsRow 0 49 2 (.slice sq m cq) m xs) (hq:∀ b∈ob sq,b∈ob sp∨w.heap.size≤b):Mm w0 ((R,cs)::(obs sq++l)) w2:=by
 have Mp:=M.perm (pull0 [(R,cs)] (obs sp) l)
 have Ml:Mm w0 ((R,cs)::l) w:=Mp.sub _ (List.sublist_append_right _ _)
 have hap:∀ b∈ob sp,w0.heap.size≤b∧∀ p∈(R,cs)::l,p.1≠b:=fun b hb=>by
  have hm:(b,[])∈obs sp:=List.mem_map.2 ⟨b,hb,rfl⟩
  refine ⟨(Mp.rows _ (List.mem_append_left _ hm)).2.1,fun p hp e=>?_⟩
  exact (List.pairwise_append.1 Mp.apart).2.2 (b,[]) hm p hp e.symm
 have Ml2:=Ml.grownN hg (fun b hb=>hap b (by
  cases sp with
  | none=>cases hb
  | some a=>injection hb with hb; subst hb; exact mS))
 cases sq with
 | none=>exact Ml2
 | some a =>
   have hl:=World.ownsRow.lt O a.block rfl; have h1:=hq a.block mS
   have M3:Mm w0 (obs (some a)++((R,cs)::l)) w2:=Ml2.addB (by
    rcases h1 with h | h
    · exact (hap _ h).1
    · exact xnT Ml.below.size h) hl.2 fun p hp e=>by
      rcases h1 with h | h
      · exact (hap _ h).2 p hp e
      · have:=(Ml.rows p hp).2.2
        omega
   exact M3.perm (pull0 [(R,cs)] (obs (some a)) l).symm
theorem Off.rep {w w1 w2:World} {R:Nat} {sp:Option Addr} (h:Off (R::ob sp) w w1) (g:w1.grownBy w2 (sp.map (·.block))):Off (R::ob sp) w w2:=h.grown g fun b hb=>.inl (by
 cases sp with
 | none=>cases hb
 | some a=>injection hb with hb; subst hb; exact mT _ mS)
theorem vreplace_any (w0 w:World) (R ro:Nat) (sp:Option Addr) (cap:Nat) (L V:Rgs17) (l:List (Nat × List Value)) (i j vb vc:Nat) (hc:Can L) (hcv:Can V) (hij:i≤j) (hj:j≤L.length) (hln:L.length<1000000) (hv:V.length≤2) (hv0:i=j→0<V.length) {cs:List Value} (M0:Mm w0 ((R,cs)::(obs sp++l)) w) (hcs:cs[ro]?=some (.slice sp L.length cap)) (O_:w.ownsRow 0 49 2 (.slice sp L.length cap) L.length (wrc L)) (V_:w.ownsRow 0 49 2 (.slice (some ⟨vb,0,none⟩) V.length vc) V.length (wrc V)) (hvs:vb∉ob sp) :
 Calls Try.prog 47 #[.pointer (some ⟨R,ro,none⟩),.int .i64 ((i:Nat):Int),.int .i64 ((j:Nat):Int),.slice (some ⟨vb,0,none⟩) V.length vc] w fun e w'=>∃ sq cq,e=.returned (.int .i64 (rtot V-rtot (mid17 L i j)))∧Mm w0 ((R,cs.set ro (.slice sq (L.take i++(V++L.drop j)).length cq))::(obs sq++l)) w'∧w'.ownsRow 0 49 2 (.slice sq (L.take i++(V++L.drop j)).length cq) (L.take i++(V++L.drop j)).length (wrc (L.take i++(V++L.drop j)))∧Off (R::ob sp) w w'∧∀ b_,b_∈ob sq→b_∈ob sp∨w.heap.size≤b_:=by
 have hro:ro<cs.length:=(List.getElem?_eq_some_iff.1 hcs).1
 have hR:=M0.get mS ro _ hcs; have N:=NewW.ofOwn O_; have NV:=NewW.ofOwn V_; have NM:=NewW.mid hij hj N
 have hcap:L.length≤cap:=by obtain ⟨_,_,e_,h_,_⟩:=N; injection e_ with _ _ e3; omega
 have hb1:=rtot_in hcv; have hb2:=rtot_in (mid_can hc i j); have M:=Mm.init w
 go_enter Try.func47,Try.ntmps47
 go_upto_region 0 with fail; refine wp_region_list ?_; refine xpL (.int .i64 0) ?_; refine xT ?_; go_upto_region 1 with fail; refine wp_region_held_drew (S:=fun w'=>Below w.heap.size w w') (by kernel_rfl) M.drew.below ?_; intro _; replace M:=M.drew; have hdr:=(Below.refl w.heap.size w).drew; clear hdr; generalize w.drew=w1 at M  ⊢
 refine xrH 0 10 rfl (.slice (some ⟨vb,0,none⟩) V.length vc) (fun _ hS=>(by kernel_rfl)) M.below ?_; refine xrH 2 12 rfl (.pointer (some ⟨R,ro,none⟩)) (fun _ hS=>(by kernel_rfl)) M.below ?_; refine xrH 3 13 rfl (.pointer (some ⟨R,ro,none⟩)) (fun _ hS=>(by kernel_rfl)) M.below ?_; refine xrH 4 14 rfl (.pointer (some ⟨R,ro,none⟩)) (fun _ hS=>(by kernel_rfl)) M.below ?_
 refine xrH 5 15 rfl (.slice sp L.length cap) (fun _ hS=>load1 29 _ ⟨R,ro,none⟩ _ rfl rfl (fun _=>by kernel_rfl) (cellT hS hR)) M.below ?_; refine xrH 6 16 rfl (.int .i64 ((i:Nat):Int)) (fun _ hS=>(by kernel_rfl)) M.below ?_; refine xrH 7 17 rfl (.int .i64 ((j:Nat):Int)) (fun _ hS=>(by kernel_rfl)) M.below ?_
 refine xrH 8 18 rfl (.slice (slp sp cap i) ((mid17 L i j).length) (cap-i)) (fun _ hS=>by rw [mid_len hj]; exact cutLHop _ _ _ _ _ _ _ _ rfl rfl rfl rfl (sl_lh (P:=Try.prog) (t:=29) (by kernel_rfl) (fun _=>by kernel_rfl) sp L.length cap i j hij (by omega) _)) M.below ?_
 have key:=vsum_any (some ⟨vb,0,none⟩) vc V hcv (by omega) _ (NewW.below NV M.below); refine callH (i:=1) (some 11) rfl (by kernel_rfl) rfl rfl (fun _=>by kernel_rfl) key ?_; clear key; rintro e w2 ⟨rfl,l⟩; replace M:=M.call l; clear l
 refine ⟨_,rfl,M.below,?_⟩
 simp only [aP,lI,l0,lS]; have key:=vsum_any (slp sp cap i) (cap-i) (mid17 L i j) (mid_can hc i j) (by rw [mid_len hj]; omega) _ (NewW.below NM M.below); refine callH (i:=9) (some 19) rfl (by kernel_rfl) rfl rfl (fun _=>by kernel_rfl) key ?_; clear key; rintro e w3 ⟨rfl,l⟩; replace M:=M.call l; clear l
 refine ⟨_,rfl,M.below,?_⟩
 simp only [aP,lI,l0,lS]; refine xrH 10 20 rfl (.int .i64 (rtot V-rtot (mid17 L i j))) (fun _ hS=>subI .i64 _ _ _ _ _ _ _ rfl rfl rfl (by rw [xw6]; omega) _) M.below ?_; refine xrH 11 9 rfl (.int .i64 (rtot V-rtot (mid17 L i j))) (fun _ hS=>(by kernel_rfl)) M.below ?_
 refine wpAnyH_done (by kernel_rfl) ?_ _
 first | show Exit.then _ _ _ _ _ | show Exit.inBlock _ _ _ _ _
 have OF:Off (R::ob sp) w w3:=(Off.refl _ _).below M.below
 replace O_:=ownsRow_bel O_ M.below; replace V_:=ownsRow_bel V_ M.below; replace M0:=M0.call M.below; clear M NV NM N hR; have M:=M0; clear M0; go_upto_region 2 with fail; refine wp_region_list ?_; refine xpL (.pointer (some ⟨R,ro,none⟩)) ?_; refine xpL (.pointer (some ⟨R,ro,none⟩)) ?_; refine xpL (.pointer (some ⟨R,ro,none⟩)) ?_; refine xpL (.pointer (some ⟨R,ro,none⟩)) ?_
 refine xaL (.slice sp L.length cap) (load1 29 _ ⟨R,ro,none⟩ _ rfl rfl (fun _=>by kernel_rfl) (M.get mS ro _ hcs)) ?_; refine xpL (.int .i64 ((i:Nat):Int)) ?_; refine xpL (.int .i64 ((j:Nat):Int)) ?_; refine xpL (.slice (some ⟨vb,0,none⟩) V.length vc) ?_; refine xcL (vrep_any _ L V sp i j cap vb vc hij hj hcap hln hv hv0 O_ V_ hvs) ?_; rintro e w4 ⟨sq,cq,rfl,O2,hgr,hnb⟩
 replace M:=M.rep17 hgr O2 hnb
 have hLs:∀ b_,b_∈ob sq→b_∈ob sp∨w.heap.size≤b_:=fun b_ hb_=>(hnb b_ hb_).imp id (fun h_=>xnT OF.size h_)
 replace OF:=OF.rep hgr; clear O_ V_ hgr hnb; have O_:=O2; clear O2; refine xeL ?_; refine xpL (.pointer (some ⟨R,ro,none⟩)) ?_; refine xpL (.pointer (some ⟨R,ro,none⟩)) ?_; refine skipOpL rfl (storeAny (.slice sq ((L.take i++(V++L.drop j)).length) cq) R ro 29 _ _ rfl rfl rfl rfl rfl (M.isSome mS ro hro) (M.free mS ro hro) (by kernel_rfl)) ?_; simp only [Act.put]
 replace M:=M.set ro hro (.slice sq ((L.take i++(V++L.drop j)).length) cq); replace O_:=ownsRow_away O_ ((Off.refl [R] _).set (b:=R) mS ro (.slice sq ((L.take i++(V++L.drop j)).length) cq)) (fun b_ hb_=>by obtain rfl:=xm1 hb_; exact M.awayB (fun p_ hp_=>by simp [hp_]))
 replace OF:=OF.and1 ((Off.refl [R] _).set (b:=R) mS ro (.slice sq ((L.take i++(V++L.drop j)).length) cq)) (.inl mS); generalize w4.setCell ⟨R,ro,none⟩ (.slice sq ((L.take i++(V++L.drop j)).length) cq)=w5 at M O_ OF ⊢
 replace M:Mm w0 ((R,cs.set ro (.slice sq ((L.take i++(V++L.drop j)).length) cq))::(obs sq++l)) w5:=M
 refine xT ?_; go_upto_region 3 with fail; refine wp_region_list ?_; refine xpL (.int .i64 (rtot V-rtot (mid17 L i j))) ?_; refine xpL (.int .i64 (rtot V-rtot (mid17 L i j))) ?_; refine xT ?_; have HS:=show Hid _ from (And.intro M (And.intro O_ (And.intro OF hLs))); clear M O_ OF hLs; go_wp2; go_ret
 first | exact ⟨sq,cq,rfl,HS.out⟩ | exact ⟨rfl,sq,cq,HS.out⟩
theorem rad_is17 {L:Rgs17} {f t:Int} (h:¬ rhi t≤rlo f):rad L f t=rins L (rlo f) (rhi t):=if_neg h
theorem one_can {a b:Int} (h0:0≤a) (h1:a<b) (h2:b≤4611686018427387904):Can [(a,b)]:=⟨fun p hp=>(by obtain rfl:=xm1 hp; exact ⟨h0,h1,h2⟩),List.pairwise_singleton _ _⟩
theorem vb_away {w w':World} {w0:World} {l:List (Nat × List Value)} {R:Nat} {cs:List Value} {sp:Option Addr} {m:List (Nat × List Value)} (M0:Mm w0 ((R,cs)::(obs sp++l)) w) {vb:Nat} {ds:List Value} (M:Mm w ((vb,ds)::m) w'):vb∉ob sp:=fun hb=>by
 have h1:=(M0.rows (vb,[]) (mT _ (List.mem_append_left _ (List.mem_map.2 ⟨vb,hb,rfl⟩)))).2.2; have h2:=(M.rows _ mS).2.1
 simp only at h1 h2
 omega
theorem vadd_any (w0 w:World) (R ro:Nat) (sp:Option Addr) (cap:Nat) (L:Rgs17) (l:List (Nat × List Value)) (hc:Can L) (hln:L.length<1000000) (f t:Int) {cs:List Value} (M0:Mm w0 ((R,cs)::(obs sp++l)) w) (hcs:cs[ro]?=some (.slice sp L.length cap)) (O_:w.ownsRow 0 49 2 (.slice sp L.length cap) L.length (wrc L)) :
 Calls Try.prog 33 #[.pointer (some ⟨R,ro,none⟩),.int .i64 f,.int .i64 t] w fun e w'=>∃ sq cq,e=.returned (.int .i64 (radN L f t))∧Mm w0 ((R,cs.set ro (.slice sq (rad L f t).length cq))::(obs sq++l)) w'∧w'.ownsRow 0 49 2 (.slice sq (rad L f t).length cq) (rad L f t).length (wrc (rad L f t))∧Off (R::ob sp) w w'∧∀ b_,b_∈ob sq→b_∈ob sp∨w.heap.size≤b_:=by
 have hR:=M0.get mS ro _ hcs; have N:=NewW.ofOwn O_; have M:=Mm.init w
 go_enter Try.func33,Try.ntmps33
 go_upto_region 0 with fail; refine wp_region_list ?_; refine xpL (.int .i64 0) ?_; refine xT ?_; go_upto_region 1 with fail; refine wp_region_list ?_; refine xpL (.int .i64 f) ?_; refine xpL (.int .i64 t) ?_; have key:=vwith_any f t w; refine xcL key ?_; clear key; rintro e w1 ⟨rfl,l⟩; replace M:=M.call l; clear l; refine xeL ?_
 refine actL (w':=w1.alloc (.cells #[.int .i64 0,.int .i64 0] 49)) (.pointer (some ⟨w1.heap.size,0,none⟩)) rfl (by kernel_rfl) ?_; simp only [aP,lI,l0,lS]
 have hB_B2:w.heap.size≤w1.heap.size:=M.below.size
 replace M:=M.box #[.int .i64 0,.int .i64 0] 49 w1.heap.size rfl; generalize w1.alloc (.cells #[.int .i64 0,.int .i64 0] 49)=w2 at M  ⊢; generalize eB:w1.heap.size=B2 at M hB_B2  ⊢
 have hE_B2:w1.heap.size≤B2:=Nat.le_of_eq eB
 have hF_B2:B2≤w1.heap.size:=Nat.le_of_eq eB.symm
 clear eB
 replace M:Mm w ((B2,[.int .i64 0,.int .i64 0])::([]:List (Nat × List Value))) w2:=M
 refine skipOpL rfl (storeP [.int .i64 (rlo f),.int .i64 (rhi t)] B2 0 49 _ _ rfl rfl rfl (M.thereP mS 0 2 (Nat.le_of_ble_eq_true rfl)) (by kernel_rfl) (List.all_eq_true.1 (rfl:([.int .i64 (rlo f),.int .i64 (rhi t)]:List Value).all (fun u=>u.oneCell')=true))) ?_; simp only [Act.put]; replace M:=M.setPart [.int .i64 (rlo f),.int .i64 (rhi t)] 0 (Nat.le_of_ble_eq_true rfl)
 generalize w2.setCells B2 0 [.int .i64 (rlo f),.int .i64 (rhi t)]=w3 at M  ⊢
 replace M:Mm w ((B2,[.int .i64 (rlo f),.int .i64 (rhi t)])::([]:List (Nat × List Value))) w3:=M
 refine xT ?_
 by_cases hge:rhi t≤rlo f
 · go_upto_region 2 with fail
   refine wp_region_list ?_; refine xaL (.agg #[.int .i64 (rlo f),.int .i64 (rhi t)]) (loadN 49 _ ⟨B2,0,none⟩ [.int .i64 (rlo f),.int .i64 (rhi t)] rfl rfl (fun _=>by kernel_rfl) (fun _=>by kernel_rfl) (M.rangeAt mS)) ?_; have key:=vempty_any (rlo f) (rhi t) w3
   rw [show decide (rlo f≥rhi t)=true from decide_eq_true (by omega)] at key
   refine xcL key ?_; clear key; rintro e w4 ⟨rfl,l_⟩; replace M:=M.call l_; clear l_; refine xeL ?_; refine xT ?_; go_upto_region 3 with fail; refine wp_region_list ?_; refine xpL (.int .i64 0) ?_; refine xT ?_
   have HS:=show Hid _ from (And.intro ((M0.call M.below).keepS hcs) (And.intro (ownsRow_bel O_ M.below) (And.intro ((Off.refl (R::ob sp) w).below M.below) (fun b_ (hb_:b_∈ob sp)=>Or.inl (b:=w.heap.size≤b_) hb_)))); clear M M0 O_; go_wp2; go_ret
   obtain ⟨e1,e2⟩:=rad_no (L:=L) (f:=f) (t:=t) (by omega)
   rw [e1,e2]
   first | exact ⟨sp,cap,rfl,HS.out⟩ | exact ⟨rfl,sp,cap,HS.out⟩
 · have hf0:0≤rlo f:=by unfold rlo; omega
   have ht1:rhi t≤4611686018427387904:=by unfold rhi; omega
   have hft:rlo f<rhi t:=by omega
   go_upto_region 2 with fail; refine wp_region_list ?_; refine xaL (.agg #[.int .i64 (rlo f),.int .i64 (rhi t)]) (loadN 49 _ ⟨B2,0,none⟩ [.int .i64 (rlo f),.int .i64 (rhi t)] rfl rfl (fun _=>by kernel_rfl) (fun _=>by kernel_rfl) (M.rangeAt mS)) ?_; have key:=vempty_any (rlo f) (rhi t) w3
   rw [show decide (rlo f≥rhi t)=false from decide_eq_false (by omega)] at key
   refine xcL key ?_; clear key; rintro e w5 ⟨rfl,l_⟩; replace M:=M.call l_; clear l_; refine xeL ?_; refine xT ?_; go_upto_region 4 with fail; refine wp_region_list ?_; refine xpL (.pointer (some ⟨R,ro,none⟩)) ?_
   refine xaL (.agg #[.int .i64 (rlo f),.int .i64 (rhi t)]) (loadN 49 _ ⟨B2,0,none⟩ [.int .i64 (rlo f),.int .i64 (rhi t)] rfl rfl (fun _=>by kernel_rfl) (fun _=>by kernel_rfl) (M.rangeAt mS)) ?_; have key:=vtouch_any R ro sp cap L hc hln (rlo f) (rhi t) _ (cellT M.below hR) (NewW.below N M.below); refine xcL key ?_; clear key; rintro e w6 ⟨i,j,rfl,hT,l⟩; replace M:=M.call l
   clear l; refine xeL ?_; refine xpL (.tuple #[.int .i64 ((i:Nat):Int),.int .i64 ((j:Nat):Int)]) ?_; refine xpL (.int .i64 ((i:Nat):Int)) ?_; refine xpL (.int .i64 ((j:Nat):Int)) ?_; refine xpL (.int .i64 ((i:Nat):Int)) ?_; refine xpL (.int .i64 ((j:Nat):Int)) ?_; refine xT ?_; have hij:=hT.le hc (by omega); have hjl:=hT.b.le
   by_cases hlt:i<j
   · obtain ⟨p,hp⟩:∃ p,L[i]?=some p:=⟨_,List.getElem?_eq_getElem (by omega)⟩
     obtain ⟨q,hq⟩:∃ q,L[j-1]?=some q:=⟨_,List.getElem?_eq_getElem (by omega)⟩
     obtain ⟨adr,hadr,_,_⟩:=NewW.at N hp
     have hpr:=hc.row p (List.mem_of_getElem? hp); have hqr:=hc.row q (List.mem_of_getElem? hq); go_upto_region 5 with fail; refine wp_region_list ?_; refine xpL (.int .i64 ((i:Nat):Int)) ?_; refine xpL (.int .i64 ((j:Nat):Int)) ?_; refine xaL (.bool true) (lssI .i64 _ _ _ _ _ _ rfl rfl rfl true (decide_eq_true (by omega)) _) ?_; refine xT ?_; have NA:=N
     rw [hadr] at NA
     have hRA:=hR
     rw [hadr] at hRA
     go_upto_region 6 with fail; replace M:=M.drew; refine wp_region_C (S:=fun w'=>Mm w ((B2,[.int .i64 (rlo f),.int .i64 (rhi t)])::([]:List (Nat × List Value))) w') 12 (by kernel_rfl) M ?_; intro _; generalize w6.drew=w7 at M ⊢
     refine readC (i:=0) (some 24) rfl (.pointer (some ⟨B2,0,none⟩)) rfl rfl (by kernel_rfl) rfl (fun _ hS=>(by kernel_rfl)) (by kernel_rfl) (by kernel_rfl) (by kernel_rfl) (by kernel_rfl) (fun _ _ _ h=>h) M ?_; simp only [aP,lI,l0,lS]
     refine readC (i:=1) (some 25) rfl (.int .i64 (rlo f)) rfl rfl (by kernel_rfl) rfl (fun _ hS=>load1 3 _ ⟨B2,0,none⟩ _ rfl rfl (fun _=>by kernel_rfl) (hS.get mS 0 _ rfl)) (by kernel_rfl) (by kernel_rfl) (by kernel_rfl) (by kernel_rfl) (fun _ _ _ h=>h) M ?_; simp only [aP,lI,l0,lS]
     refine readC (i:=2) (some 26) rfl (.pointer (some ⟨R,ro,none⟩)) rfl rfl (by kernel_rfl) rfl (fun _ hS=>(by kernel_rfl)) (by kernel_rfl) (by kernel_rfl) (by kernel_rfl) (by kernel_rfl) (fun _ _ _ h=>h) M ?_; simp only [aP,lI,l0,lS]
     refine readC (i:=3) (some 27) rfl (.pointer (some ⟨R,ro,none⟩)) rfl rfl (by kernel_rfl) rfl (fun _ hS=>(by kernel_rfl)) (by kernel_rfl) (by kernel_rfl) (by kernel_rfl) (by kernel_rfl) (fun _ _ _ h=>h) M ?_; simp only [aP,lI,l0,lS]
     refine readC (i:=4) (some 28) rfl (.pointer (some ⟨R,ro,none⟩)) rfl rfl (by kernel_rfl) rfl (fun _ hS=>(by kernel_rfl)) (by kernel_rfl) (by kernel_rfl) (by kernel_rfl) (by kernel_rfl) (fun _ _ _ h=>h) M ?_; simp only [aP,lI,l0,lS]
     refine readC (i:=5) (some 29) rfl (.slice (some adr) L.length cap) rfl rfl (by kernel_rfl) rfl (fun _ hS=>load1 29 _ ⟨R,ro,none⟩ _ rfl rfl (fun _=>by kernel_rfl) (cellT hS.below hRA)) (by kernel_rfl) (by kernel_rfl) (by kernel_rfl) (by kernel_rfl) (fun _ _ _ h=>h) M ?_; simp only [aP,lI,l0,lS]
     refine readC (i:=6) (some 30) rfl (.int .i64 ((i:Nat):Int)) rfl rfl (by kernel_rfl) rfl (fun _ hS=>(by kernel_rfl)) (by kernel_rfl) (by kernel_rfl) (by kernel_rfl) (by kernel_rfl) (fun _ _ _ h=>h) M ?_; simp only [aP,lI,l0,lS]
     refine readC (i:=7) (some 31) rfl (.pointer (some (adr.add (i*2)))) rfl rfl (by kernel_rfl) rfl (fun _ hS=>idxR2 adr _ _ i (by omega) _ _ rfl rfl rfl _) (by kernel_rfl) (by kernel_rfl) (by kernel_rfl) (by kernel_rfl) (fun _ _ _ h=>h) M ?_; simp only [aP,lI,l0,lS]
     refine readC (i:=8) (some 32) rfl (.pointer (some ((adr.add (i*2)).add 0))) rfl rfl (by kernel_rfl) rfl (fun _ hS=>(by kernel_rfl)) (by kernel_rfl) (by kernel_rfl) (by kernel_rfl) (by kernel_rfl) (fun _ _ _ h=>h) M ?_; simp only [aP,lI,l0,lS]
     refine readC (i:=9) (some 33) rfl (.int .i64 p.1) rfl rfl (by kernel_rfl) rfl (fun _ hS=>load1 3 _ ((adr.add (i*2)).add 0) _ rfl rfl (fun _=>by kernel_rfl) (NewW.rng (NewW.below NA hS.below) hp 0 _ rfl)) (by kernel_rfl) (by kernel_rfl) (by kernel_rfl) (by kernel_rfl) (fun _ _ _ h=>h) M ?_; simp only [aP,lI,l0,lS]
     refine readC (i:=10) (some 34) rfl (.int .i64 (min (rlo f) p.1)) rfl rfl (by kernel_rfl) rfl (fun _ hS=>minI .i64 .i64 _ _ _ _ _ _ _ rfl rfl rfl (by split <;> omega) _) (by kernel_rfl) (by kernel_rfl) (by kernel_rfl) (by kernel_rfl) (fun _ _ _ h=>h) M ?_; simp only [aP,lI,l0,lS]
     refine readC (i:=11) (some 35) rfl (.pointer (some ⟨B2,0,none⟩)) rfl rfl (by kernel_rfl) rfl (fun _ hS=>(by kernel_rfl)) (by kernel_rfl) (by kernel_rfl) (by kernel_rfl) (by kernel_rfl) (fun _ _ _ h=>h) M ?_; simp only [aP,lI,l0,lS]
     refine skipC (S2:=fun _=>True) none rfl (by kernel_rfl) rfl rfl (storeAny (.int .i64 (min (rlo f) p.1)) B2 0 3 _ _ rfl rfl rfl rfl rfl (M.isSome mS 0 (by simp)) (M.free mS 0 (by simp)) (by kernel_rfl)) (by kernel_rfl) ?_; simp only [Act.put]; replace M:=M.set 0 (by simp) (.int .i64 (min (rlo f) p.1)); generalize w7.setCell ⟨B2,0,none⟩ (.int .i64 (min (rlo f) p.1))=w8 at M ⊢
     replace M:Mm w ((B2,[.int .i64 (min (rlo f) p.1),.int .i64 (rhi t)])::([]:List (Nat × List Value))) w8:=M
     refine wpAnyH_done (by kernel_rfl) ?_ _
     first | show Exit.then _ _ _ _ _ | show Exit.inBlock _ _ _ _ _
     go_upto_region 7 with fail; replace M:=M.drew; refine wp_region_C (S:=fun w'=>Mm w ((B2,[.int .i64 (min (rlo f) p.1),.int .i64 (rhi t)])::([]:List (Nat × List Value))) w') 13 (by kernel_rfl) M ?_; intro _; generalize w8.drew=w9 at M ⊢
     refine readC (i:=0) (some 36) rfl (.pointer (some ⟨B2,1,none⟩)) rfl rfl (by kernel_rfl) rfl (fun _ hS=>(by kernel_rfl)) (by kernel_rfl) (by kernel_rfl) (by kernel_rfl) (by kernel_rfl) (fun _ _ _ h=>h) M ?_; simp only [aP,lI,l0,lS]
     refine readC (i:=1) (some 37) rfl (.int .i64 (rhi t)) rfl rfl (by kernel_rfl) rfl (fun _ hS=>load1 3 _ ⟨B2,1,none⟩ _ rfl rfl (fun _=>by kernel_rfl) (hS.get mS 1 _ rfl)) (by kernel_rfl) (by kernel_rfl) (by kernel_rfl) (by kernel_rfl) (fun _ _ _ h=>h) M ?_; simp only [aP,lI,l0,lS]
     refine readC (i:=2) (some 38) rfl (.pointer (some ⟨R,ro,none⟩)) rfl rfl (by kernel_rfl) rfl (fun _ hS=>(by kernel_rfl)) (by kernel_rfl) (by kernel_rfl) (by kernel_rfl) (by kernel_rfl) (fun _ _ _ h=>h) M ?_; simp only [aP,lI,l0,lS]
     refine readC (i:=3) (some 39) rfl (.pointer (some ⟨R,ro,none⟩)) rfl rfl (by kernel_rfl) rfl (fun _ hS=>(by kernel_rfl)) (by kernel_rfl) (by kernel_rfl) (by kernel_rfl) (by kernel_rfl) (fun _ _ _ h=>h) M ?_; simp only [aP,lI,l0,lS]
     refine readC (i:=4) (some 40) rfl (.pointer (some ⟨R,ro,none⟩)) rfl rfl (by kernel_rfl) rfl (fun _ hS=>(by kernel_rfl)) (by kernel_rfl) (by kernel_rfl) (by kernel_rfl) (by kernel_rfl) (fun _ _ _ h=>h) M ?_; simp only [aP,lI,l0,lS]
     refine readC (i:=5) (some 41) rfl (.slice (some adr) L.length cap) rfl rfl (by kernel_rfl) rfl (fun _ hS=>load1 29 _ ⟨R,ro,none⟩ _ rfl rfl (fun _=>by kernel_rfl) (cellT hS.below hRA)) (by kernel_rfl) (by kernel_rfl) (by kernel_rfl) (by kernel_rfl) (fun _ _ _ h=>h) M ?_; simp only [aP,lI,l0,lS]
     refine readC (i:=6) (some 42) rfl (.int .i64 ((j:Nat):Int)) rfl rfl (by kernel_rfl) rfl (fun _ hS=>(by kernel_rfl)) (by kernel_rfl) (by kernel_rfl) (by kernel_rfl) (by kernel_rfl) (fun _ _ _ h=>h) M ?_; simp only [aP,lI,l0,lS]
     refine readC (i:=7) (some 43) rfl (.int .i64 ((j-1:Nat):Int)) rfl rfl (by kernel_rfl) rfl (fun _ hS=>subI .i64 _ _ _ _ _ _ _ rfl rfl rfl (by rw [xw6]; omega) _) (by kernel_rfl) (by kernel_rfl) (by kernel_rfl) (by kernel_rfl) (fun _ _ _ h=>h) M ?_; simp only [aP,lI,l0,lS]
     refine readC (i:=8) (some 44) rfl (.pointer (some (adr.add ((j-1)*2)))) rfl rfl (by kernel_rfl) rfl (fun _ hS=>idxR2 adr _ _ (j-1) (by omega) _ _ rfl rfl rfl _) (by kernel_rfl) (by kernel_rfl) (by kernel_rfl) (by kernel_rfl) (fun _ _ _ h=>h) M ?_; simp only [aP,lI,l0,lS]
     refine readC (i:=9) (some 45) rfl (.pointer (some ((adr.add ((j-1)*2)).add 1))) rfl rfl (by kernel_rfl) rfl (fun _ hS=>(by kernel_rfl)) (by kernel_rfl) (by kernel_rfl) (by kernel_rfl) (by kernel_rfl) (fun _ _ _ h=>h) M ?_; simp only [aP,lI,l0,lS]
     refine readC (i:=10) (some 46) rfl (.int .i64 q.2) rfl rfl (by kernel_rfl) rfl (fun _ hS=>load1 3 _ ((adr.add ((j-1)*2)).add 1) _ rfl rfl (fun _=>by kernel_rfl) (NewW.rng (NewW.below NA hS.below) hq 1 _ rfl)) (by kernel_rfl) (by kernel_rfl) (by kernel_rfl) (by kernel_rfl) (fun _ _ _ h=>h) M ?_; simp only [aP,lI,l0,lS]
     refine readC (i:=11) (some 47) rfl (.int .i64 (max (rhi t) q.2)) rfl rfl (by kernel_rfl) rfl (fun _ hS=>maxI .i64 .i64 _ _ _ _ _ _ _ rfl rfl rfl (by split <;> omega) _) (by kernel_rfl) (by kernel_rfl) (by kernel_rfl) (by kernel_rfl) (fun _ _ _ h=>h) M ?_; simp only [aP,lI,l0,lS]
     refine readC (i:=12) (some 48) rfl (.pointer (some ⟨B2,1,none⟩)) rfl rfl (by kernel_rfl) rfl (fun _ hS=>(by kernel_rfl)) (by kernel_rfl) (by kernel_rfl) (by kernel_rfl) (by kernel_rfl) (fun _ _ _ h=>h) M ?_; simp only [aP,lI,l0,lS]
     refine skipC (S2:=fun _=>True) none rfl (by kernel_rfl) rfl rfl (storeAny (.int .i64 (max (rhi t) q.2)) B2 1 3 _ _ rfl rfl rfl rfl rfl (M.isSome mS 1 (by simp)) (M.free mS 1 (by simp)) (by kernel_rfl)) (by kernel_rfl) ?_; simp only [Act.put]; replace M:=M.set 1 (by simp) (.int .i64 (max (rhi t) q.2)); generalize w9.setCell ⟨B2,1,none⟩ (.int .i64 (max (rhi t) q.2))=w10 at M ⊢
     replace M:Mm w ((B2,[.int .i64 (min (rlo f) p.1),.int .i64 (max (rhi t) q.2)])::([]:List (Nat × List Value))) w10:=M
     refine wpAnyH_done (by kernel_rfl) ?_ _
     first | show Exit.then _ _ _ _ _ | show Exit.inBlock _ _ _ _ _
     have hrad:rad L f t=L.take i++([(min (rlo f) p.1,max (rhi t) q.2)]++L.drop j):=by rw [rad_is17 (by omega),rins_touch hT hc (by omega) hlt hp hq]
     go_upto_region 8 with fail; refine wp_region_list ?_; refine xpL (.pointer (some ⟨R,ro,none⟩)) ?_; refine xpL (.int .i64 ((i:Nat):Int)) ?_; refine xpL (.int .i64 ((j:Nat):Int)) ?_
     refine xaL (.agg #[.int .i64 (min (rlo f) p.1),.int .i64 (max (rhi t) q.2)]) (loadN 49 _ ⟨B2,0,none⟩ [.int .i64 (min (rlo f) p.1),.int .i64 (max (rhi t) q.2)] rfl rfl (fun _=>by kernel_rfl) (fun _=>by kernel_rfl) (M.rangeAt mS)) ?_
     have VR:(w10.alloc (.cells #[.int .i64 (min (rlo f) p.1),.int .i64 (max (rhi t) q.2)] 49)).ownsRow 0 49 2 (.slice (some ⟨w10.heap.size,0,none⟩) 1 1) 1 (wrc [(min (rlo f) p.1,max (rhi t) q.2)]):=World.ownsRow_lit (base:=0) (e:=49) (size:=2) w10 #[.int .i64 (min (rlo f) p.1),.int .i64 (max (rhi t) q.2)] 1 (Nat.zero_le _) (by unfold maxLen; omega) rfl
     refine actL (w':=w10.alloc (.cells #[.int .i64 (min (rlo f) p.1),.int .i64 (max (rhi t) q.2)] 49)) (.slice (some ⟨w10.heap.size,0,none⟩) 1 1) rfl (by kernel_rfl) ?_; simp only [aP,lI,l0,lS]; replace M:=M.box #[.int .i64 (min (rlo f) p.1),.int .i64 (max (rhi t) q.2)] 49 w10.heap.size rfl
     generalize w10.alloc (.cells #[.int .i64 (min (rlo f) p.1),.int .i64 (max (rhi t) q.2)] 49)=w11 at M VR ⊢; generalize hbz:w10.heap.size=B11 at M VR ⊢; clear hbz
     replace M:Mm w ((B11,[.int .i64 (min (rlo f) p.1),.int .i64 (max (rhi t) q.2)])::(B2,[.int .i64 (min (rlo f) p.1),.int .i64 (max (rhi t) q.2)])::([]:List (Nat × List Value))) w11:=M
     have hva:=vb_away M0 M; have key:=vreplace_any w0 _ R ro sp cap L [(min (rlo f) p.1,max (rhi t) q.2)] l i j B11 1 hc (one_can (by omega) (by omega) (by omega)) hij hjl hln (Nat.le_of_ble_eq_true rfl) (fun _=>Nat.succ_pos _) (M0.call M.below) hcs (ownsRow_bel O_ M.below) VR hva; refine xcL key ?_; clear key; rintro e w12 ⟨sq,cq,rfl,M2,O2,OF2,hL2⟩
     have OF:Off (R::ob sp) w w12:=((Off.refl _ _).below M.below).trans OF2
     have hLs:∀ b_,b_∈ob sq→b_∈ob sp∨w.heap.size≤b_:=fun b_ hb_=>(hL2 b_ hb_).imp id (fun h_=>xnT M.below.size h_)
     clear hL2
     rw [← hrad] at M2 O2
     clear M OF2 VR; refine xeL ?_; refine xpL (.int .i64 (rtot [(min (rlo f) p.1,max (rhi t) q.2)]-rtot (mid17 L i j))) ?_; refine xT ?_
     have hN:rtot [(min (rlo f) p.1,max (rhi t) q.2)]-rtot (mid17 L i j)=radN L f t:=by have e_:=rtot_swap L [(min (rlo f) p.1,max (rhi t) q.2)] hij; unfold radN; rw [hrad,e_]
     rw [hN]
     have HS:=show Hid _ from (And.intro M2 (And.intro O2 (And.intro OF hLs))); clear M2 O2 OF hLs M0 O_ hN hrad hadr; go_wp2; go_ret
     first | exact ⟨sq,cq,rfl,HS.out⟩ | exact ⟨rfl,sq,cq,HS.out⟩
   · obtain rfl:j=i:=by omega
     go_upto_region 5 with fail; refine wp_region_list ?_; refine xpL (.int .i64 ((j:Nat):Int)) ?_; refine xpL (.int .i64 ((j:Nat):Int)) ?_; refine xaL (.bool false) (lssI .i64 _ _ _ _ _ _ rfl rfl rfl false (decide_eq_false (by omega)) _) ?_; refine xT ?_
     have hrad:rad L f t=L.take j++([(rlo f,rhi t)]++L.drop j):=by rw [rad_is17 (by omega),rins_apart hT hc (by omega)]
     go_upto_region 8 with fail; refine wp_region_list ?_; refine xpL (.pointer (some ⟨R,ro,none⟩)) ?_; refine xpL (.int .i64 ((j:Nat):Int)) ?_; refine xpL (.int .i64 ((j:Nat):Int)) ?_; refine xaL (.agg #[.int .i64 (rlo f),.int .i64 (rhi t)]) (loadN 49 _ ⟨B2,0,none⟩ [.int .i64 (rlo f),.int .i64 (rhi t)] rfl rfl (fun _=>by kernel_rfl) (fun _=>by kernel_rfl) (M.rangeAt mS)) ?_
     have VR:(w6.alloc (.cells #[.int .i64 (rlo f),.int .i64 (rhi t)] 49)).ownsRow 0 49 2 (.slice (some ⟨w6.heap.size,0,none⟩) 1 1) 1 (wrc [(rlo f,rhi t)]):=World.ownsRow_lit (base:=0) (e:=49) (size:=2) w6 #[.int .i64 (rlo f),.int .i64 (rhi t)] 1 (Nat.zero_le _) (by unfold maxLen; omega) rfl
     refine actL (w':=w6.alloc (.cells #[.int .i64 (rlo f),.int .i64 (rhi t)] 49)) (.slice (some ⟨w6.heap.size,0,none⟩) 1 1) rfl (by kernel_rfl) ?_; simp only [aP,lI,l0,lS]; replace M:=M.box #[.int .i64 (rlo f),.int .i64 (rhi t)] 49 w6.heap.size rfl; generalize w6.alloc (.cells #[.int .i64 (rlo f),.int .i64 (rhi t)] 49)=w13 at M VR ⊢; generalize hbz:w6.heap.size=B13 at M VR ⊢
     clear hbz
     replace M:Mm w ((B13,[.int .i64 (rlo f),.int .i64 (rhi t)])::(B2,[.int .i64 (rlo f),.int .i64 (rhi t)])::([]:List (Nat × List Value))) w13:=M
     have hva:=vb_away M0 M; have key:=vreplace_any w0 _ R ro sp cap L [(rlo f,rhi t)] l j j B13 1 hc (one_can hf0 hft ht1) hij hjl hln (Nat.le_of_ble_eq_true rfl) (fun _=>Nat.succ_pos _) (M0.call M.below) hcs (ownsRow_bel O_ M.below) VR hva; refine xcL key ?_; clear key; rintro e w14 ⟨sq,cq,rfl,M2,O2,OF2,hL2⟩
     have OF:Off (R::ob sp) w w14:=((Off.refl _ _).below M.below).trans OF2
     have hLs:∀ b_,b_∈ob sq→b_∈ob sp∨w.heap.size≤b_:=fun b_ hb_=>(hL2 b_ hb_).imp id (fun h_=>xnT M.below.size h_)
     clear hL2
     rw [← hrad] at M2 O2
     clear M OF2 VR; refine xeL ?_; refine xpL (.int .i64 (rtot [(rlo f,rhi t)]-rtot (mid17 L j j))) ?_; refine xT ?_
     have hN:rtot [(rlo f,rhi t)]-rtot (mid17 L j j)=radN L f t:=by have e_:=rtot_swap L [(rlo f,rhi t)] hij; unfold radN; rw [hrad,e_]
     rw [hN]
     have HS:=show Hid _ from (And.intro M2 (And.intro O2 (And.intro OF hLs))); clear M2 O2 OF hLs M0 O_ hN hrad; go_wp2; go_ret
     first | exact ⟨sq,cq,rfl,HS.out⟩ | exact ⟨rfl,sq,cq,HS.out⟩
def Ix17 (K:Rgs17) (r:Int):Prop:=(r=-1∧∀ z∈K,z.1<z.2)∨∃ (i:Nat) (z:Int × Int),r=(i:Int)∧K[i]?=some z∧z.2≤z.1∧∀ z∈K.take i,z.1<z.2
def keep17 (x y:Int × Int):Rgs17:=(if x.1<x.2 then [x] else [])++(if y.1<y.2 then [y] else [])
theorem keep_len (x y:Int × Int):(keep17 x y).length≤2:=by unfold keep17; split <;> split <;> simp
theorem ix_both {x y:Int × Int} {r:Int} (h:Ix17 [x,y] r) (hx:x.1<x.2) (hy:y.1<y.2):r=-1:=by
 rcases h with ⟨h,_⟩ | ⟨i,z,rfl,hz,h0,_⟩
 · exact h
 · rcases i with _ | _ | i
   · obtain rfl:x=z:=by simpa using hz
     omega
   · obtain rfl:y=z:=by simpa using hz
     omega
   · simp at hz
theorem ix_snd {x y:Int × Int} {r:Int} (h:Ix17 [x,y] r) (hx:x.1<x.2) (hy:¬ y.1<y.2):r=1:=by
 rcases h with ⟨_,h⟩ | ⟨i,z,rfl,hz,h0,_⟩
 · exact absurd (h y (by simp)) hy
 · rcases i with _ | _ | i
   · obtain rfl:x=z:=by simpa using hz
     omega
   · rfl
   · simp at hz
theorem ix_fst {x y:Int × Int} {r:Int} (h:Ix17 [x,y] r) (hx:¬ x.1<x.2):r=0:=by
 rcases h with ⟨_,h⟩ | ⟨i,z,rfl,hz,h0,h1⟩
 · exact absurd (h x (by simp)) hx
 · rcases i with _ | i
   · rfl
   · exact absurd (h1 x (by simp)) hx
theorem Mm.touch17 {w0 w w':World} {l:List (Nat × List Value)} {b:Nat} (M:Mm w0 ((b,[])::l) w) (g:w.grownBy w' (some b)):Mm w0 ((b,[])::l) w':=by
 have h:=M.tail.grownN g (fun b' e=>by
  injection e with e
  subst e
  exact ⟨M.lo mS,fun p hp e=>(List.pairwise_cons.1 M.apart).1 p hp e.symm⟩)
 exact h.addB (M.lo mS) (xnL (M.lt mS) g.size) fun p hp e=>(List.pairwise_cons.1 M.apart).1 p hp e.symm
theorem grown_cell (w:World) (g j:Nat) (u:Value):w.grownBy (w.setCell ⟨g,j,none⟩ u) (some g) :=
 ⟨rfl,rfl,rfl,by simp,fun k _ hk=>by
  have:k≠g:=fun e=>hk (by rw [e])
  simp [World.setCell,Array.getElem?_modify,Ne.symm this]⟩
theorem own_there {w:World} {g n cap:Nat} {xs:List Value} (h:w.ownsRow 0 49 2 (.slice (some ⟨g,0,none⟩) n cap) n xs) (o m:Nat) (hm:o+m≤n*2):w.there g o m:=fun j hj=>by
 obtain ⟨ys,B,_,hl⟩:=Blk.of h
 have hi:o+j<(xs++ys).length:=by rw [List.length_append]; omega
 exact ⟨by rw [B.cell (List.getElem?_eq_getElem hi)]; rfl,B.free _⟩
theorem Off.touched17 {w w1 w2:World} {b:Nat} (h:Off [b] w w1) (g:w1.grownBy w2 (some b)):Off [b] w w2:=h.grown g fun b' e=>.inl (by injection e with e; subst e; exact mS)
theorem vix_any (sp:Option Addr) (cap:Nat) (L:Rgs17) (hln:L.length<1000000) (w:World) (N:NewW w 0 L (.slice sp L.length cap)) :
 Calls Try.prog 57 #[.slice sp L.length cap,.func (.func 43) #[] #[]] w fun e w'=>∃ r:Int,e=.returned (.int .i64 r)∧Ix17 L r∧Below w.heap.size w w':=by
 have M:=Mm.init w
 go_enter Try.func57,Try.ntmps57
 go_upto_region 0 with fail; refine wp_region_list ?_; refine xpL (.int .i64 0) ?_; refine xT ?_; go_upto_region 1 with fail; refine wp_region_list ?_; refine xpL (.slice sp L.length cap) ?_; refine xaL (.int .i64 ((L.length:Nat):Int)) (lenS _ 29 49 sp L.length cap rfl Try.underlying29 rfl _) ?_; refine xpL (.int .i64 0) ?_; refine xT ?_; have HI:=show Hid _ from M.below; clear M; go_wp2
 go_loopw [8] (fun i w'=>∃ i':Nat,i'≤L.length∧Hid (∀ z∈L.take i',z.1<z.2)∧i=.int .i64 (i':Int)∧Below w.heap.size w w') (fun i _=>L.length-(intOf i).toNat)
 case atStart=>exact ⟨0,Nat.zero_le _,(show Hid _ from fun z hz=>by cases hz),rfl,HI.out⟩
 case round =>
  clear HI
  obtain ⟨i,hi,HQ,rfl,hB⟩:=hrel
  by_cases hil:i<L.length
  · obtain ⟨pr,hpr⟩:∃ pr,L[i]?=some pr:=⟨_,List.getElem?_eq_getElem hil⟩
    obtain ⟨adr,rfl,_,_⟩:=NewW.at N hpr
    have M:=(Mm.init w).call hB; go_upto_region 2 with fail; refine wp_region_list ?_; refine xaL (.bool true) (lssI .i64 _ _ _ _ _ _ rfl rfl rfl true (decide_eq_true (by omega)) _) ?_; refine xT ?_; go_upto_region 3 with fail; refine wp_region_list ?_; refine xpL (.int .i64 (i:Int)) ?_; refine xpL (.int .i64 (i:Int)) ?_; refine xT ?_
    by_cases hem:pr.1≥pr.2
    · go_upto_region 4 with fail
      refine wp_region_list ?_; refine xpL (.func (.func 43) #[] #[]) ?_; refine xpL (.slice (some adr) L.length cap) ?_; refine xpL (.int .i64 (i:Int)) ?_; refine readL (.pointer (some (adr.add (i*2)))) rfl (idxR2 adr _ _ i hil _ _ rfl rfl rfl _) ?_; simp only [aP,lI,l0,lS]
      refine xaL (.agg #[.int .i64 pr.1,.int .i64 pr.2]) (loadN 49 _ (adr.add (i*2)) [.int .i64 pr.1,.int .i64 pr.2] rfl rfl (fun _=>by kernel_rfl) (fun _=>by kernel_rfl) (NewW.rng (NewW.below N M.below) hpr)) ?_; have key:=vempty_any pr.1 pr.2 wr
      rw [show decide (pr.1≥pr.2)=true from decide_eq_true (by omega)] at key
      refine xcL key ?_; clear key; rintro e w1 ⟨rfl,l_⟩; replace M:=M.call l_; clear l_; refine xeL ?_; refine xT ?_; go_upto_region 5 with fail; refine wp_region_list ?_; refine xpL (.int .i64 (i:Int)) ?_; refine xpL (.int .i64 (i:Int)) ?_; refine xT ?_
      have HB:=show Hid _ from (show ∃ r_:Int,r_=(i:Int)∧Ix17 L r_∧Below _ _ _ from ⟨_,rfl,.inr ⟨i,pr,rfl,hpr,by omega,HQ.out⟩,M.below⟩); clear M; go_wp2; go_ret
      obtain ⟨r_,rfl,h1_,h2_⟩:=HB.out
      exact ⟨_,rfl,h1_,h2_⟩
    · go_upto_region 4 with fail
      refine wp_region_list ?_; refine xpL (.func (.func 43) #[] #[]) ?_; refine xpL (.slice (some adr) L.length cap) ?_; refine xpL (.int .i64 (i:Int)) ?_; refine readL (.pointer (some (adr.add (i*2)))) rfl (idxR2 adr _ _ i hil _ _ rfl rfl rfl _) ?_; simp only [aP,lI,l0,lS]
      refine xaL (.agg #[.int .i64 pr.1,.int .i64 pr.2]) (loadN 49 _ (adr.add (i*2)) [.int .i64 pr.1,.int .i64 pr.2] rfl rfl (fun _=>by kernel_rfl) (fun _=>by kernel_rfl) (NewW.rng (NewW.below N M.below) hpr)) ?_; have key:=vempty_any pr.1 pr.2 wr
      rw [show decide (pr.1≥pr.2)=false from decide_eq_false (by omega)] at key
      refine xcL key ?_; clear key; rintro e w2 ⟨rfl,l_⟩; replace M:=M.call l_; clear l_; refine xeL ?_; refine xT ?_; have HS:=show Hid _ from M.below
      have HQ2:Hid (∀ z∈L.take (i+1),z.1<z.2):=(show Hid _ from fun z hz=>by rw [take_get hpr] at hz; rcases List.mem_append.1 hz with hz | hz; exact HQ.out z hz; obtain rfl:=xm1 hz; omega)
      clear M; go_wp2
      go_roundw
      case rel=>exact ⟨i+1,by omega,HQ2,by go_num,HS.out⟩
      case measure=>simp [intOf]; omega
  · have M:=(Mm.init w).call hB
    rw [List.take_of_length_le (show L.length≤i by omega)] at HQ
    go_upto_region 2 with fail; refine wp_region_list ?_; refine xaL (.bool false) (lssI .i64 _ _ _ _ _ _ rfl rfl rfl false (decide_eq_false (by omega)) _) ?_; refine xT ?_; go_upto_region 7 with fail; refine wp_region_list ?_; refine xpL (.int .i64 (-1)) ?_; refine xT ?_; have HB:=show Hid _ from (show Ix17 L (-1)∧Below _ _ _ from ⟨.inl ⟨rfl,HQ.out⟩,M.below⟩); clear M; go_wp2; go_ret
    exact ⟨_,rfl,HB.out⟩
theorem vdel_any (w0 w:World) (x y:Int × Int) (vb:Nat) (l:List (Nat × List Value)) (M:Mm w0 ((vb,[])::l) w) (V_:w.ownsRow 0 49 2 (.slice (some ⟨vb,0,none⟩) 2 2) 2 (wrc [x,y])) :
 Calls Try.prog 48 #[.slice (some ⟨vb,0,none⟩) 2 2,.func (.func 43) #[] #[]] w fun e w'=>e=.returned (.slice (some ⟨vb,0,none⟩) (keep17 x y).length 2)∧Mm w0 ((vb,[])::l) w'∧w'.ownsRow 0 49 2 (.slice (some ⟨vb,0,none⟩) (keep17 x y).length 2) (keep17 x y).length (wrc (keep17 x y))∧Off [vb] w w':=by
 have OF:=Off.refl [vb] w; have hkl:=keep_len x y
 go_enter Try.func48,Try.ntmps48
 go_upto_region 0 with fail; refine wp_region_list ?_; refine xpL (.slice none 0 0) ?_; refine xT ?_
 by_cases hx:x.1<x.2
 · by_cases hy:y.1<y.2
   · go_upto_region 1 with fail
     refine wp_region_list ?_; refine xpL (.slice (some ⟨vb,0,none⟩) 2 2) ?_; refine xpL (.func (.func 43) #[] #[]) ?_; have key:=vix_any (some ⟨vb,0,none⟩) 2 [x,y] (Nat.le_of_ble_eq_true rfl) _ (NewW.ofOwn (rl:=[x,y]) V_); refine xcL key ?_; clear key; rintro e w1 ⟨r_,rfl,hix,lb⟩
     obtain rfl:=ix_both hix hx hy
     clear hix; replace M:=M.call lb; replace V_:=ownsRow_bel V_ lb; replace OF:=OF.below lb; clear lb; refine xeL ?_; refine xpL (.int .i64 (-1)) ?_; refine xT ?_; go_upto_region 2 with fail; refine wp_region_list ?_; refine xpL (.int .i64 (-1)) ?_; refine xaL (.bool true) (eqlI .i64 _ _ _ _ _ _ rfl rfl rfl true (by decide) _) ?_; refine xT ?_; go_upto_region 3 with fail
     refine wp_region_list ?_; refine xpL (.slice (some ⟨vb,0,none⟩) 2 2) ?_; refine xpL (.slice (some ⟨vb,0,none⟩) 2 2) ?_; refine xT ?_; have hK:=show Hid _ from (show (keep17 x y)=[x,y] by unfold keep17; rw [if_pos hx,if_pos hy]; rfl)
     have HS:=show Hid _ from (show Mm w0 ((vb,[])::l) w1∧w1.ownsRow 0 49 2 (.slice (some ⟨vb,0,none⟩) (keep17 x y).length 2) (keep17 x y).length (wrc (keep17 x y))∧Off [vb] w w1 by rw [hK.out]; exact ⟨M,V_,OF⟩); clear M V_ OF hkl; go_wp2; go_ret
     exact ⟨by rw [hK.out]; rfl,HS.out⟩
   · go_upto_region 1 with fail
     refine wp_region_list ?_; refine xpL (.slice (some ⟨vb,0,none⟩) 2 2) ?_; refine xpL (.func (.func 43) #[] #[]) ?_; have key:=vix_any (some ⟨vb,0,none⟩) 2 [x,y] (Nat.le_of_ble_eq_true rfl) _ (NewW.ofOwn (rl:=[x,y]) V_); refine xcL key ?_; clear key; rintro e w2 ⟨r_,rfl,hix,lb⟩
     obtain rfl:=ix_snd hix hx hy
     clear hix; replace M:=M.call lb; replace V_:=ownsRow_bel V_ lb; replace OF:=OF.below lb; clear lb; refine xeL ?_; refine xpL (.int .i64 1) ?_; refine xT ?_; go_upto_region 2 with fail; refine wp_region_list ?_; refine xpL (.int .i64 1) ?_; refine xaL (.bool false) (eqlI .i64 _ _ _ _ _ _ rfl rfl rfl false (by decide) _) ?_; refine xT ?_; go_upto_region 4 with fail
     refine wp_region_list ?_; refine xpL (.int .i64 1) ?_; refine xaL (.int .i64 2) (addI .i64 _ _ _ _ _ _ _ rfl rfl rfl (by decide) _) ?_; refine xpL (.int .i64 2) ?_; refine xT ?_
     have HI:=show Hid _ from (show ∃ D:Rgs17,w2.ownsRow 0 49 2 (.slice (some ⟨vb,0,none⟩) 2 2) 2 (wrc D)∧Mm w0 ((vb,[])::l) w2∧Off [vb] w w2∧((keep17 x y) <+: D∧D.length=2∧(keep17 x y).length=1) from ⟨[x,y],V_,M,OF,by unfold keep17; rw [if_pos hx,if_neg hy]; exact ⟨⟨[y],rfl⟩,rfl,rfl⟩⟩); clear V_ M OF; go_wp2
     go_loopw [5,6] (fun a b w'=>∃ D:Rgs17,w'.ownsRow 0 49 2 (.slice (some ⟨vb,0,none⟩) 2 2) 2 (wrc D)∧Mm w0 ((vb,[])::l) w'∧Off [vb] w w'∧((b=.int .i64 1∧a=.int .i64 0∧D=[x,y]∧¬ x.1<x.2)∨(b=.int .i64 2∧a=.int .i64 (((keep17 x y).length:Nat):Int)∧(keep17 x y) <+: D∧D.length=2))) (fun _ b _=>2-(intOf b).toNat)
     case atStart=>obtain ⟨D,h1,h2,h3,h4⟩:=HI.out; exact ⟨D,h1,h2,h3,.inr ⟨rfl,by rw [h4.2.2]; rfl,h4.1,h4.2.1⟩⟩
     case round =>
      clear HI
      obtain ⟨D,V_,M,OF,⟨rfl,rfl,rfl,hx'⟩ | ⟨rfl,rfl,hpre,hD⟩⟩:=hrel
      · go_upto_region 5 with fail
        refine wp_region_list ?_; refine xpL (.int .i64 1) ?_; refine xpL (.slice (some ⟨vb,0,none⟩) 2 2) ?_; refine xaL (.int .i64 ((2:Nat):Int)) (lenS _ 29 49 (some ⟨vb,0,none⟩) 2 2 rfl Try.underlying29 rfl _) ?_; refine xaL (.bool true) (lssI .i64 _ _ _ _ _ _ rfl rfl rfl true (by decide) _) ?_; refine xT ?_; have hOz:=OF.size; go_upto_region 7 with fail; refine wp_region_list ?_
        refine xpL (.slice (some ⟨vb,0,none⟩) 2 2) ?_; refine xpL (.int .i64 1) ?_; refine readL (.pointer (some ((⟨vb,0,none⟩:Addr).add (1*2)))) rfl (idxR2 (⟨vb,0,none⟩:Addr) 2 2 1 (by decide) _ _ rfl rfl rfl _) ?_; simp only [aP,lI,l0,lS]
        refine xaL (.agg #[.int .i64 y.1,.int .i64 y.2]) (loadN 49 _ ((⟨vb,0,none⟩:Addr).add (1*2)) [.int .i64 y.1,.int .i64 y.2] rfl rfl (fun _=>by kernel_rfl) (fun _=>by kernel_rfl) (NewW.rng (NewW.ofOwn (rl:=[x,y]) V_) (i:=1) rfl)) ?_; refine actL (w':=wr.alloc (.cells #[.int .i64 0,.int .i64 0] 49)) (.pointer (some ⟨wr.heap.size,0,none⟩)) rfl (by kernel_rfl) ?_
        simp only [aP,lI,l0,lS]; have hlb:=(Below.refl wr.heap.size wr).alloc (xnR _) (.cells #[.int .i64 0,.int .i64 0] 49); replace V_:=ownsRow_bel V_ hlb; replace OF:=OF.below hlb; clear hlb
        have hB_B3:w0.heap.size≤wr.heap.size:=M.below.size
        replace M:=M.box #[.int .i64 0,.int .i64 0] 49 wr.heap.size rfl; generalize wr.alloc (.cells #[.int .i64 0,.int .i64 0] 49)=w3 at M V_ OF ⊢; generalize eB:wr.heap.size=B3 at M hB_B3  ⊢
        have hE_B3:wr.heap.size≤B3:=Nat.le_of_eq eB
        have hF_B3:B3≤wr.heap.size:=Nat.le_of_eq eB.symm
        clear eB
        replace M:Mm w0 ((B3,[.int .i64 0,.int .i64 0])::((vb,[])::l)) w3:=M
        refine skipOpL rfl (storeP [.int .i64 y.1,.int .i64 y.2] B3 0 49 _ _ rfl rfl rfl (M.thereP mS 0 2 (Nat.le_of_ble_eq_true rfl)) (by kernel_rfl) (List.all_eq_true.1 (rfl:([.int .i64 y.1,.int .i64 y.2]:List Value).all (fun u=>u.oneCell')=true))) ?_; simp only [Act.put]; replace M:=M.setPart [.int .i64 y.1,.int .i64 y.2] 0 (Nat.le_of_ble_eq_true rfl)
        replace V_:=ownsRow_away V_ ((Off.refl [B3] _).setAll (b:=B3) mS 0 [.int .i64 y.1,.int .i64 y.2]) (fun b_ hb_ hv_=>by obtain rfl:=xm1 hb_; obtain rfl:=xm1 hv_; exact (List.pairwise_cons.1 M.apart).1 _ mS rfl); replace OF:=OF.and1 ((Off.refl [B3] _).setAll (b:=B3) mS 0 [.int .i64 y.1,.int .i64 y.2]) (.inr (by omega))
        generalize w3.setCells B3 0 [.int .i64 y.1,.int .i64 y.2]=w4 at M V_ OF ⊢
        replace M:Mm w0 ((B3,[.int .i64 y.1,.int .i64 y.2])::((vb,[])::l)) w4:=M
        refine xT ?_
        by_cases hy:y.1<y.2
        · go_upto_region 8 with fail
          refine wp_region_list ?_; refine xpL (.func (.func 43) #[] #[]) ?_; refine xaL (.agg #[.int .i64 y.1,.int .i64 y.2]) (loadN 49 _ ⟨B3,0,none⟩ [.int .i64 y.1,.int .i64 y.2] rfl rfl (fun _=>by kernel_rfl) (fun _=>by kernel_rfl) (M.rangeAt mS)) ?_; have key:=vempty_any y.1 y.2 w4
          rw [show decide (y.1≥y.2)=false from decide_eq_false (by omega)] at key
          refine xcL key ?_; clear key; rintro e w5 ⟨rfl,l_⟩; replace M:=M.call l_; replace V_:=ownsRow_bel V_ l_; replace OF:=OF.below l_; clear l_; refine xeL ?_; refine xpL (.bool true) ?_; refine xT ?_; go_upto_region 9 with fail; refine wp_region_list ?_; refine xpL (.slice (some ⟨vb,0,none⟩) 2 2) ?_; refine xpL (.int .i64 0) ?_
          refine xaL (.agg #[.int .i64 y.1,.int .i64 y.2]) (loadN 49 _ ⟨B3,0,none⟩ [.int .i64 y.1,.int .i64 y.2] rfl rfl (fun _=>by kernel_rfl) (fun _=>by kernel_rfl) (M.rangeAt mS)) ?_; refine readL (.pointer (some ((⟨vb,0,none⟩:Addr).add (0*2)))) rfl (idxR2 (⟨vb,0,none⟩:Addr) 2 2 0 (by decide) _ _ rfl rfl rfl _) ?_; simp only [aP,lI,l0,lS]
          refine skipOpL rfl (storeP [.int .i64 y.1,.int .i64 y.2] vb 0 49 _ _ rfl rfl rfl (own_there V_ 0 2 (by decide)) (by kernel_rfl) (List.all_eq_true.1 (rfl:([.int .i64 y.1,.int .i64 y.2]:List Value).all (fun u=>u.oneCell')=true))) ?_; simp only [Act.put]; replace M:=((M.tail.touch17 (grown_cell _ vb 0 (.int .i64 y.1))).touch17 (grown_cell _ vb 1 (.int .i64 y.2)))
          replace OF:=(OF.touched17 (grown_cell _ vb 0 (.int .i64 y.1))).touched17 (grown_cell _ vb 1 (.int .i64 y.2)); replace V_:=ownsRow_put (ownsRow_put V_ 0 (.int .i64 y.1)) 1 (.int .i64 y.2)
          replace M:Mm w0 ((vb,[])::l) (w5.setCells vb 0 [.int .i64 y.1,.int .i64 y.2]):=M
          replace OF:Off [vb] w (w5.setCells vb 0 [.int .i64 y.1,.int .i64 y.2]):=OF
          replace V_:(w5.setCells vb 0 [.int .i64 y.1,.int .i64 y.2]).ownsRow 0 49 2 (.slice (some ⟨vb,0,none⟩) 2 2) 2 (wrc [y,y]):=V_
          generalize w5.setCells vb 0 [.int .i64 y.1,.int .i64 y.2]=w7 at M V_ OF ⊢; refine xT ?_; go_upto_region 10 with fail; refine wp_region_list ?_; refine xpL (.int .i64 0) ?_; refine xaL (.int .i64 1) (addI .i64 _ _ _ _ _ _ _ rfl rfl rfl (by decide) _) ?_; refine xpL (.int .i64 1) ?_; refine xT ?_
          have HS:=show Hid _ from (show ∃ D:Rgs17,w7.ownsRow 0 49 2 (.slice (some ⟨vb,0,none⟩) 2 2) 2 (wrc D)∧Mm w0 ((vb,[])::l) w7∧Off [vb] w w7∧(keep17 x y) <+: D∧D.length=2∧(keep17 x y).length=1 from ⟨[y,y],V_,M,OF,by unfold keep17; rw [if_neg hx',if_pos hy]; exact List.prefix_append [y] [y],rfl,by unfold keep17; rw [if_neg hx',if_pos hy]; rfl⟩); clear V_ M OF
          go_wp2
          go_roundw
          case rel=>obtain ⟨D,h1,h2,h3,h4,h5,h6⟩:=HS.out; rw [h6]; exact ⟨D,h1,h2,h3,.inr ⟨rfl,rfl,h4,h5⟩⟩
          case measure=>simp [intOf]
        · go_upto_region 8 with fail
          refine wp_region_list ?_; refine xpL (.func (.func 43) #[] #[]) ?_; refine xaL (.agg #[.int .i64 y.1,.int .i64 y.2]) (loadN 49 _ ⟨B3,0,none⟩ [.int .i64 y.1,.int .i64 y.2] rfl rfl (fun _=>by kernel_rfl) (fun _=>by kernel_rfl) (M.rangeAt mS)) ?_; have key:=vempty_any y.1 y.2 w4
          rw [show decide (y.1≥y.2)=true from decide_eq_true (by omega)] at key
          refine xcL key ?_; clear key; rintro e w6 ⟨rfl,l_⟩; replace M:=M.call l_; replace V_:=ownsRow_bel V_ l_; replace OF:=OF.below l_; clear l_; refine xeL ?_; refine xpL (.bool false) ?_; refine xT ?_; replace M:=M.tail
          have HS:=show Hid _ from (show ∃ D:Rgs17,w6.ownsRow 0 49 2 (.slice (some ⟨vb,0,none⟩) 2 2) 2 (wrc D)∧Mm w0 ((vb,[])::l) w6∧Off [vb] w w6∧(keep17 x y) <+: D∧D.length=2∧(keep17 x y).length=0 from ⟨[x,y],V_,M,OF,by unfold keep17; rw [if_neg hx',if_neg hy]; exact List.nil_prefix,rfl,by unfold keep17; rw [if_neg hx',if_neg hy]; rfl⟩); clear V_ M OF; go_wp2
          go_roundw
          case rel=>obtain ⟨D,h1,h2,h3,h4,h5,h6⟩:=HS.out; rw [h6]; exact ⟨D,h1,h2,h3,.inr ⟨rfl,rfl,h4,h5⟩⟩
          case measure=>simp [intOf]
      · go_upto_region 5 with fail
        refine wp_region_list ?_; refine xpL (.int .i64 2) ?_; refine xpL (.slice (some ⟨vb,0,none⟩) 2 2) ?_; refine xaL (.int .i64 ((2:Nat):Int)) (lenS _ 29 49 (some ⟨vb,0,none⟩) 2 2 rfl Try.underlying29 rfl _) ?_; refine xaL (.bool false) (lssI .i64 _ _ _ _ _ _ rfl rfl rfl false (by decide) _) ?_; refine xT ?_; go_upto_region 11 with fail; refine wp_region_list ?_
        refine xpL (.slice (some ⟨vb,0,none⟩) 2 2) ?_; refine xpL (.int .i64 (((keep17 x y).length:Nat):Int)) ?_
        refine xaL (.slice (slp (some ⟨vb,0,none⟩) 2 (keep17 x y).length) (2-(keep17 x y).length) (2-(keep17 x y).length)) (cutOp _ _ _ _ _ _ rfl rfl rfl (sl_l (P:=Try.prog) (t:=29) (by kernel_rfl) (fun _=>by kernel_rfl) (some ⟨vb,0,none⟩) 2 2 (keep17 x y).length hkl _)) ?_
        obtain ⟨ys,BV,_,_⟩:=Blk.of V_
        have hbl:=BV.len; have hdl:=wrc_len D
        have hpp:wrc (keep17 x y) <+: wrc D++ys:=by
         obtain ⟨E,rfl⟩:=hpre
         rw [wrc_app,List.append_assoc]
         exact List.prefix_append _ _
        have hkw:=wrc_len (keep17 x y)
        obtain ⟨vz,hvz,hrn⟩:=BV.clears (P:=Try.prog) (t:=29) (ty:=0) Try.underlying29 (fun _=>by kernel_rfl) (slp (some ⟨vb,0,none⟩) 2 (keep17 x y).length) (2-(keep17 x y).length) (2-(keep17 x y).length) ((keep17 x y).length*2) (fun _=>slp_g (by omega)) (by rw [hbl]; omega)
        have hlp:(keep17 x y).length*2+vz.length≤(wrc D++ys).length:=by rw [hvz,hbl]; omega
        refine actL _ rfl (clearOp17 _ 29 _ _ rfl rfl hrn) ?_; simp only [Act.put]; clear hrn; replace M:=M.touch17 (grown_set _ vb (ov (wrc D++ys) ((keep17 x y).length*2) vz).toArray); replace OF:=OF.touched17 (grown_set _ vb (ov (wrc D++ys) ((keep17 x y).length*2) vz).toArray)
        have V2:=(BV.put hlp).owns (n:=(keep17 x y).length) (pre_ov hpp hlp (by rw [hkw]; exact xnR _)) hkw hkl; clear V_ BV; have V_:=V2; clear V2; generalize wr.setRow vb (ov (wrc D++ys) ((keep17 x y).length*2) vz).toArray=w8 at M V_ OF ⊢; refine xT ?_; go_upto_region 12 with fail; refine wp_region_list ?_; refine xpL (.slice (some ⟨vb,0,none⟩) 2 2) ?_
        refine xpL (.int .i64 (((keep17 x y).length:Nat):Int)) ?_; refine xaL (.slice (some ⟨vb,0,none⟩) ((keep17 x y).length) 2) (cutHi _ _ _ _ _ _ rfl rfl rfl (sl_h0 (P:=Try.prog) (t:=29) (by kernel_rfl) (fun _=>by kernel_rfl) vb 2 2 (keep17 x y).length hkl _)) ?_; refine xpL (.slice (some ⟨vb,0,none⟩) ((keep17 x y).length) 2) ?_; refine xT ?_
        have HS:=show Hid _ from (And.intro M (And.intro V_ OF)); clear M V_ OF; go_wp2; go_ret
        exact ⟨rfl,HS.out⟩
 · go_upto_region 1 with fail
   refine wp_region_list ?_; refine xpL (.slice (some ⟨vb,0,none⟩) 2 2) ?_; refine xpL (.func (.func 43) #[] #[]) ?_; have key:=vix_any (some ⟨vb,0,none⟩) 2 [x,y] (Nat.le_of_ble_eq_true rfl) _ (NewW.ofOwn (rl:=[x,y]) V_); refine xcL key ?_; clear key; rintro e w9 ⟨r_,rfl,hix,lb⟩
   obtain rfl:=ix_fst hix hx
   clear hix; replace M:=M.call lb; replace V_:=ownsRow_bel V_ lb; replace OF:=OF.below lb; clear lb; refine xeL ?_; refine xpL (.int .i64 0) ?_; refine xT ?_; go_upto_region 2 with fail; refine wp_region_list ?_; refine xpL (.int .i64 0) ?_; refine xaL (.bool false) (eqlI .i64 _ _ _ _ _ _ rfl rfl rfl false (by decide) _) ?_; refine xT ?_; go_upto_region 4 with fail; refine wp_region_list ?_
   refine xpL (.int .i64 0) ?_; refine xaL (.int .i64 1) (addI .i64 _ _ _ _ _ _ _ rfl rfl rfl (by decide) _) ?_; refine xpL (.int .i64 1) ?_; refine xT ?_; have HI:=show Hid _ from (show ∃ D:Rgs17,w9.ownsRow 0 49 2 (.slice (some ⟨vb,0,none⟩) 2 2) 2 (wrc D)∧Mm w0 ((vb,[])::l) w9∧Off [vb] w w9∧(D=[x,y]∧¬ x.1<x.2) from ⟨[x,y],V_,M,OF,⟨rfl,hx⟩⟩); clear V_ M OF; go_wp2
   go_loopw [5,6] (fun a b w'=>∃ D:Rgs17,w'.ownsRow 0 49 2 (.slice (some ⟨vb,0,none⟩) 2 2) 2 (wrc D)∧Mm w0 ((vb,[])::l) w'∧Off [vb] w w'∧((b=.int .i64 1∧a=.int .i64 0∧D=[x,y]∧¬ x.1<x.2)∨(b=.int .i64 2∧a=.int .i64 (((keep17 x y).length:Nat):Int)∧(keep17 x y) <+: D∧D.length=2))) (fun _ b _=>2-(intOf b).toNat)
   case atStart=>obtain ⟨D,h1,h2,h3,h4⟩:=HI.out; exact ⟨D,h1,h2,h3,.inl ⟨rfl,rfl,h4.1,by have:=h4.2; omega⟩⟩
   case round =>
    clear HI
    obtain ⟨D,V_,M,OF,⟨rfl,rfl,rfl,hx'⟩ | ⟨rfl,rfl,hpre,hD⟩⟩:=hrel
    · go_upto_region 5 with fail
      refine wp_region_list ?_; refine xpL (.int .i64 1) ?_; refine xpL (.slice (some ⟨vb,0,none⟩) 2 2) ?_; refine xaL (.int .i64 ((2:Nat):Int)) (lenS _ 29 49 (some ⟨vb,0,none⟩) 2 2 rfl Try.underlying29 rfl _) ?_; refine xaL (.bool true) (lssI .i64 _ _ _ _ _ _ rfl rfl rfl true (by decide) _) ?_; refine xT ?_; have hOz:=OF.size; go_upto_region 7 with fail; refine wp_region_list ?_
      refine xpL (.slice (some ⟨vb,0,none⟩) 2 2) ?_; refine xpL (.int .i64 1) ?_; refine readL (.pointer (some ((⟨vb,0,none⟩:Addr).add (1*2)))) rfl (idxR2 (⟨vb,0,none⟩:Addr) 2 2 1 (by decide) _ _ rfl rfl rfl _) ?_; simp only [aP,lI,l0,lS]
      refine xaL (.agg #[.int .i64 y.1,.int .i64 y.2]) (loadN 49 _ ((⟨vb,0,none⟩:Addr).add (1*2)) [.int .i64 y.1,.int .i64 y.2] rfl rfl (fun _=>by kernel_rfl) (fun _=>by kernel_rfl) (NewW.rng (NewW.ofOwn (rl:=[x,y]) V_) (i:=1) rfl)) ?_; refine actL (w':=wr.alloc (.cells #[.int .i64 0,.int .i64 0] 49)) (.pointer (some ⟨wr.heap.size,0,none⟩)) rfl (by kernel_rfl) ?_
      simp only [aP,lI,l0,lS]; have hlb:=(Below.refl wr.heap.size wr).alloc (xnR _) (.cells #[.int .i64 0,.int .i64 0] 49); replace V_:=ownsRow_bel V_ hlb; replace OF:=OF.below hlb; clear hlb
      have hB_B10:w0.heap.size≤wr.heap.size:=M.below.size
      replace M:=M.box #[.int .i64 0,.int .i64 0] 49 wr.heap.size rfl; generalize wr.alloc (.cells #[.int .i64 0,.int .i64 0] 49)=w10 at M V_ OF ⊢; generalize eB:wr.heap.size=B10 at M hB_B10  ⊢
      have hE_B10:wr.heap.size≤B10:=Nat.le_of_eq eB
      have hF_B10:B10≤wr.heap.size:=Nat.le_of_eq eB.symm
      clear eB
      replace M:Mm w0 ((B10,[.int .i64 0,.int .i64 0])::((vb,[])::l)) w10:=M
      refine skipOpL rfl (storeP [.int .i64 y.1,.int .i64 y.2] B10 0 49 _ _ rfl rfl rfl (M.thereP mS 0 2 (Nat.le_of_ble_eq_true rfl)) (by kernel_rfl) (List.all_eq_true.1 (rfl:([.int .i64 y.1,.int .i64 y.2]:List Value).all (fun u=>u.oneCell')=true))) ?_; simp only [Act.put]; replace M:=M.setPart [.int .i64 y.1,.int .i64 y.2] 0 (Nat.le_of_ble_eq_true rfl)
      replace V_:=ownsRow_away V_ ((Off.refl [B10] _).setAll (b:=B10) mS 0 [.int .i64 y.1,.int .i64 y.2]) (fun b_ hb_ hv_=>by obtain rfl:=xm1 hb_; obtain rfl:=xm1 hv_; exact (List.pairwise_cons.1 M.apart).1 _ mS rfl); replace OF:=OF.and1 ((Off.refl [B10] _).setAll (b:=B10) mS 0 [.int .i64 y.1,.int .i64 y.2]) (.inr (by omega))
      generalize w10.setCells B10 0 [.int .i64 y.1,.int .i64 y.2]=w11 at M V_ OF ⊢
      replace M:Mm w0 ((B10,[.int .i64 y.1,.int .i64 y.2])::((vb,[])::l)) w11:=M
      refine xT ?_
      by_cases hy:y.1<y.2
      · go_upto_region 8 with fail
        refine wp_region_list ?_; refine xpL (.func (.func 43) #[] #[]) ?_; refine xaL (.agg #[.int .i64 y.1,.int .i64 y.2]) (loadN 49 _ ⟨B10,0,none⟩ [.int .i64 y.1,.int .i64 y.2] rfl rfl (fun _=>by kernel_rfl) (fun _=>by kernel_rfl) (M.rangeAt mS)) ?_; have key:=vempty_any y.1 y.2 w11
        rw [show decide (y.1≥y.2)=false from decide_eq_false (by omega)] at key
        refine xcL key ?_; clear key; rintro e w12 ⟨rfl,l_⟩; replace M:=M.call l_; replace V_:=ownsRow_bel V_ l_; replace OF:=OF.below l_; clear l_; refine xeL ?_; refine xpL (.bool true) ?_; refine xT ?_; go_upto_region 9 with fail; refine wp_region_list ?_; refine xpL (.slice (some ⟨vb,0,none⟩) 2 2) ?_; refine xpL (.int .i64 0) ?_
        refine xaL (.agg #[.int .i64 y.1,.int .i64 y.2]) (loadN 49 _ ⟨B10,0,none⟩ [.int .i64 y.1,.int .i64 y.2] rfl rfl (fun _=>by kernel_rfl) (fun _=>by kernel_rfl) (M.rangeAt mS)) ?_; refine readL (.pointer (some ((⟨vb,0,none⟩:Addr).add (0*2)))) rfl (idxR2 (⟨vb,0,none⟩:Addr) 2 2 0 (by decide) _ _ rfl rfl rfl _) ?_; simp only [aP,lI,l0,lS]
        refine skipOpL rfl (storeP [.int .i64 y.1,.int .i64 y.2] vb 0 49 _ _ rfl rfl rfl (own_there V_ 0 2 (by decide)) (by kernel_rfl) (List.all_eq_true.1 (rfl:([.int .i64 y.1,.int .i64 y.2]:List Value).all (fun u=>u.oneCell')=true))) ?_; simp only [Act.put]; replace M:=((M.tail.touch17 (grown_cell _ vb 0 (.int .i64 y.1))).touch17 (grown_cell _ vb 1 (.int .i64 y.2)))
        replace OF:=(OF.touched17 (grown_cell _ vb 0 (.int .i64 y.1))).touched17 (grown_cell _ vb 1 (.int .i64 y.2)); replace V_:=ownsRow_put (ownsRow_put V_ 0 (.int .i64 y.1)) 1 (.int .i64 y.2)
        replace M:Mm w0 ((vb,[])::l) (w12.setCells vb 0 [.int .i64 y.1,.int .i64 y.2]):=M
        replace OF:Off [vb] w (w12.setCells vb 0 [.int .i64 y.1,.int .i64 y.2]):=OF
        replace V_:(w12.setCells vb 0 [.int .i64 y.1,.int .i64 y.2]).ownsRow 0 49 2 (.slice (some ⟨vb,0,none⟩) 2 2) 2 (wrc [y,y]):=V_
        generalize w12.setCells vb 0 [.int .i64 y.1,.int .i64 y.2]=w14 at M V_ OF ⊢; refine xT ?_; go_upto_region 10 with fail; refine wp_region_list ?_; refine xpL (.int .i64 0) ?_; refine xaL (.int .i64 1) (addI .i64 _ _ _ _ _ _ _ rfl rfl rfl (by decide) _) ?_; refine xpL (.int .i64 1) ?_; refine xT ?_
        have HS:=show Hid _ from (show ∃ D:Rgs17,w14.ownsRow 0 49 2 (.slice (some ⟨vb,0,none⟩) 2 2) 2 (wrc D)∧Mm w0 ((vb,[])::l) w14∧Off [vb] w w14∧(keep17 x y) <+: D∧D.length=2∧(keep17 x y).length=1 from ⟨[y,y],V_,M,OF,by unfold keep17; rw [if_neg hx',if_pos hy]; exact List.prefix_append [y] [y],rfl,by unfold keep17; rw [if_neg hx',if_pos hy]; rfl⟩)
        clear V_ M OF; go_wp2
        go_roundw
        case rel=>obtain ⟨D,h1,h2,h3,h4,h5,h6⟩:=HS.out; rw [h6]; exact ⟨D,h1,h2,h3,.inr ⟨rfl,rfl,h4,h5⟩⟩
        case measure=>simp [intOf]
      · go_upto_region 8 with fail
        refine wp_region_list ?_; refine xpL (.func (.func 43) #[] #[]) ?_; refine xaL (.agg #[.int .i64 y.1,.int .i64 y.2]) (loadN 49 _ ⟨B10,0,none⟩ [.int .i64 y.1,.int .i64 y.2] rfl rfl (fun _=>by kernel_rfl) (fun _=>by kernel_rfl) (M.rangeAt mS)) ?_; have key:=vempty_any y.1 y.2 w11
        rw [show decide (y.1≥y.2)=true from decide_eq_true (by omega)] at key
        refine xcL key ?_; clear key; rintro e w13 ⟨rfl,l_⟩; replace M:=M.call l_; replace V_:=ownsRow_bel V_ l_; replace OF:=OF.below l_; clear l_; refine xeL ?_; refine xpL (.bool false) ?_; refine xT ?_; replace M:=M.tail
        have HS:=show Hid _ from (show ∃ D:Rgs17,w13.ownsRow 0 49 2 (.slice (some ⟨vb,0,none⟩) 2 2) 2 (wrc D)∧Mm w0 ((vb,[])::l) w13∧Off [vb] w w13∧(keep17 x y) <+: D∧D.length=2∧(keep17 x y).length=0 from ⟨[x,y],V_,M,OF,by unfold keep17; rw [if_neg hx',if_neg hy]; exact List.nil_prefix,rfl,by unfold keep17; rw [if_neg hx',if_neg hy]; rfl⟩); clear V_ M OF; go_wp2
        go_roundw
        case rel=>obtain ⟨D,h1,h2,h3,h4,h5,h6⟩:=HS.out; rw [h6]; exact ⟨D,h1,h2,h3,.inr ⟨rfl,rfl,h4,h5⟩⟩
        case measure=>simp [intOf]
    · go_upto_region 5 with fail
      refine wp_region_list ?_; refine xpL (.int .i64 2) ?_; refine xpL (.slice (some ⟨vb,0,none⟩) 2 2) ?_; refine xaL (.int .i64 ((2:Nat):Int)) (lenS _ 29 49 (some ⟨vb,0,none⟩) 2 2 rfl Try.underlying29 rfl _) ?_; refine xaL (.bool false) (lssI .i64 _ _ _ _ _ _ rfl rfl rfl false (by decide) _) ?_; refine xT ?_; go_upto_region 11 with fail; refine wp_region_list ?_
      refine xpL (.slice (some ⟨vb,0,none⟩) 2 2) ?_; refine xpL (.int .i64 (((keep17 x y).length:Nat):Int)) ?_; refine xaL (.slice (slp (some ⟨vb,0,none⟩) 2 (keep17 x y).length) (2-(keep17 x y).length) (2-(keep17 x y).length)) (cutOp _ _ _ _ _ _ rfl rfl rfl (sl_l (P:=Try.prog) (t:=29) (by kernel_rfl) (fun _=>by kernel_rfl) (some ⟨vb,0,none⟩) 2 2 (keep17 x y).length hkl _)) ?_
      obtain ⟨ys,BV,_,_⟩:=Blk.of V_
      have hbl:=BV.len; have hdl:=wrc_len D
      have hpp:wrc (keep17 x y) <+: wrc D++ys:=by
       obtain ⟨E,rfl⟩:=hpre
       rw [wrc_app,List.append_assoc]
       exact List.prefix_append _ _
      have hkw:=wrc_len (keep17 x y)
      obtain ⟨vz,hvz,hrn⟩:=BV.clears (P:=Try.prog) (t:=29) (ty:=0) Try.underlying29 (fun _=>by kernel_rfl) (slp (some ⟨vb,0,none⟩) 2 (keep17 x y).length) (2-(keep17 x y).length) (2-(keep17 x y).length) ((keep17 x y).length*2) (fun _=>slp_g (by omega)) (by rw [hbl]; omega)
      have hlp:(keep17 x y).length*2+vz.length≤(wrc D++ys).length:=by rw [hvz,hbl]; omega
      refine actL _ rfl (clearOp17 _ 29 _ _ rfl rfl hrn) ?_; simp only [Act.put]; clear hrn; replace M:=M.touch17 (grown_set _ vb (ov (wrc D++ys) ((keep17 x y).length*2) vz).toArray); replace OF:=OF.touched17 (grown_set _ vb (ov (wrc D++ys) ((keep17 x y).length*2) vz).toArray); have V2:=(BV.put hlp).owns (n:=(keep17 x y).length) (pre_ov hpp hlp (by rw [hkw]; exact xnR _)) hkw hkl
      clear V_ BV; have V_:=V2; clear V2; generalize wr.setRow vb (ov (wrc D++ys) ((keep17 x y).length*2) vz).toArray=w15 at M V_ OF ⊢; refine xT ?_; go_upto_region 12 with fail; refine wp_region_list ?_; refine xpL (.slice (some ⟨vb,0,none⟩) 2 2) ?_; refine xpL (.int .i64 (((keep17 x y).length:Nat):Int)) ?_
      refine xaL (.slice (some ⟨vb,0,none⟩) ((keep17 x y).length) 2) (cutHi _ _ _ _ _ _ rfl rfl rfl (sl_h0 (P:=Try.prog) (t:=29) (by kernel_rfl) (fun _=>by kernel_rfl) vb 2 2 (keep17 x y).length hkl _)) ?_; refine xpL (.slice (some ⟨vb,0,none⟩) ((keep17 x y).length) 2) ?_; refine xT ?_; have HS:=show Hid _ from (And.intro M (And.intro V_ OF)); clear M V_ OF; go_wp2; go_ret
      exact ⟨rfl,HS.out⟩
theorem vcut_any (w0 w:World) (R ro:Nat) (sp:Option Addr) (cap:Nat) (L:Rgs17) (l:List (Nat × List Value)) (hc:Can L) (hln:L.length<1000000) (f t:Int) {cs:List Value} (M0:Mm w0 ((R,cs)::(obs sp++l)) w) (hcs:cs[ro]?=some (.slice sp L.length cap)) (O_:w.ownsRow 0 49 2 (.slice sp L.length cap) L.length (wrc L)) :
 Calls Try.prog 36 #[.pointer (some ⟨R,ro,none⟩),.int .i64 f,.int .i64 t] w fun e w'=>∃ sq cq,e=.returned (.int .i64 (rctN L f t))∧Mm w0 ((R,cs.set ro (.slice sq (rct L f t).length cq))::(obs sq++l)) w'∧w'.ownsRow 0 49 2 (.slice sq (rct L f t).length cq) (rct L f t).length (wrc (rct L f t))∧Off (R::ob sp) w w'∧∀ b_,b_∈ob sq→b_∈ob sp∨w.heap.size≤b_:=by
 have hR:=M0.get mS ro _ hcs; have N:=NewW.ofOwn O_; have M:=Mm.init w
 go_enter Try.func36,Try.ntmps36
 go_upto_region 0 with fail; refine wp_region_list ?_; refine xpL (.int .i64 0) ?_; refine xT ?_; go_upto_region 1 with fail; refine wp_region_list ?_; refine xpL (.int .i64 f) ?_; refine xpL (.int .i64 t) ?_; have key:=vwith_any f t w; refine xcL key ?_; clear key; rintro e w1 ⟨rfl,l⟩; replace M:=M.call l; clear l; refine xeL ?_
 refine actL (w':=w1.alloc (.cells #[.int .i64 0,.int .i64 0] 49)) (.pointer (some ⟨w1.heap.size,0,none⟩)) rfl (by kernel_rfl) ?_; simp only [aP,lI,l0,lS]
 have hB_B2:w.heap.size≤w1.heap.size:=M.below.size
 replace M:=M.box #[.int .i64 0,.int .i64 0] 49 w1.heap.size rfl; generalize w1.alloc (.cells #[.int .i64 0,.int .i64 0] 49)=w2 at M  ⊢; generalize eB:w1.heap.size=B2 at M hB_B2  ⊢
 have hE_B2:w1.heap.size≤B2:=Nat.le_of_eq eB
 have hF_B2:B2≤w1.heap.size:=Nat.le_of_eq eB.symm
 clear eB
 replace M:Mm w ((B2,[.int .i64 0,.int .i64 0])::([]:List (Nat × List Value))) w2:=M
 refine skipOpL rfl (storeP [.int .i64 (rlo f),.int .i64 (rhi t)] B2 0 49 _ _ rfl rfl rfl (M.thereP mS 0 2 (Nat.le_of_ble_eq_true rfl)) (by kernel_rfl) (List.all_eq_true.1 (rfl:([.int .i64 (rlo f),.int .i64 (rhi t)]:List Value).all (fun u=>u.oneCell')=true))) ?_; simp only [Act.put]; replace M:=M.setPart [.int .i64 (rlo f),.int .i64 (rhi t)] 0 (Nat.le_of_ble_eq_true rfl)
 generalize w2.setCells B2 0 [.int .i64 (rlo f),.int .i64 (rhi t)]=w3 at M  ⊢
 replace M:Mm w ((B2,[.int .i64 (rlo f),.int .i64 (rhi t)])::([]:List (Nat × List Value))) w3:=M
 refine xT ?_
 by_cases hge:rhi t≤rlo f
 · go_upto_region 2 with fail
   refine wp_region_list ?_; refine xaL (.agg #[.int .i64 (rlo f),.int .i64 (rhi t)]) (loadN 49 _ ⟨B2,0,none⟩ [.int .i64 (rlo f),.int .i64 (rhi t)] rfl rfl (fun _=>by kernel_rfl) (fun _=>by kernel_rfl) (M.rangeAt mS)) ?_; have key:=vempty_any (rlo f) (rhi t) w3
   rw [show decide (rlo f≥rhi t)=true from decide_eq_true (by omega)] at key
   refine xcL key ?_; clear key; rintro e w4 ⟨rfl,l_⟩; replace M:=M.call l_; clear l_; refine xeL ?_; refine xT ?_; go_upto_region 3 with fail; refine wp_region_list ?_; refine xpL (.int .i64 0) ?_; refine xT ?_
   have HS:=show Hid _ from (And.intro ((M0.call M.below).keepS hcs) (And.intro (ownsRow_bel O_ M.below) (And.intro ((Off.refl (R::ob sp) w).below M.below) (fun b_ (hb_:b_∈ob sp)=>Or.inl (b:=w.heap.size≤b_) hb_)))); clear M M0 O_; go_wp2; go_ret
   rw [(rct_no (L:=L) (f:=f) (t:=t) (by omega)).1,(rct_no (L:=L) (f:=f) (t:=t) (by omega)).2]
   first | exact ⟨sp,cap,rfl,HS.out⟩ | exact ⟨rfl,sp,cap,HS.out⟩
 · have hf0:0≤rlo f:=by unfold rlo; omega
   have ht1:rhi t≤4611686018427387904:=by unfold rhi; omega
   have hft:rlo f<rhi t:=by omega
   go_upto_region 2 with fail; refine wp_region_list ?_; refine xaL (.agg #[.int .i64 (rlo f),.int .i64 (rhi t)]) (loadN 49 _ ⟨B2,0,none⟩ [.int .i64 (rlo f),.int .i64 (rhi t)] rfl rfl (fun _=>by kernel_rfl) (fun _=>by kernel_rfl) (M.rangeAt mS)) ?_; have key:=vempty_any (rlo f) (rhi t) w3
   rw [show decide (rlo f≥rhi t)=false from decide_eq_false (by omega)] at key
   refine xcL key ?_; clear key; rintro e w5 ⟨rfl,l_⟩; replace M:=M.call l_; clear l_; refine xeL ?_; refine xT ?_; go_upto_region 4 with fail; refine wp_region_list ?_; refine xpL (.pointer (some ⟨R,ro,none⟩)) ?_
   refine xaL (.agg #[.int .i64 (rlo f),.int .i64 (rhi t)]) (loadN 49 _ ⟨B2,0,none⟩ [.int .i64 (rlo f),.int .i64 (rhi t)] rfl rfl (fun _=>by kernel_rfl) (fun _=>by kernel_rfl) (M.rangeAt mS)) ?_; have key:=vtouch_any R ro sp cap L hc hln (rlo f) (rhi t) _ (cellT M.below hR) (NewW.below N M.below); refine xcL key ?_; clear key; rintro e w6 ⟨i,j,rfl,hT,l⟩; replace M:=M.call l
   clear l; refine xeL ?_; refine xpL (.tuple #[.int .i64 ((i:Nat):Int),.int .i64 ((j:Nat):Int)]) ?_; refine xpL (.int .i64 ((i:Nat):Int)) ?_; refine xpL (.int .i64 ((j:Nat):Int)) ?_; refine xpL (.int .i64 ((i:Nat):Int)) ?_; refine xpL (.int .i64 ((j:Nat):Int)) ?_; refine xT ?_; have hij:=hT.le hc (by omega); have hjl:=hT.b.le
   by_cases hlt:i=j
   · subst hlt
     go_upto_region 5 with fail; refine wp_region_list ?_; refine xpL (.int .i64 ((i:Nat):Int)) ?_; refine xpL (.int .i64 ((i:Nat):Int)) ?_; refine xaL (.bool true) (eqlI .i64 _ _ _ _ _ _ rfl rfl rfl true (beq_self_eq_true _) _) ?_; refine xT ?_; go_upto_region 6 with fail; refine wp_region_list ?_; refine xpL (.int .i64 0) ?_; refine xT ?_
     have hR1:=show Hid _ from (show rct L f t=L by rw [rct_is (show ¬ rhi t≤rlo f by omega)]; exact rcut_apart hT hc hft); have hR2:=show Hid _ from (show rctN L f t=0 by unfold rctN; rw [hR1.out]; omega)
     have HS:=show Hid _ from (And.intro ((M0.call M.below).keepS hcs) (And.intro (ownsRow_bel O_ M.below) (And.intro ((Off.refl (R::ob sp) w).below M.below) (fun b_ (hb_:b_∈ob sp)=>Or.inl (b:=w.heap.size≤b_) hb_)))); clear M M0 O_; go_wp2; go_ret
     rw [hR1.out,hR2.out]
     first | exact ⟨sp,cap,rfl,HS.out⟩ | exact ⟨rfl,sp,cap,HS.out⟩
   · obtain ⟨p,hp⟩:∃ p,L[i]?=some p:=⟨_,List.getElem?_eq_getElem (by omega)⟩
     obtain ⟨q,hq⟩:∃ q,L[j-1]?=some q:=⟨_,List.getElem?_eq_getElem (by omega)⟩
     obtain ⟨adr,hadr,_,_⟩:=NewW.at N hp
     go_upto_region 5 with fail; refine wp_region_list ?_; refine xpL (.int .i64 ((i:Nat):Int)) ?_; refine xpL (.int .i64 ((j:Nat):Int)) ?_; refine xaL (.bool false) (eqlI .i64 _ _ _ _ _ _ rfl rfl rfl false (by rw [beq_eq_false_iff_ne]; omega) _) ?_; refine xT ?_; have NA:=N
     rw [hadr] at NA
     have hRA:=hR
     rw [hadr] at hRA
     clear hadr; go_upto_region 7 with fail; refine wp_region_held_drew (S:=fun w'=>Mm w ((B2,[.int .i64 (rlo f),.int .i64 (rhi t)])::([]:List (Nat × List Value))) w') (by kernel_rfl) M.drew ?_; intro _; replace M:=M.drew; have hdr:=(Below.refl w6.heap.size w6).drew; clear hdr; generalize w6.drew=w7 at M  ⊢
     refine xrH 0 25 rfl (.pointer (some ⟨R,ro,none⟩)) (fun _ hS=>(by kernel_rfl)) M ?_; refine xrH 1 26 rfl (.pointer (some ⟨R,ro,none⟩)) (fun _ hS=>(by kernel_rfl)) M ?_; refine xrH 2 27 rfl (.pointer (some ⟨R,ro,none⟩)) (fun _ hS=>(by kernel_rfl)) M ?_
     refine xrH 3 28 rfl (.slice (some adr) L.length cap) (fun _ hS=>load1 29 _ ⟨R,ro,none⟩ _ rfl rfl (fun _=>by kernel_rfl) (cellT hS.below hRA)) M ?_; refine xrH 4 29 rfl (.int .i64 ((i:Nat):Int)) (fun _ hS=>(by kernel_rfl)) M ?_; refine xrH 5 30 rfl (.pointer (some (adr.add (i*2)))) (fun _ hS=>idxR2 adr _ _ i (by omega) _ _ rfl rfl rfl _) M ?_
     refine xrH 6 31 rfl (.pointer (some ((adr.add (i*2)).add 0))) (fun _ hS=>(by kernel_rfl)) M ?_; refine xrH 7 32 rfl (.int .i64 p.1) (fun _ hS=>load1 3 _ ((adr.add (i*2)).add 0) _ rfl rfl (fun _=>by kernel_rfl) (NewW.rng (NewW.below NA hS.below) hp 0 _ rfl)) M ?_; refine xrH 8 33 rfl (.pointer (some ⟨B2,0,none⟩)) (fun _ hS=>(by kernel_rfl)) M ?_
     refine xrH 9 34 rfl (.int .i64 (rlo f)) (fun _ hS=>load1 3 _ ⟨B2,0,none⟩ _ rfl rfl (fun _=>by kernel_rfl) (hS.get mS 0 _ rfl)) M ?_; refine xrH 10 35 rfl (.agg #[.int .i64 p.1,.int .i64 (rlo f)]) (fun _ hS=>(by kernel_rfl)) M ?_; refine xrH 11 36 rfl (.pointer (some ⟨B2,1,none⟩)) (fun _ hS=>(by kernel_rfl)) M ?_
     refine xrH 12 37 rfl (.int .i64 (rhi t)) (fun _ hS=>load1 3 _ ⟨B2,1,none⟩ _ rfl rfl (fun _=>by kernel_rfl) (hS.get mS 1 _ rfl)) M ?_; refine xrH 13 38 rfl (.pointer (some ⟨R,ro,none⟩)) (fun _ hS=>(by kernel_rfl)) M ?_; refine xrH 14 39 rfl (.pointer (some ⟨R,ro,none⟩)) (fun _ hS=>(by kernel_rfl)) M ?_
     refine xrH 15 40 rfl (.pointer (some ⟨R,ro,none⟩)) (fun _ hS=>(by kernel_rfl)) M ?_; refine xrH 16 41 rfl (.slice (some adr) L.length cap) (fun _ hS=>load1 29 _ ⟨R,ro,none⟩ _ rfl rfl (fun _=>by kernel_rfl) (cellT hS.below hRA)) M ?_; refine xrH 17 42 rfl (.int .i64 ((j:Nat):Int)) (fun _ hS=>(by kernel_rfl)) M ?_
     refine xrH 18 43 rfl (.int .i64 ((j-1:Nat):Int)) (fun _ hS=>subI .i64 _ _ _ _ _ _ _ rfl rfl rfl (by rw [xw6]; omega) _) M ?_; refine xrH 19 44 rfl (.pointer (some (adr.add ((j-1)*2)))) (fun _ hS=>idxR2 adr _ _ (j-1) (by omega) _ _ rfl rfl rfl _) M ?_; refine xrH 20 45 rfl (.pointer (some ((adr.add ((j-1)*2)).add 1))) (fun _ hS=>(by kernel_rfl)) M ?_
     refine xrH 21 46 rfl (.int .i64 q.2) (fun _ hS=>load1 3 _ ((adr.add ((j-1)*2)).add 1) _ rfl rfl (fun _=>by kernel_rfl) (NewW.rng (NewW.below NA hS.below) hq 1 _ rfl)) M ?_; refine xrH 22 47 rfl (.agg #[.int .i64 (rhi t),.int .i64 q.2]) (fun _ hS=>(by kernel_rfl)) M ?_
     have VR:(w7.alloc (.cells #[.int .i64 p.1,.int .i64 (rlo f),.int .i64 (rhi t),.int .i64 q.2] 49)).ownsRow 0 49 2 (.slice (some ⟨w7.heap.size,0,none⟩) 2 2) 2 (wrc [(p.1,rlo f),(rhi t,q.2)]):=World.ownsRow_lit (base:=0) (e:=49) (size:=2) w7 #[.int .i64 p.1,.int .i64 (rlo f),.int .i64 (rhi t),.int .i64 q.2] 2 (Nat.zero_le _) (by unfold maxLen; omega) rfl
     refine onlyH (i:=23) (some 48) rfl (w':=w7.alloc (.cells #[.int .i64 p.1,.int .i64 (rlo f),.int .i64 (rhi t),.int .i64 q.2] 49)) (.slice (some ⟨w7.heap.size,0,none⟩) 2 2) (by kernel_rfl) rfl rfl (by kernel_rfl) (M.box _ _ _ rfl).tail ?_; simp only [aP,lI,l0,lS]; replace M:=M.box #[.int .i64 p.1,.int .i64 (rlo f),.int .i64 (rhi t),.int .i64 q.2] 49 w7.heap.size rfl
     generalize w7.alloc (.cells #[.int .i64 p.1,.int .i64 (rlo f),.int .i64 (rhi t),.int .i64 q.2] 49)=w8 at M VR ⊢; generalize hbz:w7.heap.size=B8 at M VR ⊢; clear hbz
     replace M:Mm w ((B8,[.int .i64 p.1,.int .i64 (rlo f),.int .i64 (rhi t),.int .i64 q.2])::(B2,[.int .i64 (rlo f),.int .i64 (rhi t)])::([]:List (Nat × List Value))) w8:=M
     refine xrH 24 10 rfl (.slice (some ⟨B8,0,none⟩) 2 2) (fun _ hS=>(by kernel_rfl)) M.tail ?_
     refine wpAnyH_done (by kernel_rfl) ?_ _
     first | show Exit.then _ _ _ _ _ | show Exit.inBlock _ _ _ _ _
     have hrct:rct L f t=L.take i++((keep17 ((p.1,rlo f):Int × Int) ((rhi t,q.2):Int × Int))++L.drop j):=by rw [rct_is (show ¬ rhi t≤rlo f by omega),rcut_touch hT hc hft (by omega) hp hq]; rfl
     have hcv:Can (keep17 ((p.1,rlo f):Int × Int) ((rhi t,q.2):Int × Int)):=(rct_can hc f t).sub (by rw [hrct]; exact (List.sublist_append_left _ _).trans (List.sublist_append_right _ _))
     have hb1:=rtot_in hcv; have hb2:=rtot_in (mid_can hc i j); go_upto_region 8 with fail; refine wp_region_list ?_; refine xpL (.pointer (some ⟨R,ro,none⟩)) ?_; refine xpL (.int .i64 ((i:Nat):Int)) ?_; refine xpL (.int .i64 ((j:Nat):Int)) ?_; refine xpL (.slice (some ⟨B8,0,none⟩) 2 2) ?_
     have key:=vdel_any w _ ((p.1,rlo f):Int × Int) ((rhi t,q.2):Int × Int) B8 _ M.untell VR; refine xcL key ?_; clear key; rintro e w9 ⟨rfl,M2,V2,_⟩; clear M VR; have M:=M2; clear M2; refine xeL ?_; have hva:=vb_away M0 M
     have key:=vreplace_any w0 _ R ro sp cap L (keep17 ((p.1,rlo f):Int × Int) ((rhi t,q.2):Int × Int)) l i j B8 2 hc hcv hij hjl hln (keep_len _ _) (fun e_=>absurd e_ hlt) (M0.call M.below) hcs (ownsRow_bel O_ M.below) V2 hva; refine xcL key ?_; clear key; rintro e w10 ⟨sq,cq,rfl,M2,O2,OF2,hL2⟩
     have OF:Off (R::ob sp) w w10:=((Off.refl _ _).below M.below).trans OF2
     have hLs:∀ b_,b_∈ob sq→b_∈ob sp∨w.heap.size≤b_:=fun b_ hb_=>(hL2 b_ hb_).imp id (fun h_=>xnT M.below.size h_)
     clear hL2
     rw [← hrct] at M2 O2
     clear M OF2 V2; refine xeL ?_
     refine xaL (.int .i64 (rctN L f t)) (negI .i64 _ _ _ _ rfl rfl (by have e_:=rtot_swap L (keep17 ((p.1,rlo f):Int × Int) ((rhi t,q.2):Int × Int)) hij; rw [xw6]; unfold rctN; rw [hrct]; omega) _) ?_
     refine xpL (.int .i64 (rctN L f t)) ?_; refine xT ?_; have HS:=show Hid _ from (And.intro M2 (And.intro O2 (And.intro OF hLs))); clear M2 O2 OF hLs M0 O_ hrct; go_wp2; go_ret
     first | exact ⟨sq,cq,rfl,HS.out⟩ | exact ⟨rfl,sq,cq,HS.out⟩
end Go.Proofs.Ytpdpfdelglgfnaa
