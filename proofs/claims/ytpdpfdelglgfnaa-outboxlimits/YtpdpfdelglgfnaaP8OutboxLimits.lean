/- Texts of Nx, joined. -/
import Derived.Test.YtpdpfdelglgfnaaP7OutboxLimits
set_option maxRecDepth 20000
set_option maxHeartbeats 64000000
namespace Go.Proofs.Ytpdpfdelglgfnaa
open Go.RowKit
def gapT (w:World) (v:Value):Int:=match v with
 | .pointer (some a)=>intOf ((w.cell? (a.add 1)).getD undef)
 | _=>0
theorem gapT_is {w:World} {B:Nat} {t:Int} (h:w.cell? ⟨B,1,none⟩=some (.int .i64 t)):gapT w (.pointer (some ⟨B,0,none⟩))=t:=by
 unfold gapT
 simp only [Addr.add_mid,Nat.zero_add]
 rw [h]
 rfl
def boolOf:Value→Bool
 | .bool b=>b
 | _=>false
theorem vlost18 (w0 w:World) (R:Nat) (l:List (Nat × List Value)) (o:Obx) (s:Int) (sb sg sa:Option Addr) (cb cg ca:Nat) (G A:Rgs17) (hw:ObxW o) (hln:o.b.length<1000000) (hr:ORel o s G A) (p n:Int) (hp:i64 p) (hn:i64 n) (M0:Mm w0 ((R,[.int .i64 ((obase o:Nat):Int),.slice sb (o.b.length-obase o) cb,.int .i64 s,.int .i64 o.lim,.int .i64 ((o.sent:Nat):Int),.slice sg G.length cg,.slice sa A.length ca])::(obs sg++(obs sa++(obs sb++l)))) w) (W_b:Wnd w sb (o.b.length-obase o) cb (fun j=>bl o.b (obase o+j))) (V_g:w.ownsRow 0 49 2 (.slice sg G.length cg) G.length (wrc G)) (V_a:w.ownsRow 0 49 2 (.slice sa A.length ca) A.length (wrc A)) :
 Calls Try.prog 15 #[.pointer (some ⟨R,0,none⟩),.int .i64 p,.int .i64 n] w fun e w'=>∃ sg' cg' G',e=.returned (.tuple #[])∧ORel (olo o p n) s G' A∧Mm w0 ((R,[.int .i64 ((obase o:Nat):Int),.slice sb (o.b.length-obase o) cb,.int .i64 s,.int .i64 o.lim,.int .i64 ((o.sent:Nat):Int),.slice sg' G'.length cg',.slice sa A.length ca])::(obs sg'++(obs sa++(obs sb++l)))) w'∧Wnd w' sb (o.b.length-obase o) cb (fun j=>bl o.b (obase o+j))∧w'.ownsRow 0 49 2 (.slice sg' G'.length cg') G'.length (wrc G')∧w'.ownsRow 0 49 2 (.slice sa A.length ca) A.length (wrc A)∧Off (R::(ob sg++(ob sa++ob sb))) w w':=by
 have M:=M0; clear M0; have hb0:=M.below
 obtain ⟨XS,hXS⟩:∃ X_,X_=(R::(ob sg++(ob sa++ob sb))):=⟨_,rfl⟩
 have hRX:R∈XS:=by rw [hXS]; simp
 have L_g:Lies XS w sg:=fun b_ hb_=>.inl (by rw [hXS]; simp [hb_])
 have L_a:Lies XS w sa:=fun b_ hb_=>.inl (by rw [hXS]; simp [hb_])
 have L_b:Lies XS w sb:=fun b_ hb_=>.inl (by rw [hXS]; simp [hb_])
 have OF:=Off.refl XS w; have hst:=hw.st; have hkb:=obase_le o; have hks:=obase_sent hw; have hlg:=hr.lenG hw hln; have hla:=hr.lenA hw hln
 go_enter Try.func15,Try.ntmps15
 go_upto_region 0 with fail; refine wp_region_list ?_; refine xpL (.int .i64 p) ?_; refine xpL (.int .i64 n) ?_; have key:=vbeh18 p n hp hn w; refine xcL key ?_; clear key; rintro e w1 ⟨rfl,l_⟩; replace M:=M.call l_; replace V_g:=ownsRow_bel V_g l_; replace V_a:=ownsRow_bel V_a l_; replace W_b:=W_b.bel l_; replace OF:=OF.below l_; clear l_; refine xeL ?_
 refine xpL (.int .i64 (beh p n)) ?_; refine xT ?_; go_upto_region 1 with fail; refine wp_region_list ?_; refine xpL (.pointer (some ⟨R,0,none⟩)) ?_; refine xpL (.pointer (some ⟨R,0,none⟩)) ?_; refine xpL (.pointer (some ⟨R,6,none⟩)) ?_; refine xpL (.int .i64 p) ?_; refine xpL (.int .i64 (beh p n)) ?_
 have key:=vgap_any R 6 sa ca A hr.ca hla p (beh p n) _ (M.get mS 6 _ rfl) (NewW.ofOwn V_a); refine xcL key ?_; clear key; rintro e w2 ⟨rfl,l_⟩; replace M:=M.call l_; replace V_g:=ownsRow_bel V_g l_; replace V_a:=ownsRow_bel V_a l_; replace W_b:=W_b.bel l_; replace OF:=OF.below l_; clear l_; refine xeL ?_
 refine xpL (.tuple #[.agg #[.int .i64 (rgF A p (beh p n)),.int .i64 (rgT A p (beh p n))],.bool (rgB A p (beh p n))]) ?_; refine xpL (.agg #[.int .i64 (rgF A p (beh p n)),.int .i64 (rgT A p (beh p n))]) ?_; refine xpL (.bool (rgB A p (beh p n))) ?_; have hlb:=(Below.refl w2.heap.size w2).alloc (xnR _) (.cells #[.int .i64 0,.int .i64 0] 49)
 refine actL (w':=w2.alloc (.cells #[.int .i64 0,.int .i64 0] 49)) (.pointer (some ⟨w2.heap.size,0,none⟩)) rfl (by kernel_rfl) ?_; simp only [aP,lI,l0,lS]; have hB_:=OF.size; replace V_g:=ownsRow_bel V_g hlb; replace V_a:=ownsRow_bel V_a hlb; replace W_b:=W_b.bel hlb; replace OF:=OF.below hlb; replace M:=M.box #[.int .i64 0,.int .i64 0] 49 w2.heap.size rfl; clear hlb
 generalize w2.alloc (.cells #[.int .i64 0,.int .i64 0] 49)=w3 at M V_g V_a W_b OF ⊢; generalize eB_:w2.heap.size=B3 at M ⊢
 have hB_B3:w.heap.size≤B3:=by rw [← eB_]; exact hB_
 clear hB_ eB_
 replace M:Mm w0 ((B3,[.int .i64 0,.int .i64 0])::(R,[.int .i64 ((obase o:Nat):Int),.slice sb (o.b.length-obase o) cb,.int .i64 s,.int .i64 o.lim,.int .i64 ((o.sent:Nat):Int),.slice sg G.length cg,.slice sa A.length ca])::((obs sg)++((obs sa)++((obs sb)++l)))) w3:=M
 refine skipOpL rfl (storeP [.int .i64 (rgF A p (beh p n)),.int .i64 (rgT A p (beh p n))] B3 0 49 _ _ rfl rfl rfl (M.thereP mS 0 2 (Nat.le_of_ble_eq_true rfl)) (by kernel_rfl) (List.all_eq_true.1 (rfl:([.int .i64 (rgF A p (beh p n)),.int .i64 (rgT A p (beh p n))]:List Value).all (fun u=>u.oneCell')=true))) ?_; simp only [Act.put]
 replace M:=M.setPart [.int .i64 (rgF A p (beh p n)),.int .i64 (rgT A p (beh p n))] 0 (Nat.le_of_ble_eq_true rfl); replace V_g:=ownsRow_away V_g ((Off.refl [B3] _).setAll (b:=B3) mS 0 [.int .i64 (rgF A p (beh p n)),.int .i64 (rgT A p (beh p n))]) (fun b_ hb_=>by obtain rfl:=xm1 hb_; exact M.awayB (fun p_ hp_=>by simp [hp_]))
 replace V_a:=ownsRow_away V_a ((Off.refl [B3] _).setAll (b:=B3) mS 0 [.int .i64 (rgF A p (beh p n)),.int .i64 (rgT A p (beh p n))]) (fun b_ hb_=>by obtain rfl:=xm1 hb_; exact M.awayB (fun p_ hp_=>by simp [hp_]))
 replace W_b:=W_b.off ((Off.refl [B3] _).setAll (b:=B3) mS 0 [.int .i64 (rgF A p (beh p n)),.int .i64 (rgT A p (beh p n))]) (fun b_ hb_=>by obtain rfl:=xm1 hb_; exact M.awayB (fun p_ hp_=>by simp [hp_])); replace OF:=OF.and1 ((Off.refl [B3] _).setAll (b:=B3) mS 0 [.int .i64 (rgF A p (beh p n)),.int .i64 (rgT A p (beh p n))]) (.inr hB_B3)
 generalize w3.setCells B3 0 [.int .i64 (rgF A p (beh p n)),.int .i64 (rgT A p (beh p n))]=w4 at M V_g V_a W_b OF L_g L_a L_b ⊢
 replace M:Mm w0 ((B3,[.int .i64 (rgF A p (beh p n)),.int .i64 (rgT A p (beh p n))])::(R,[.int .i64 ((obase o:Nat):Int),.slice sb (o.b.length-obase o) cb,.int .i64 s,.int .i64 o.lim,.int .i64 ((o.sent:Nat):Int),.slice sg G.length cg,.slice sa A.length ca])::((obs sg)++((obs sa)++((obs sb)++l)))) w4:=M
 refine xpL (.bool (rgB A p (beh p n))) ?_; refine xT ?_
 replace M:Mm w0 ((B3,[.int .i64 (rgF A p (beh p n)),.int .i64 (rgT A p (beh p n))])::(R,[.int .i64 ((obase o:Nat):Int),.slice sb (o.b.length-obase o) cb,.int .i64 s,.int .i64 o.lim,.int .i64 ((o.sent:Nat):Int),.slice sg G.length cg,.slice sa A.length ca])::((obs sg)++((obs sa)++((obs sb)++l)))) w4:=M
 have HI:=show Hid _ from (And.intro hB_B3 (show Mm w0 ((B3,[.int .i64 (rgF A p (beh p n)),.int .i64 (rgT A p (beh p n))])::(R,[.int .i64 ((obase o:Nat):Int),.slice sb (o.b.length-obase o) cb,.int .i64 s,.int .i64 o.lim,.int .i64 ((o.sent:Nat):Int),.slice sg G.length cg,.slice sa A.length ca])::((obs sg)++((obs sa)++((obs sb)++l)))) w4∧Wnd w4 sb (o.b.length-obase o) cb (fun j=>bl o.b (obase o+j))∧w4.ownsRow 0 49 2 (.slice sg G.length cg) G.length (wrc G)∧w4.ownsRow 0 49 2 (.slice sa A.length ca) A.length (wrc A)∧Off XS w w4∧Lies XS w sg from ⟨M,W_b,V_g,V_a,OF,L_g⟩))
 clear M W_b V_g V_a OF L_g hB_B3; have hlo:=show Hid _ from LoI.start (A:=A) hr.cg p (beh p n); go_wp2
 go_loopw [7,8] (fun v b w'=>∃ (B:Nat) (q_:Int) (H:Rgs17) (sg':Option Addr) (cg':Nat),v=.pointer (some ⟨B,0,none⟩)∧b=.bool (rgB A q_ (beh p n))∧Hid (LoI G A p (beh p n) q_ H)∧H.length<1000000∧w.heap.size≤B∧Mm w0 ((B,[.int .i64 (rgF A q_ (beh p n)),.int .i64 (rgT A q_ (beh p n))])::(R,[.int .i64 ((obase o:Nat):Int),.slice sb (o.b.length-obase o) cb,.int .i64 s,.int .i64 o.lim,.int .i64 ((o.sent:Nat):Int),.slice sg' H.length cg',.slice sa A.length ca])::((obs sg')++((obs sa)++((obs sb)++l)))) w'∧Wnd w' sb (o.b.length-obase o) cb (fun j=>bl o.b (obase o+j))∧w'.ownsRow 0 49 2 (.slice sg' H.length cg') H.length (wrc H)∧w'.ownsRow 0 49 2 (.slice sa A.length ca) A.length (wrc A)∧Off XS w w'∧Lies XS w sg') (fun v b w'=>if boolOf b=true then (4611686018427387905-gapT w' v).toNat else 0)
 case atStart=>exact ⟨_,p,G,sg,cg,rfl,rfl,hlo,hlg,HI.out⟩
 case round =>
  clear HI hlo
  obtain ⟨B,q_,H,sg',cg',rfl,rfl,hlo,hlH,hB_B,M,W_b,V_g,V_a,OF,L_g⟩:=hrel
  cases hb:rgB A q_ (beh p n) with
  | true =>
    go_upto_region 2 with fail; refine wp_region_list ?_; refine xpL (.bool true) ?_; refine xT ?_; have hgp:=gap18 hr.ca q_ (beh p n)
    rw [hb] at hgp
    obtain ⟨h0_,_⟩ | ⟨_,hg1,hg2,hg3,_⟩:=hgp
    · cases h0_
    have hms:gapT wr (.pointer (some ⟨B,0,none⟩))=rgT A q_ (beh p n):=gapT_is (M.get mS 1 _ rfl)
    have hhi:rhi (beh p n)≤4611686018427387904:=by unfold rhi; omega
    go_upto_region 4 with fail; have hdr:=(Below.refl wr.heap.size wr).drew; replace M:=M.drew; replace V_g:=ownsRow_bel V_g hdr; replace V_a:=ownsRow_bel V_a hdr; replace W_b:=W_b.bel hdr; replace OF:=OF.below hdr; clear hdr
    refine wp_region_C (S:=fun w'=>Mm w0 [(B,[.int .i64 (rgF A q_ (beh p n)),.int .i64 (rgT A q_ (beh p n))]),(R,[.int .i64 ((obase o:Nat):Int),.slice sb (o.b.length-obase o) cb,.int .i64 s,.int .i64 o.lim,.int .i64 ((o.sent:Nat):Int),.slice sg' H.length cg',.slice sa A.length ca])] w') 7 (by kernel_rfl) (M.sub _ (List.cons_sublist_cons.2 (List.cons_sublist_cons.2 (List.nil_sublist _)))) ?_
    intro _; generalize wr.drew=w5 at M V_g V_a W_b OF ⊢; refine xqC 0 32 rfl (.pointer (some ⟨R,0,none⟩)) (fun _=>(by kernel_rfl)) (M.sub _ (List.cons_sublist_cons.2 (List.cons_sublist_cons.2 (List.nil_sublist _)))) ?_; refine xqC 1 33 rfl (.pointer (some ⟨R,0,none⟩)) (fun _=>(by kernel_rfl)) (M.sub _ (List.cons_sublist_cons.2 (List.cons_sublist_cons.2 (List.nil_sublist _)))) ?_
    refine readC (i:=2) (some 34) rfl (.pointer (some ⟨R,5,none⟩)) rfl rfl (by kernel_rfl) rfl (fun _ hS=>(by kernel_rfl)) (by kernel_rfl) (by kernel_rfl) (by kernel_rfl) (by kernel_rfl) (fun _ _ _ h=>h) (M.sub _ (List.cons_sublist_cons.2 (List.cons_sublist_cons.2 (List.nil_sublist _)))) ?_; simp only [aP,lI,l0,lS]
    refine xqC 3 35 rfl (.pointer (some ⟨B,0,none⟩)) (fun _=>(by kernel_rfl)) (M.sub _ (List.cons_sublist_cons.2 (List.cons_sublist_cons.2 (List.nil_sublist _)))) ?_
    refine readC (i:=4) (some 36) rfl (.int .i64 (rgF A q_ (beh p n))) rfl rfl (by kernel_rfl) rfl (fun _ hS=>load1 3 _ ⟨B,0,none⟩ _ rfl rfl (fun _=>by kernel_rfl) (hS.get mS 0 _ rfl)) (by kernel_rfl) (by kernel_rfl) (by kernel_rfl) (by kernel_rfl) (fun _ _ _ h=>h) (M.sub _ (List.cons_sublist_cons.2 (List.cons_sublist_cons.2 (List.nil_sublist _)))) ?_; simp only [aP,lI,l0,lS]
    refine xqC 5 37 rfl (.pointer (some ⟨B,1,none⟩)) (fun _=>(by kernel_rfl)) (M.sub _ (List.cons_sublist_cons.2 (List.cons_sublist_cons.2 (List.nil_sublist _)))) ?_
    refine readC (i:=6) (some 38) rfl (.int .i64 (rgT A q_ (beh p n))) rfl rfl (by kernel_rfl) rfl (fun _ hS=>load1 3 _ ⟨B,1,none⟩ _ rfl rfl (fun _=>by kernel_rfl) (hS.get mS 1 _ rfl)) (by kernel_rfl) (by kernel_rfl) (by kernel_rfl) (by kernel_rfl) (fun _ _ _ h=>h) (M.sub _ (List.cons_sublist_cons.2 (List.cons_sublist_cons.2 (List.nil_sublist _)))) ?_; simp only [aP,lI,l0,lS]
    replace M:=M.swap
    have Mq:Mm w0 ((R,[.int .i64 ((obase o:Nat):Int),.slice sb (o.b.length-obase o) cb,.int .i64 s,.int .i64 o.lim,.int .i64 ((o.sent:Nat):Int),.slice sg' H.length cg',.slice sa A.length ca])::((obs sg')++(([(B,[.int .i64 (rgF A q_ (beh p n)),.int .i64 (rgT A q_ (beh p n))])]:List (Nat × List Value))++((obs sa)++((obs sb)++l))))) w5:=(M.perm (pull0 ([(R,[.int .i64 ((obase o:Nat):Int),.slice sb (o.b.length-obase o) cb,.int .i64 s,.int .i64 o.lim,.int .i64 ((o.sent:Nat):Int),.slice sg' H.length cg',.slice sa A.length ca]),(B,[.int .i64 (rgF A q_ (beh p n)),.int .i64 (rgT A q_ (beh p n))])]:List (Nat × List Value)) (obs sg') ((obs sa)++((obs sb)++l)))).perm List.perm_middle
    have key:=vcut_any w0 _ R 5 sg' cg' H _ hlo.out.can hlH (rgF A q_ (beh p n)) (rgT A q_ (beh p n)) Mq rfl V_g; refine callC (S2:=fun _=>True) (some 39) rfl (by kernel_rfl) rfl rfl (fun _=>by kernel_rfl) key (by kernel_rfl) ?_; clear key; rintro e w6 ⟨p6,c6,rfl,M2,V2,o2,hLs⟩; replace V_a:=ownsRow_away V_a o2 (Mq.awayRO (fun p_ hp_=>by simp [hp_]))
    replace W_b:=W_b.off o2 (Mq.awayRO (fun p_ hp_=>by simp [hp_])); have hsz_:=OF.size; replace OF:=OF.andR o2 hRX L_g; have L2_:=L_g.rep hLs hsz_; clear M Mq V_g L_g o2 hLs hsz_; have V_g:=V2; have L_g:=L2_; clear V2 L2_
    replace M2:Mm w0 ((R,[.int .i64 ((obase o:Nat):Int),.slice sb (o.b.length-obase o) cb,.int .i64 s,.int .i64 o.lim,.int .i64 ((o.sent:Nat):Int),.slice p6 ((rct H (rgF A q_ (beh p n)) (rgT A q_ (beh p n))).length) c6,.slice sa A.length ca])::((obs p6)++(([(B,[.int .i64 (rgF A q_ (beh p n)),.int .i64 (rgT A q_ (beh p n))])]:List (Nat × List Value))++((obs sa)++((obs sb)++l))))) w6:=M2
    have M:Mm w0 ((R,[.int .i64 ((obase o:Nat):Int),.slice sb (o.b.length-obase o) cb,.int .i64 s,.int .i64 o.lim,.int .i64 ((o.sent:Nat):Int),.slice p6 ((rct H (rgF A q_ (beh p n)) (rgT A q_ (beh p n))).length) c6,.slice sa A.length ca])::(B,[.int .i64 (rgF A q_ (beh p n)),.int .i64 (rgT A q_ (beh p n))])::((obs p6)++((obs sa)++((obs sb)++l)))) w6:=(M2.perm List.perm_middle.symm).perm (pull0 ([(R,[.int .i64 ((obase o:Nat):Int),.slice sb (o.b.length-obase o) cb,.int .i64 s,.int .i64 o.lim,.int .i64 ((o.sent:Nat):Int),.slice p6 ((rct H (rgF A q_ (beh p n)) (rgT A q_ (beh p n))).length) c6,.slice sa A.length ca]),(B,[.int .i64 (rgF A q_ (beh p n)),.int .i64 (rgT A q_ (beh p n))])]:List (Nat × List Value)) (obs p6) ((obs sa)++((obs sb)++l))).symm
    clear M2
    refine ⟨_,rfl,?_⟩
    simp only [aP,lI,l0,lS]
    refine wpAnyH_done (by kernel_rfl) ?_ _
    first | show Exit.then _ _ _ _ _ | show Exit.inBlock _ _ _ _ _
    go_upto_region 5 with fail; refine wp_region_list ?_; refine xaL (.agg #[.int .i64 (rgF A q_ (beh p n)),.int .i64 (rgT A q_ (beh p n))]) (loadN 49 _ ⟨B,0,none⟩ [.int .i64 (rgF A q_ (beh p n)),.int .i64 (rgT A q_ (beh p n))] rfl rfl (fun _=>by kernel_rfl) (fun _=>by kernel_rfl) (M.rangeAt (mT _ mS))) ?_; refine xT ?_; go_upto_region 6 with fail; refine wp_region_list ?_
    have hlb:=(Below.refl w6.heap.size w6).alloc (xnR _) (.cells #[.int .i64 0,.int .i64 0] 49); refine actL (w':=w6.alloc (.cells #[.int .i64 0,.int .i64 0] 49)) (.pointer (some ⟨w6.heap.size,0,none⟩)) rfl (by kernel_rfl) ?_; simp only [aP,lI,l0,lS]; have hB_:=OF.size; replace V_g:=ownsRow_bel V_g hlb; replace V_a:=ownsRow_bel V_a hlb; replace W_b:=W_b.bel hlb
    replace OF:=OF.below hlb; replace M:=M.box #[.int .i64 0,.int .i64 0] 49 w6.heap.size rfl; clear hlb; generalize w6.alloc (.cells #[.int .i64 0,.int .i64 0] 49)=w7 at M V_g V_a W_b OF ⊢; generalize eB_:w6.heap.size=B7 at M ⊢
    have hB_B7:w.heap.size≤B7:=by rw [← eB_]; exact hB_
    clear hB_ eB_
    replace M:Mm w0 ((B7,[.int .i64 0,.int .i64 0])::(R,[.int .i64 ((obase o:Nat):Int),.slice sb (o.b.length-obase o) cb,.int .i64 s,.int .i64 o.lim,.int .i64 ((o.sent:Nat):Int),.slice p6 ((rct H (rgF A q_ (beh p n)) (rgT A q_ (beh p n))).length) c6,.slice sa A.length ca])::(B,[.int .i64 (rgF A q_ (beh p n)),.int .i64 (rgT A q_ (beh p n))])::((obs p6)++((obs sa)++((obs sb)++l)))) w7:=M
    refine skipOpL rfl (storeP [.int .i64 (rgF A q_ (beh p n)),.int .i64 (rgT A q_ (beh p n))] B7 0 49 _ _ rfl rfl rfl (M.thereP mS 0 2 (Nat.le_of_ble_eq_true rfl)) (by kernel_rfl) (List.all_eq_true.1 (rfl:([.int .i64 (rgF A q_ (beh p n)),.int .i64 (rgT A q_ (beh p n))]:List Value).all (fun u=>u.oneCell')=true))) ?_; simp only [Act.put]
    replace M:=M.setPart [.int .i64 (rgF A q_ (beh p n)),.int .i64 (rgT A q_ (beh p n))] 0 (Nat.le_of_ble_eq_true rfl); replace V_g:=ownsRow_away V_g ((Off.refl [B7] _).setAll (b:=B7) mS 0 [.int .i64 (rgF A q_ (beh p n)),.int .i64 (rgT A q_ (beh p n))]) (fun b_ hb_=>by obtain rfl:=xm1 hb_; exact M.awayB (fun p_ hp_=>by simp [hp_]))
    replace V_a:=ownsRow_away V_a ((Off.refl [B7] _).setAll (b:=B7) mS 0 [.int .i64 (rgF A q_ (beh p n)),.int .i64 (rgT A q_ (beh p n))]) (fun b_ hb_=>by obtain rfl:=xm1 hb_; exact M.awayB (fun p_ hp_=>by simp [hp_]))
    replace W_b:=W_b.off ((Off.refl [B7] _).setAll (b:=B7) mS 0 [.int .i64 (rgF A q_ (beh p n)),.int .i64 (rgT A q_ (beh p n))]) (fun b_ hb_=>by obtain rfl:=xm1 hb_; exact M.awayB (fun p_ hp_=>by simp [hp_])); replace OF:=OF.and1 ((Off.refl [B7] _).setAll (b:=B7) mS 0 [.int .i64 (rgF A q_ (beh p n)),.int .i64 (rgT A q_ (beh p n))]) (.inr hB_B7)
    generalize w7.setCells B7 0 [.int .i64 (rgF A q_ (beh p n)),.int .i64 (rgT A q_ (beh p n))]=w8 at M V_g V_a W_b OF L_g L_a L_b ⊢
    replace M:Mm w0 ((B7,[.int .i64 (rgF A q_ (beh p n)),.int .i64 (rgT A q_ (beh p n))])::(R,[.int .i64 ((obase o:Nat):Int),.slice sb (o.b.length-obase o) cb,.int .i64 s,.int .i64 o.lim,.int .i64 ((o.sent:Nat):Int),.slice p6 ((rct H (rgF A q_ (beh p n)) (rgT A q_ (beh p n))).length) c6,.slice sa A.length ca])::(B,[.int .i64 (rgF A q_ (beh p n)),.int .i64 (rgT A q_ (beh p n))])::((obs p6)++((obs sa)++((obs sb)++l)))) w8:=M
    refine xT ?_; go_upto_region 3 with fail; have hdr:=(Below.refl w8.heap.size w8).drew; replace M:=M.drew; replace V_g:=ownsRow_bel V_g hdr; replace V_a:=ownsRow_bel V_a hdr; replace W_b:=W_b.bel hdr; replace OF:=OF.below hdr; clear hdr
    refine wp_region_C (S:=fun w'=>Mm w0 [(B7,[.int .i64 (rgF A q_ (beh p n)),.int .i64 (rgT A q_ (beh p n))]),(R,[.int .i64 ((obase o:Nat):Int),.slice sb (o.b.length-obase o) cb,.int .i64 s,.int .i64 o.lim,.int .i64 ((o.sent:Nat):Int),.slice p6 ((rct H (rgF A q_ (beh p n)) (rgT A q_ (beh p n))).length) c6,.slice sa A.length ca]),(B,[.int .i64 (rgF A q_ (beh p n)),.int .i64 (rgT A q_ (beh p n))])] w') 10 (by kernel_rfl) (M.sub _ (List.cons_sublist_cons.2 (List.cons_sublist_cons.2 (List.cons_sublist_cons.2 (List.nil_sublist _))))) ?_
    intro _; generalize w8.drew=w9 at M V_g V_a W_b OF ⊢; refine readC (i:=0) (some 23) rfl (.pointer (some ⟨R,0,none⟩)) rfl rfl (by kernel_rfl) rfl (fun _ hS=>(by kernel_rfl)) (by kernel_rfl) (by kernel_rfl) (by kernel_rfl) (by kernel_rfl) (fun _ _ _ h=>h) (M.sub _ (List.cons_sublist_cons.2 (List.cons_sublist_cons.2 (List.cons_sublist_cons.2 (List.nil_sublist _))))) ?_
    simp only [aP,lI,l0,lS]; refine readC (i:=1) (some 24) rfl (.pointer (some ⟨R,0,none⟩)) rfl rfl (by kernel_rfl) rfl (fun _ hS=>(by kernel_rfl)) (by kernel_rfl) (by kernel_rfl) (by kernel_rfl) (by kernel_rfl) (fun _ _ _ h=>h) (M.sub _ (List.cons_sublist_cons.2 (List.cons_sublist_cons.2 (List.cons_sublist_cons.2 (List.nil_sublist _))))) ?_; simp only [aP,lI,l0,lS]
    refine readC (i:=2) (some 25) rfl (.pointer (some ⟨R,6,none⟩)) rfl rfl (by kernel_rfl) rfl (fun _ hS=>(by kernel_rfl)) (by kernel_rfl) (by kernel_rfl) (by kernel_rfl) (by kernel_rfl) (fun _ _ _ h=>h) (M.sub _ (List.cons_sublist_cons.2 (List.cons_sublist_cons.2 (List.cons_sublist_cons.2 (List.nil_sublist _))))) ?_; simp only [aP,lI,l0,lS]
    refine readC (i:=3) (some 26) rfl (.pointer (some ⟨B7,1,none⟩)) rfl rfl (by kernel_rfl) rfl (fun _ hS=>(by kernel_rfl)) (by kernel_rfl) (by kernel_rfl) (by kernel_rfl) (by kernel_rfl) (fun _ _ _ h=>h) (M.sub _ (List.cons_sublist_cons.2 (List.cons_sublist_cons.2 (List.cons_sublist_cons.2 (List.nil_sublist _))))) ?_; simp only [aP,lI,l0,lS]
    refine readC (i:=4) (some 27) rfl (.int .i64 (rgT A q_ (beh p n))) rfl rfl (by kernel_rfl) rfl (fun _ hS=>load1 3 _ ⟨B7,1,none⟩ _ rfl rfl (fun _=>by kernel_rfl) (hS.get mS 1 _ rfl)) (by kernel_rfl) (by kernel_rfl) (by kernel_rfl) (by kernel_rfl) (fun _ _ _ h=>h) (M.sub _ (List.cons_sublist_cons.2 (List.cons_sublist_cons.2 (List.cons_sublist_cons.2 (List.nil_sublist _))))) ?_
    simp only [aP,lI,l0,lS]; refine readC (i:=5) (some 28) rfl (.int .i64 (beh p n)) rfl rfl (by kernel_rfl) rfl (fun _ hS=>(by kernel_rfl)) (by kernel_rfl) (by kernel_rfl) (by kernel_rfl) (by kernel_rfl) (fun _ _ _ h=>h) (M.sub _ (List.cons_sublist_cons.2 (List.cons_sublist_cons.2 (List.cons_sublist_cons.2 (List.nil_sublist _))))) ?_; simp only [aP,lI,l0,lS]
    have key:=vgap_any R 6 sa ca A hr.ca hla (rgT A q_ (beh p n)) (beh p n) _ (M.get (mT _ mS) 6 _ rfl) (NewW.ofOwn V_a); refine callMC (i:=6) (some 29) rfl (by kernel_rfl) rfl rfl (fun _=>by kernel_rfl) key ?_; clear key; rintro e w10 ⟨rfl,l_⟩; replace M:=M.call l_; replace V_g:=ownsRow_bel V_g l_; replace V_a:=ownsRow_bel V_a l_; replace W_b:=W_b.bel l_; replace OF:=OF.below l_
    clear l_
    refine ⟨_,rfl,(M.sub _ (List.cons_sublist_cons.2 (List.cons_sublist_cons.2 (List.cons_sublist_cons.2 (List.nil_sublist _))))),?_⟩
    simp only [aP,lI,l0,lS]
    refine readC (i:=7) (some 22) rfl (.tuple #[.agg #[.int .i64 (rgF A (rgT A q_ (beh p n)) (beh p n)),.int .i64 (rgT A (rgT A q_ (beh p n)) (beh p n))],.bool (rgB A (rgT A q_ (beh p n)) (beh p n))]) rfl rfl (by kernel_rfl) rfl (fun _ hS=>(by kernel_rfl)) (by kernel_rfl) (by kernel_rfl) (by kernel_rfl) (by kernel_rfl) (fun _ _ _ h=>h) (M.sub _ (List.cons_sublist_cons.2 (List.cons_sublist_cons.2 (List.cons_sublist_cons.2 (List.nil_sublist _))))) ?_
    simp only [aP,lI,l0,lS]
    refine readC (i:=8) (some 30) rfl (.agg #[.int .i64 (rgF A (rgT A q_ (beh p n)) (beh p n)),.int .i64 (rgT A (rgT A q_ (beh p n)) (beh p n))]) rfl rfl (by kernel_rfl) rfl (fun _ hS=>(by kernel_rfl)) (by kernel_rfl) (by kernel_rfl) (by kernel_rfl) (by kernel_rfl) (fun _ _ _ h=>h) (M.sub _ (List.cons_sublist_cons.2 (List.cons_sublist_cons.2 (List.cons_sublist_cons.2 (List.nil_sublist _))))) ?_
    simp only [aP,lI,l0,lS]; refine xqC 9 31 rfl (.bool (rgB A (rgT A q_ (beh p n)) (beh p n))) (fun _=>(by kernel_rfl)) (M.sub _ (List.cons_sublist_cons.2 (List.cons_sublist_cons.2 (List.cons_sublist_cons.2 (List.nil_sublist _))))) ?_
    refine skipC (S2:=fun _=>True) none rfl (by kernel_rfl) rfl rfl (storeP [.int .i64 (rgF A (rgT A q_ (beh p n)) (beh p n)),.int .i64 (rgT A (rgT A q_ (beh p n)) (beh p n))] B7 0 49 _ _ rfl rfl rfl (M.thereP mS 0 2 (Nat.le_of_ble_eq_true rfl)) (by kernel_rfl) (List.all_eq_true.1 (rfl:([.int .i64 (rgF A (rgT A q_ (beh p n)) (beh p n)),.int .i64 (rgT A (rgT A q_ (beh p n)) (beh p n))]:List Value).all (fun u=>u.oneCell')=true))) (by kernel_rfl) ?_
    simp only [Act.put]; replace M:=M.setPart [.int .i64 (rgF A (rgT A q_ (beh p n)) (beh p n)),.int .i64 (rgT A (rgT A q_ (beh p n)) (beh p n))] 0 (Nat.le_of_ble_eq_true rfl)
    replace V_g:=ownsRow_away V_g ((Off.refl [B7] _).setAll (b:=B7) mS 0 [.int .i64 (rgF A (rgT A q_ (beh p n)) (beh p n)),.int .i64 (rgT A (rgT A q_ (beh p n)) (beh p n))]) (fun b_ hb_=>by obtain rfl:=xm1 hb_; exact M.awayB (fun p_ hp_=>by simp [hp_]))
    replace V_a:=ownsRow_away V_a ((Off.refl [B7] _).setAll (b:=B7) mS 0 [.int .i64 (rgF A (rgT A q_ (beh p n)) (beh p n)),.int .i64 (rgT A (rgT A q_ (beh p n)) (beh p n))]) (fun b_ hb_=>by obtain rfl:=xm1 hb_; exact M.awayB (fun p_ hp_=>by simp [hp_]))
    replace W_b:=W_b.off ((Off.refl [B7] _).setAll (b:=B7) mS 0 [.int .i64 (rgF A (rgT A q_ (beh p n)) (beh p n)),.int .i64 (rgT A (rgT A q_ (beh p n)) (beh p n))]) (fun b_ hb_=>by obtain rfl:=xm1 hb_; exact M.awayB (fun p_ hp_=>by simp [hp_]))
    replace OF:=OF.and1 ((Off.refl [B7] _).setAll (b:=B7) mS 0 [.int .i64 (rgF A (rgT A q_ (beh p n)) (beh p n)),.int .i64 (rgT A (rgT A q_ (beh p n)) (beh p n))]) (.inr hB_B7); generalize w10.setCells B7 0 [.int .i64 (rgF A (rgT A q_ (beh p n)) (beh p n)),.int .i64 (rgT A (rgT A q_ (beh p n)) (beh p n))]=w11 at M V_g V_a W_b OF ⊢
    replace M:Mm w0 ((B7,[.int .i64 (rgF A (rgT A q_ (beh p n)) (beh p n)),.int .i64 (rgT A (rgT A q_ (beh p n)) (beh p n))])::(R,[.int .i64 ((obase o:Nat):Int),.slice sb (o.b.length-obase o) cb,.int .i64 s,.int .i64 o.lim,.int .i64 ((o.sent:Nat):Int),.slice p6 ((rct H (rgF A q_ (beh p n)) (rgT A q_ (beh p n))).length) c6,.slice sa A.length ca])::(B,[.int .i64 (rgF A q_ (beh p n)),.int .i64 (rgT A q_ (beh p n))])::((obs p6)++((obs sa)++((obs sb)++l)))) w11:=M
    refine xrH 11 8 rfl (.bool (rgB A (rgT A q_ (beh p n)) (beh p n))) (fun _ _=>(by kernel_rfl)) trivial ?_
    refine wpAnyH_done (by kernel_rfl) ?_ _
    first | show Exit.then _ _ _ _ _ | show Exit.inBlock _ _ _ _ _
    replace M:=M.swap; replace M:=M.swap
    replace M:Mm w0 ((B7,[.int .i64 (rgF A (rgT A q_ (beh p n)) (beh p n)),.int .i64 (rgT A (rgT A q_ (beh p n)) (beh p n))])::(R,[.int .i64 ((obase o:Nat):Int),.slice sb (o.b.length-obase o) cb,.int .i64 s,.int .i64 o.lim,.int .i64 ((o.sent:Nat):Int),.slice p6 ((rct H (rgF A q_ (beh p n)) (rgT A q_ (beh p n))).length) c6,.slice sa A.length ca])::((obs p6)++((obs sa)++((obs sb)++l)))) w11:=M.sub _ (List.cons_sublist_cons.2 (List.cons_sublist_cons.2 (List.Sublist.cons _ ((List.Sublist.refl _).append ((List.Sublist.refl _).append ((List.Sublist.refl _).append (List.Sublist.refl _)))))))
    replace M:Mm w0 ((B7,[.int .i64 (rgF A (rgT A q_ (beh p n)) (beh p n)),.int .i64 (rgT A (rgT A q_ (beh p n)) (beh p n))])::(R,[.int .i64 ((obase o:Nat):Int),.slice sb (o.b.length-obase o) cb,.int .i64 s,.int .i64 o.lim,.int .i64 ((o.sent:Nat):Int),.slice p6 ((rct H (rgF A q_ (beh p n)) (rgT A q_ (beh p n))).length) c6,.slice sa A.length ca])::((obs p6)++((obs sa)++((obs sb)++l)))) w11:=M
    have hlo2:=show Hid _ from LoI.step hr.cg hr.ca hlo.out hb; have hl2:=can_len18 hlo2.out.can (N:=o.sent) fun m_ hm_=>((hr.g m_).1 ((hlo2.out.mem m_).1 hm_).1).2.1; have hg4:=gap18 hr.ca (rgT A q_ (beh p n)) (beh p n)
    have hms2:gapT w11 (.pointer (some ⟨B7,0,none⟩))=rgT A (rgT A q_ (beh p n)) (beh p n):=gapT_is (M.get mS 1 _ rfl)
    have HS:=show Hid _ from (And.intro hB_B7 (show Mm w0 ((B7,[.int .i64 (rgF A (rgT A q_ (beh p n)) (beh p n)),.int .i64 (rgT A (rgT A q_ (beh p n)) (beh p n))])::(R,[.int .i64 ((obase o:Nat):Int),.slice sb (o.b.length-obase o) cb,.int .i64 s,.int .i64 o.lim,.int .i64 ((o.sent:Nat):Int),.slice p6 ((rct H (rgF A q_ (beh p n)) (rgT A q_ (beh p n))).length) c6,.slice sa A.length ca])::((obs p6)++((obs sa)++((obs sb)++l)))) w11∧Wnd w11 sb (o.b.length-obase o) cb (fun j=>bl o.b (obase o+j))∧w11.ownsRow 0 49 2 (.slice p6 (rct H (rgF A q_ (beh p n)) (rgT A q_ (beh p n))).length c6) (rct H (rgF A q_ (beh p n)) (rgT A q_ (beh p n))).length (wrc (rct H (rgF A q_ (beh p n)) (rgT A q_ (beh p n))))∧w11.ownsRow 0 49 2 (.slice sa A.length ca) A.length (wrc A)∧Off XS w w11∧Lies XS w p6 from ⟨M,W_b,V_g,V_a,OF,L_g⟩))
    have hme:=show Hid _ from (show (if boolOf (.bool (rgB A (rgT A q_ (beh p n)) (beh p n)))=true then (4611686018427387905-gapT w11 (.pointer (some ⟨B7,0,none⟩))).toNat else 0)<(4611686018427387905-gapT wr (.pointer (some ⟨B,0,none⟩))).toNat by
     rw [hms,hms2]
     rcases hg4 with ⟨h1_,_⟩ | ⟨h1_,h2_,h3_,h4_,_⟩
     · rw [h1_]
       show (0:Nat)<_
       omega
     · rw [h1_]
       show (4611686018427387905-rgT A (rgT A q_ (beh p n)) (beh p n)).toNat<_
       unfold rlo at h2_
       omega)
    clear M W_b V_g V_a OF L_g hms hms2 hg1 hg2 hg3 hg4 hhi hlo; go_wp2
    go_roundw
    case rel=>exact ⟨_,(rgT A q_ (beh p n)),(rct H (rgF A q_ (beh p n)) (rgT A q_ (beh p n))),_,_,rfl,rfl,hlo2,by omega,HS.out⟩
    case measure=>first | exact hme.out | (have:=hme.out; simpa [boolOf] using this)
  | false =>
    go_upto_region 2 with fail; refine wp_region_list ?_; refine xpL (.bool false) ?_; refine xT ?_; replace M:=M.swap
    replace M:Mm w0 ((R,[.int .i64 ((obase o:Nat):Int),.slice sb (o.b.length-obase o) cb,.int .i64 s,.int .i64 o.lim,.int .i64 ((o.sent:Nat):Int),.slice sg' H.length cg',.slice sa A.length ca])::((obs sg')++((obs sa)++((obs sb)++l)))) wr:=M.sub _ (List.cons_sublist_cons.2 (List.Sublist.cons _ ((List.Sublist.refl _).append ((List.Sublist.refl _).append ((List.Sublist.refl _).append (List.Sublist.refl _))))))
    have hOR:=hr.lost (by omega) hp hn hlo.out hb
    rw [hXS] at OF
    have HS:=show Hid _ from (And.intro hOR (And.intro M (And.intro W_b (And.intro V_g (And.intro V_a OF))))); clear M W_b V_g V_a OF L_g; go_wp2
    exact ⟨rfl,.tuple #[],by kernel_rfl,_,_,_,rfl,HS.out⟩
theorem Off.andN {X Y:List Nat} {w w1 w2:World} (h:Off X w w1) (g:Off Y w1 w2) (hY:∀ b∈Y,b∈X∨w.heap.size≤b):Off X w w2 :=
 ⟨xnT h.size g.size,fun b hb hX=>(g.blk b (xnL hb h.size) (fun hm=>by
  rcases hY b hm with c | c
  · exact hX c
  · omega)).trans (h.blk b hb hX)⟩
theorem Lies.andN {X Y:List Nat} {w w1:World} {sq:Option Addr} (h:Lies Y w1 sq) (hY:∀ b∈Y,b∈X∨w.heap.size≤b) (hs:w.heap.size≤w1.heap.size):Lies X w sq:=fun b hb=>(h b hb).elim (hY b) fun c=>.inr (xnT hs c)
theorem Lies.three {X:List Nat} {w:World} {R:Nat} {sg sa:Option Addr} (hR:R∈X) (hg:Lies X w sg) (ha:Lies X w sa):∀ b∈R::(ob sg++ob sa),b∈X∨w.heap.size≤b:=fun b hb=>by
 rcases xc1 hb with rfl | hb
 · exact .inl hR
 · rcases List.mem_append.1 hb with hb | hb
   · exact hg b hb
   · exact ha b hb
theorem Mm.awayR2 {w0 w:World} {R:Nat} {cs:List Value} {t:List (Nat × List Value)} {so sp sq:Option Addr} (h:Mm w0 ((R,cs)::(obs so++(obs sq++t))) w) (hs:∀ p∈obs sp,p∈t):∀ b∈R::(ob so++ob sq),b∉ob sp:=fun b hb=>by
 rcases xc1 hb with rfl | hb
 · exact h.awayB fun p hp=>List.mem_append_right _ (List.mem_append_right _ (hs p hp))
 · have h1:=h.sub _ (List.sublist_cons_self _ _)
   rcases List.mem_append.1 hb with hb | hb
   · exact h1.awayO (fun p hp=>List.mem_append_right _ (hs p hp)) b hb
   · exact (h1.sub _ (List.sublist_append_right _ _)).awayO hs b hb
theorem vack18 (w0 w:World) (R:Nat) (l:List (Nat × List Value)) (o:Obx) (s:Int) (sb sg sa:Option Addr) (cb cg ca:Nat) (G A:Rgs17) (hw:ObxW o) (hln:o.b.length<1000000) (hr:ORel o s G A) (p:Int) (L:List (Int × Int)) (sl:Option Addr) (cl:Nat) (hL:L.length<1000000) (hNl:∀ b,(b∈(R::(ob sg++(ob sa++ob sb)))∨w.heap.size≤b)→L≠[]→b∉ob sl) (N_l:RgW w L (.slice sl L.length cl)) (M0:Mm w0 ((R,[.int .i64 ((obase o:Nat):Int),.slice sb (o.b.length-obase o) cb,.int .i64 s,.int .i64 o.lim,.int .i64 ((o.sent:Nat):Int),.slice sg G.length cg,.slice sa A.length ca])::(obs sg++(obs sa++(obs sb++l)))) w) (W_b:Wnd w sb (o.b.length-obase o) cb (fun j=>bl o.b (obase o+j))) (V_g:w.ownsRow 0 49 2 (.slice sg G.length cg) G.length (wrc G)) (V_a:w.ownsRow 0 49 2 (.slice sa A.length ca) A.length (wrc A)) :
 Calls Try.prog 17 #[.pointer (some ⟨R,0,none⟩),.int .i64 p,.slice sl L.length cl] w fun e w'=>∃ sb' cb' sg' cg' sa' ca' G' A',e=.returned (.tuple #[])∧ORel (oac o p L) s G' A'∧Mm w0 ((R,[.int .i64 ((obase (oac o p L):Nat):Int),.slice sb' (o.b.length-obase (oac o p L)) cb',.int .i64 s,.int .i64 o.lim,.int .i64 ((o.sent:Nat):Int),.slice sg' G'.length cg',.slice sa' A'.length ca'])::(obs sg'++(obs sa'++(obs sb'++l)))) w'∧Wnd w' sb' (o.b.length-obase (oac o p L)) cb' (fun j=>bl o.b (obase (oac o p L)+j))∧w'.ownsRow 0 49 2 (.slice sg' G'.length cg') G'.length (wrc G')∧w'.ownsRow 0 49 2 (.slice sa' A'.length ca') A'.length (wrc A')∧Off (R::(ob sg++(ob sa++ob sb))) w w':=by
 have M:=M0; clear M0; have hb0:=M.below
 obtain ⟨XS,hXS⟩:∃ X_,X_=(R::(ob sg++(ob sa++ob sb))):=⟨_,rfl⟩
 have hRX:R∈XS:=by rw [hXS]; simp
 have L_g:Lies XS w sg:=fun b_ hb_=>.inl (by rw [hXS]; simp [hb_])
 have L_a:Lies XS w sa:=fun b_ hb_=>.inl (by rw [hXS]; simp [hb_])
 have L_b:Lies XS w sb:=fun b_ hb_=>.inl (by rw [hXS]; simp [hb_])
 have OF:=Off.refl XS w; have hst:=hw.st; have hkb:=obase_le o; have hks:=obase_sent hw; have hlg:=hr.lenG hw hln; have hla:=hr.lenA hw hln
 rw [← hXS] at hNl
 go_enter Try.func17,Try.ntmps17
 go_upto_region 0 with fail; refine wp_region_list ?_; refine xpL (.pointer (some ⟨R,0,none⟩)) ?_; refine xpL (.int .i64 p) ?_
 replace M:Mm w0 ((R,[.int .i64 ((obase o:Nat):Int),.slice sb (o.b.length-obase o) cb,.int .i64 s,.int .i64 o.lim,.int .i64 ((o.sent:Nat):Int),.slice sg G.length cg,.slice sa A.length ca])::((obs sg)++((obs sa)++((obs sb)++l)))) w:=M.sub _ (List.cons_sublist_cons.2 ((List.Sublist.refl _).append ((List.Sublist.refl _).append ((List.Sublist.refl _).append (List.Sublist.refl _)))))
 have hlg_:=hr.lenG hw hln; have hla_:=hr.lenA hw hln; have key:=varrive18 w0 _ R (obs sb++l) (obase o) (o.b.length-obase o) o.sent s o.lim sb sg sa cb cg ca G A 0 p hr.cg hr.ca hlg_ hla_ M V_g V_a; clear hlg_ hla_; refine xcL key ?_; clear key; rintro e w1 ⟨pg1,cg1,pa1,ca1,rfl,M2,Vg2,Va2,o2,Lg2,La2⟩; have hY_:=Lies.three hRX L_g L_a
 replace W_b:=W_b.off o2 (M.awayR2 (fun p_ hp_=>by simp [hp_])); replace N_l:=N_l.offB o2 (fun b_ hb_=>hNl _ (hY_ b_ hb_)); have hsz_:=OF.size; replace OF:=OF.andN o2 hY_; clear M V_g V_a L_g L_a o2; have M:=M2; have V_g:=Vg2; have V_a:=Va2; have L_g:=Lg2.andN hY_ hsz_; have L_a:=La2.andN hY_ hsz_; clear M2 Vg2 Va2 Lg2 La2 hY_ hsz_
 replace M:Mm w0 ((R,[.int .i64 ((obase o:Nat):Int),.slice sb (o.b.length-obase o) cb,.int .i64 s,.int .i64 o.lim,.int .i64 ((o.sent:Nat):Int),.slice pg1 ((rad G 0 (min p ((o.sent:Nat):Int))).length) cg1,.slice pa1 ((rad A 0 (min p ((o.sent:Nat):Int))).length) ca1])::((obs pg1)++((obs pa1)++((obs sb)++l)))) w1:=M
 refine xeL ?_; refine xT ?_; go_upto_region 1 with fail; refine wp_region_list ?_; refine xpL (.slice sl L.length cl) ?_; refine xaL (.int .i64 ((L.length:Nat):Int)) (lenS _ 29 49 sl L.length cl rfl Try.underlying29 rfl _) ?_; refine xpL (.int .i64 0) ?_; refine xT ?_
 have hr1:=show Hid _ from (show ORel (oac o p (L.take 0)) s (rad G 0 (min p ((o.sent:Nat):Int))) (rad A 0 (min p ((o.sent:Nat):Int))) by
  have h_:=hr.arr (by omega) 0 p
  rw [arr_first] at h_
  exact h_)
 have HI:=show Hid _ from (show Mm w0 ((R,[.int .i64 ((obase o:Nat):Int),.slice sb (o.b.length-obase o) cb,.int .i64 s,.int .i64 o.lim,.int .i64 ((o.sent:Nat):Int),.slice pg1 ((rad G 0 (min p ((o.sent:Nat):Int))).length) cg1,.slice pa1 ((rad A 0 (min p ((o.sent:Nat):Int))).length) ca1])::((obs pg1)++((obs pa1)++((obs sb)++l)))) w1∧Wnd w1 sb (o.b.length-obase o) cb (fun j=>bl o.b (obase o+j))∧w1.ownsRow 0 49 2 (.slice pg1 (rad G 0 (min p ((o.sent:Nat):Int))).length cg1) (rad G 0 (min p ((o.sent:Nat):Int))).length (wrc (rad G 0 (min p ((o.sent:Nat):Int))))∧w1.ownsRow 0 49 2 (.slice pa1 (rad A 0 (min p ((o.sent:Nat):Int))).length ca1) (rad A 0 (min p ((o.sent:Nat):Int))).length (wrc (rad A 0 (min p ((o.sent:Nat):Int))))∧Off XS w w1∧Lies XS w pg1∧Lies XS w pa1∧RgW w1 L (.slice sl L.length cl) from ⟨M,W_b,V_g,V_a,OF,L_g,L_a,N_l⟩)
 clear M W_b V_g V_a OF L_g L_a N_l; go_wp2
 go_loopw [13] (fun i w'=>∃ (i':Nat) (G' A':Rgs17) (sg' sa':Option Addr) (cg' ca':Nat),i'≤L.length∧i=.int .i64 (i':Int)∧Hid (ORel (oac o p (L.take i')) s G' A')∧Mm w0 ((R,[.int .i64 ((obase o:Nat):Int),.slice sb (o.b.length-obase o) cb,.int .i64 s,.int .i64 o.lim,.int .i64 ((o.sent:Nat):Int),.slice sg' G'.length cg',.slice sa' A'.length ca'])::((obs sg')++((obs sa')++((obs sb)++l)))) w'∧Wnd w' sb (o.b.length-obase o) cb (fun j=>bl o.b (obase o+j))∧w'.ownsRow 0 49 2 (.slice sg' G'.length cg') G'.length (wrc G')∧w'.ownsRow 0 49 2 (.slice sa' A'.length ca') A'.length (wrc A')∧Off XS w w'∧Lies XS w sg'∧Lies XS w sa'∧RgW w' L (.slice sl L.length cl)) (fun i _=>L.length-(intOf i).toNat)
 case atStart=>exact ⟨0,_,_,_,_,_,_,Nat.zero_le _,rfl,hr1,HI.out⟩
 case round =>
  clear HI hr1
  obtain ⟨i,G',A',sg',sa',cg',ca',hi,rfl,hr1,M,W_b,V_g,V_a,OF,L_g,L_a,N_l⟩:=hrel
  have hw1:=oac_w hw p (L.take i)
  by_cases hil:i<L.length
  · go_upto_region 2 with fail
    refine wp_region_list ?_; refine xaL (.bool true) (lssI .i64 _ _ _ _ _ _ rfl rfl rfl true (decide_eq_true (by omega)) _) ?_; refine xT ?_
    obtain ⟨x,hx⟩:∃ x,L[i]?=some x:=⟨_,List.getElem?_eq_getElem hil⟩
    obtain ⟨adr,hadr,_,_⟩:=RgW.at N_l hx
    subst hadr; go_upto_region 3 with fail; refine wp_region_list ?_; refine readL (.pointer (some (adr.add (i*2)))) rfl (idxR2 adr _ _ i hil _ _ rfl rfl rfl _) ?_; simp only [aP,lI,l0,lS]; refine xaL (.agg #[.int .i64 x.1,.int .i64 x.2]) (loadN 49 _ (adr.add (i*2)) [.int .i64 x.1,.int .i64 x.2] rfl rfl (fun _=>by kernel_rfl) (fun _=>by kernel_rfl) (RgW.rng N_l hx)) ?_
    have hlb:=(Below.refl wr.heap.size wr).alloc (xnR _) (.cells #[.int .i64 0,.int .i64 0] 49); refine actL (w':=wr.alloc (.cells #[.int .i64 0,.int .i64 0] 49)) (.pointer (some ⟨wr.heap.size,0,none⟩)) rfl (by kernel_rfl) ?_; simp only [aP,lI,l0,lS]; have hB_:=OF.size; replace V_g:=ownsRow_bel V_g hlb; replace V_a:=ownsRow_bel V_a hlb; replace W_b:=W_b.bel hlb
    replace N_l:=N_l.below hlb; replace OF:=OF.below hlb; replace M:=M.box #[.int .i64 0,.int .i64 0] 49 wr.heap.size rfl; clear hlb; generalize wr.alloc (.cells #[.int .i64 0,.int .i64 0] 49)=w2 at M V_g V_a W_b N_l OF ⊢; generalize eB_:wr.heap.size=B2 at M ⊢
    have hB_B2:w.heap.size≤B2:=by rw [← eB_]; exact hB_
    clear hB_ eB_
    replace M:Mm w0 ((B2,[.int .i64 0,.int .i64 0])::(R,[.int .i64 ((obase o:Nat):Int),.slice sb (o.b.length-obase o) cb,.int .i64 s,.int .i64 o.lim,.int .i64 ((o.sent:Nat):Int),.slice sg' G'.length cg',.slice sa' A'.length ca'])::((obs sg')++((obs sa')++((obs sb)++l)))) w2:=M
    refine skipOpL rfl (storeP [.int .i64 x.1,.int .i64 x.2] B2 0 49 _ _ rfl rfl rfl (M.thereP mS 0 2 (Nat.le_of_ble_eq_true rfl)) (by kernel_rfl) (List.all_eq_true.1 (rfl:([.int .i64 x.1,.int .i64 x.2]:List Value).all (fun u=>u.oneCell')=true))) ?_; simp only [Act.put]; replace M:=M.setPart [.int .i64 x.1,.int .i64 x.2] 0 (Nat.le_of_ble_eq_true rfl)
    replace V_g:=ownsRow_away V_g ((Off.refl [B2] _).setAll (b:=B2) mS 0 [.int .i64 x.1,.int .i64 x.2]) (fun b_ hb_=>by obtain rfl:=xm1 hb_; exact M.awayB (fun p_ hp_=>by simp [hp_])); replace V_a:=ownsRow_away V_a ((Off.refl [B2] _).setAll (b:=B2) mS 0 [.int .i64 x.1,.int .i64 x.2]) (fun b_ hb_=>by obtain rfl:=xm1 hb_; exact M.awayB (fun p_ hp_=>by simp [hp_]))
    replace W_b:=W_b.off ((Off.refl [B2] _).setAll (b:=B2) mS 0 [.int .i64 x.1,.int .i64 x.2]) (fun b_ hb_=>by obtain rfl:=xm1 hb_; exact M.awayB (fun p_ hp_=>by simp [hp_])); replace N_l:=N_l.offB ((Off.refl [B2] _).setAll (b:=B2) mS 0 [.int .i64 x.1,.int .i64 x.2]) (fun b_ hb_=>by obtain rfl:=xm1 hb_; exact hNl _ (.inr hB_B2))
    replace OF:=OF.and1 ((Off.refl [B2] _).setAll (b:=B2) mS 0 [.int .i64 x.1,.int .i64 x.2]) (.inr hB_B2); generalize w2.setCells B2 0 [.int .i64 x.1,.int .i64 x.2]=w3 at M V_g V_a W_b N_l OF L_g L_a L_b ⊢
    replace M:Mm w0 ((B2,[.int .i64 x.1,.int .i64 x.2])::(R,[.int .i64 ((obase o:Nat):Int),.slice sb (o.b.length-obase o) cb,.int .i64 s,.int .i64 o.lim,.int .i64 ((o.sent:Nat):Int),.slice sg' G'.length cg',.slice sa' A'.length ca'])::((obs sg')++((obs sa')++((obs sb)++l)))) w3:=M
    refine xT ?_; go_upto_region 4 with fail; refine wp_region_list ?_; refine xpL (.pointer (some ⟨R,0,none⟩)) ?_; refine xpL (.pointer (some ⟨B2,0,none⟩)) ?_; refine xaL (.int .i64 x.1) (load1 3 _ ⟨B2,0,none⟩ _ rfl rfl (fun _=>by kernel_rfl) (M.get mS 0 _ rfl)) ?_; refine xpL (.pointer (some ⟨B2,1,none⟩)) ?_
    refine xaL (.int .i64 x.2) (load1 3 _ ⟨B2,1,none⟩ _ rfl rfl (fun _=>by kernel_rfl) (M.get mS 1 _ rfl)) ?_; replace M:=M.swap
    replace M:Mm w0 ((R,[.int .i64 ((obase o:Nat):Int),.slice sb (o.b.length-obase o) cb,.int .i64 s,.int .i64 o.lim,.int .i64 ((o.sent:Nat):Int),.slice sg' G'.length cg',.slice sa' A'.length ca'])::((obs sg')++((obs sa')++((obs sb)++l)))) w3:=M.sub _ (List.cons_sublist_cons.2 (List.Sublist.cons _ ((List.Sublist.refl _).append ((List.Sublist.refl _).append ((List.Sublist.refl _).append (List.Sublist.refl _))))))
    have hlg_:=hr1.out.lenG hw1 hln; have hla_:=hr1.out.lenA hw1 hln; have key:=varrive18 w0 _ R (obs sb++l) (obase o) (o.b.length-obase o) o.sent s o.lim sb sg' sa' cb cg' ca' G' A' x.1 x.2 hr1.out.cg hr1.out.ca hlg_ hla_ M V_g V_a; clear hlg_ hla_; refine xcL key ?_; clear key; rintro e w4 ⟨pg4,cg4,pa4,ca4,rfl,M2,Vg2,Va2,o2,Lg2,La2⟩; have hY_:=Lies.three hRX L_g L_a
    replace W_b:=W_b.off o2 (M.awayR2 (fun p_ hp_=>by simp [hp_])); replace N_l:=N_l.offB o2 (fun b_ hb_=>hNl _ (hY_ b_ hb_)); have hsz_:=OF.size; replace OF:=OF.andN o2 hY_; clear M V_g V_a L_g L_a o2; have M:=M2; have V_g:=Vg2; have V_a:=Va2; have L_g:=Lg2.andN hY_ hsz_; have L_a:=La2.andN hY_ hsz_; clear M2 Vg2 Va2 Lg2 La2 hY_ hsz_
    replace M:Mm w0 ((R,[.int .i64 ((obase o:Nat):Int),.slice sb (o.b.length-obase o) cb,.int .i64 s,.int .i64 o.lim,.int .i64 ((o.sent:Nat):Int),.slice pg4 ((rad G' x.1 (min x.2 ((o.sent:Nat):Int))).length) cg4,.slice pa4 ((rad A' x.1 (min x.2 ((o.sent:Nat):Int))).length) ca4])::((obs pg4)++((obs pa4)++((obs sb)++l)))) w4:=M
    refine xeL ?_; refine xT ?_
    have hr2:=show Hid _ from (show ORel (oac o p (L.take (i+1))) s (rad G' x.1 (min x.2 ((o.sent:Nat):Int))) (rad A' x.1 (min x.2 ((o.sent:Nat):Int))) by
     have h_:=hr1.out.arr (show o.sent<1000000 by omega) x.1 x.2
     rw [arr_more] at h_
     rw [take_get hx]
     exact h_)
    have HS:=show Hid _ from (show Mm w0 ((R,[.int .i64 ((obase o:Nat):Int),.slice sb (o.b.length-obase o) cb,.int .i64 s,.int .i64 o.lim,.int .i64 ((o.sent:Nat):Int),.slice pg4 ((rad G' x.1 (min x.2 ((o.sent:Nat):Int))).length) cg4,.slice pa4 ((rad A' x.1 (min x.2 ((o.sent:Nat):Int))).length) ca4])::((obs pg4)++((obs pa4)++((obs sb)++l)))) w4∧Wnd w4 sb (o.b.length-obase o) cb (fun j=>bl o.b (obase o+j))∧w4.ownsRow 0 49 2 (.slice pg4 (rad G' x.1 (min x.2 ((o.sent:Nat):Int))).length cg4) (rad G' x.1 (min x.2 ((o.sent:Nat):Int))).length (wrc (rad G' x.1 (min x.2 ((o.sent:Nat):Int))))∧w4.ownsRow 0 49 2 (.slice pa4 (rad A' x.1 (min x.2 ((o.sent:Nat):Int))).length ca4) (rad A' x.1 (min x.2 ((o.sent:Nat):Int))).length (wrc (rad A' x.1 (min x.2 ((o.sent:Nat):Int))))∧Off XS w w4∧Lies XS w pg4∧Lies XS w pa4∧RgW w4 L (.slice (some adr) L.length cl) from ⟨M,W_b,V_g,V_a,OF,L_g,L_a,N_l⟩)
    clear M W_b V_g V_a OF L_g L_a N_l hr1 hw1; go_wp2
    go_roundw
    case rel=>exact ⟨i+1,_,_,_,_,_,_,by omega,by go_num,hr2,HS.out⟩
    case measure=>simp [intOf]; omega
  · obtain rfl:i=L.length:=by omega
    rw [List.take_length] at hr1 hw1
    have hkb2:=obase_oac o p L
    have hkl2:obase (oac o p L)≤o.b.length:=obase_le (oac o p L)
    go_upto_region 2 with fail; refine wp_region_list ?_; refine xaL (.bool false) (lssI .i64 _ _ _ _ _ _ rfl rfl rfl false (decide_eq_false (by omega)) _) ?_; refine xT ?_; go_upto_region 6 with fail; have hdr:=(Below.refl wr.heap.size wr).drew; replace M:=M.drew; replace V_g:=ownsRow_bel V_g hdr; replace V_a:=ownsRow_bel V_a hdr; replace W_b:=W_b.bel hdr; replace N_l:=N_l.below hdr
    replace OF:=OF.below hdr; clear hdr; refine wp_region_C (S:=fun w'=>Mm w0 [(R,[.int .i64 ((obase o:Nat):Int),.slice sb (o.b.length-obase o) cb,.int .i64 s,.int .i64 o.lim,.int .i64 ((o.sent:Nat):Int),.slice sg' G'.length cg',.slice sa' A'.length ca'])] w') 7 (by kernel_rfl) (M.sub _ (List.cons_sublist_cons.2 (List.nil_sublist _))) ?_; intro _
    generalize wr.drew=w5 at M V_g V_a W_b N_l OF ⊢; refine xqC 0 24 rfl (.pointer (some ⟨R,0,none⟩)) (fun _=>(by kernel_rfl)) (M.sub _ (List.cons_sublist_cons.2 (List.nil_sublist _))) ?_; refine xqC 1 25 rfl (.pointer (some ⟨R,0,none⟩)) (fun _=>(by kernel_rfl)) (M.sub _ (List.cons_sublist_cons.2 (List.nil_sublist _))) ?_
    refine readC (i:=2) (some 26) rfl (.pointer (some ⟨R,0,none⟩)) rfl rfl (by kernel_rfl) rfl (fun _ hS=>(by kernel_rfl)) (by kernel_rfl) (by kernel_rfl) (by kernel_rfl) (by kernel_rfl) (fun _ _ _ h=>h) (M.sub _ (List.cons_sublist_cons.2 (List.nil_sublist _))) ?_; simp only [aP,lI,l0,lS]
    refine xqC 3 27 rfl (.pointer (some ⟨R,0,none⟩)) (fun _=>(by kernel_rfl)) (M.sub _ (List.cons_sublist_cons.2 (List.nil_sublist _))) ?_; refine xqC 4 28 rfl (.pointer (some ⟨R,0,none⟩)) (fun _=>(by kernel_rfl)) (M.sub _ (List.cons_sublist_cons.2 (List.nil_sublist _))) ?_
    refine xqC 5 29 rfl (.pointer (some ⟨R,6,none⟩)) (fun _=>(by kernel_rfl)) (M.sub _ (List.cons_sublist_cons.2 (List.nil_sublist _))) ?_; have key:=vnext_any R 6 sa' ca' A' hr1.out.ca (hr1.out.lenA hw1 hln) 0 _ (M.get mS 6 _ rfl) (NewW.ofOwn V_a)
    rw [hr1.out.base hw1] at key
    refine callMC (i:=6) (some 30) rfl (by kernel_rfl) rfl rfl (fun _=>by kernel_rfl) key ?_; clear key; rintro e w6 ⟨rfl,l_⟩; replace M:=M.call l_; replace V_g:=ownsRow_bel V_g l_; replace V_a:=ownsRow_bel V_a l_; replace W_b:=W_b.bel l_; replace N_l:=N_l.below l_; replace OF:=OF.below l_; clear l_
    refine ⟨_,rfl,(M.sub _ (List.cons_sublist_cons.2 (List.nil_sublist _))),?_⟩
    simp only [aP,lI,l0,lS]; have key:=vdrop18 w0 _ R _ (obase o) (o.b.length-obase o) o.sent s o.lim sb sg' sa' cb cg' ca' G' A' (obase (oac o p L)) hkb2 (by omega) (by omega) M; refine callC (S2:=fun _=>True) (some 31) rfl (by kernel_rfl) rfl rfl (fun _=>by kernel_rfl) key (by kernel_rfl) ?_; clear key; rintro e w7 ⟨rfl,M2,o2⟩
    replace V_g:=ownsRow_away V_g o2 (fun b_ hb_=>by obtain rfl:=xm1 hb_; exact M.awayB (fun p_ hp_=>by simp [hp_])); replace V_a:=ownsRow_away V_a o2 (fun b_ hb_=>by obtain rfl:=xm1 hb_; exact M.awayB (fun p_ hp_=>by simp [hp_]))
    replace W_b:=(W_b.off o2 (fun b_ hb_=>by obtain rfl:=xm1 hb_; exact M.awayB (fun p_ hp_=>by simp [hp_]))).cut (m:=(obase (oac o p L)-obase o)) (by omega); replace OF:=OF.and1 o2 (.inl hRX); clear M o2 N_l L_g L_a; have M:=M2; clear M2
    rw [← slc_obs sb cb (obase (oac o p L)-obase o)] at M
    rw [show (o.b.length-obase o)-(obase (oac o p L)-obase o)=(o.b.length-obase (oac o p L)) by omega] at M W_b
    replace W_b:=W_b.congr (z:=(fun j=>bl o.b (obase (oac o p L)+j))) (fun j_ hj_=>by show bl o.b (obase o+((obase (oac o p L)-obase o)+j_))=bl o.b (obase (oac o p L)+j_); rw [show obase o+((obase (oac o p L)-obase o)+j_)=obase (oac o p L)+j_ by omega])
    refine ⟨_,rfl,?_⟩
    simp only [aP,lI,l0,lS]
    refine wpAnyH_done (by kernel_rfl) ?_ _
    rw [hXS] at OF
    exact ⟨rfl,.tuple #[],by kernel_rfl,_,_,_,_,_,_,_,_,rfl,hr1.out,M,W_b,V_g,V_a,OF⟩
end Go.Proofs.Ytpdpfdelglgfnaa
