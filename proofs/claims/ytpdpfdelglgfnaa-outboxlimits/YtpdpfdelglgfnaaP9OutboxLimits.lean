/- Texts of Ny Nn Opn Open18, joined. -/
import Derived.Test.YtpdpfdelglgfnaaP8OutboxLimits
import Derived.ProofKit
import Derived.LaidMore
import Derived.OpenShut
import Derived.Deep.Strs
import Derived.Stop.Joined
import Derived.Test.YtpdpfdelglgfnaaRows
set_option maxRecDepth 20000
set_option maxHeartbeats 64000000
namespace Go.Proofs.Ytpdpfdelglgfnaa
open Go.RowKit
theorem onx_same (o:Obx) (p:Int):(onx o p).b=o.b∧(onx o p).lim=o.lim∧(onx o p).he=o.he:=by
 unfold onx
 split
 · exact ⟨rfl,rfl,rfl⟩
 · split <;> exact ⟨rfl,rfl,rfl⟩
theorem obase_onx (o:Obx) (p:Int):obase (onx o p)=obase o:=by
 obtain ⟨h1,_,h2⟩:=onx_same o p
 unfold obase
 rw [h1,h2]
theorem on_nil {o:Obx} {p:Int} (hw:ObxW o) (h:min (min ((o.b.length:Nat):Int) o.lim-((o.sent:Nat):Int)) p<1) (hA:¬ onA o<o.b.length):onx o p=o∧onN o p=0∧onF o p=0∧onB o p=[]:=by
 by_cases hp:p<1
 · exact on_none hp
 · obtain ⟨_,e1,_,e2,e3,_⟩:=onB_new hw hp hA
   have hM:onM o p=0:=by unfold onM onT; omega
   refine ⟨?_,by rw [e1,hM],e2 hM,List.eq_nil_of_length_eq_zero (by rw [e3,hM])⟩
   rw [onx_new hp hA,hM]
   rfl
theorem vnextO18 (w0 w:World) (R:Nat) (l:List (Nat × List Value)) (o:Obx) (s:Int) (sb sg sa:Option Addr) (cb cg ca:Nat) (G A:Rgs17) (hw:ObxW o) (hln:o.b.length<1000000) (hr:ORel o s G A) (p:Int) (hp:i64 p) (M0:Mm w0 ((R,[.int .i64 ((obase o:Nat):Int),.slice sb (o.b.length-obase o) cb,.int .i64 s,.int .i64 o.lim,.int .i64 ((o.sent:Nat):Int),.slice sg G.length cg,.slice sa A.length ca])::(obs sg++(obs sa++(obs sb++l)))) w) (W_b:Wnd w sb (o.b.length-obase o) cb (fun j=>bl o.b (obase o+j))) (V_g:w.ownsRow 0 49 2 (.slice sg G.length cg) G.length (wrc G)) (V_a:w.ownsRow 0 49 2 (.slice sa A.length ca) A.length (wrc A)) :
 Calls Try.prog 13 #[.pointer (some ⟨R,0,none⟩),.int .i64 p] w fun e w'=>∃ sq cq,e=.returned (.tuple #[.agg #[.int .i64 ((onF o p:Nat):Int),.slice sq (onB o p).length cq],.bool (decide (0<onN o p))])∧NewL w' w.heap.size (onB o p) (.slice sq (onB o p).length cq)∧Wrt w' sq (onB o p).length∧∃ sg' cg' G',ORel (onx o p) s G' A∧Mm w0 ((R,[.int .i64 ((obase o:Nat):Int),.slice sb (o.b.length-obase o) cb,.int .i64 s,.int .i64 o.lim,.int .i64 (((onx o p).sent:Nat):Int),.slice sg' G'.length cg',.slice sa A.length ca])::(obs sq++(obs sg'++(obs sa++(obs sb++l))))) w'∧Wnd w' sb (o.b.length-obase o) cb (fun j=>bl o.b (obase o+j))∧w'.ownsRow 0 49 2 (.slice sg' G'.length cg') G'.length (wrc G')∧w'.ownsRow 0 49 2 (.slice sa A.length ca) A.length (wrc A)∧Off (R::(ob sg++(ob sa++ob sb))) w w':=by
 have M:=M0; clear M0; have hb0:=M.below
 obtain ⟨XS,hXS⟩:∃ X_,X_=(R::(ob sg++(ob sa++ob sb))):=⟨_,rfl⟩
 have hRX:R∈XS:=by rw [hXS]; simp
 have L_g:Lies XS w sg:=fun b_ hb_=>.inl (by rw [hXS]; simp [hb_])
 have L_a:Lies XS w sa:=fun b_ hb_=>.inl (by rw [hXS]; simp [hb_])
 have L_b:Lies XS w sb:=fun b_ hb_=>.inl (by rw [hXS]; simp [hb_])
 have OF:=Off.refl XS w; have hst:=hw.st; have hkb:=obase_le o; have hks:=obase_sent hw; have hlg:=hr.lenG hw hln; have hl1:=hw.l1; have hl2:=hw.l2
 unfold i64 at hp
 go_enter Try.func13,Try.ntmps13
 go_upto_region 0 with fail; refine wp_region_list ?_; have hlb:=(Below.refl w.heap.size w).alloc (xnR _) (.cells #[.int .i64 0,.slice none 0 0] 35); refine actL (w':=w.alloc (.cells #[.int .i64 0,.slice none 0 0] 35)) (.pointer (some ⟨w.heap.size,0,none⟩)) rfl (by kernel_rfl) ?_; simp only [aP,lI,l0,lS]; have hB_:=OF.size; replace V_g:=ownsRow_bel V_g hlb
 replace V_a:=ownsRow_bel V_a hlb; replace W_b:=W_b.bel hlb; replace OF:=OF.below hlb; replace M:=M.box #[.int .i64 0,.slice none 0 0] 35 w.heap.size rfl; clear hlb; generalize w.alloc (.cells #[.int .i64 0,.slice none 0 0] 35)=w1 at M V_g V_a W_b OF ⊢; generalize eB_:w.heap.size=B1 at M ⊢
 have hB_B1:w.heap.size≤B1:=by rw [← eB_]; exact hB_
 clear hB_ eB_
 replace M:Mm w0 ((B1,[.int .i64 0,.slice none 0 0])::(R,[.int .i64 ((obase o:Nat):Int),.slice sb (o.b.length-obase o) cb,.int .i64 s,.int .i64 o.lim,.int .i64 ((o.sent:Nat):Int),.slice sg G.length cg,.slice sa A.length ca])::((obs sg)++((obs sa)++((obs sb)++l)))) w1:=M
 refine xpL (.bool false) ?_; refine xT ?_
 cases hb:rgB G 0 ((o.sent:Nat):Int) with
 | true =>
   obtain ⟨hF,hA,hbA,hFT,hTs,hK⟩:=hr.again hw hln hb
   replace M:=M.swap
   replace M:Mm w0 ((R,[.int .i64 ((obase o:Nat):Int),.slice sb (o.b.length-obase o) cb,.int .i64 s,.int .i64 o.lim,.int .i64 ((o.sent:Nat):Int),.slice sg G.length cg,.slice sa A.length ca])::(B1,[.int .i64 0,.slice none 0 0])::((obs sg)++((obs sa)++((obs sb)++l)))) w1:=M
   go_upto_region 1 with fail
   refine wp_region_held_drew (S:=fun w'=>Mm w0 ((R,[.int .i64 ((obase o:Nat):Int),.slice sb (o.b.length-obase o) cb,.int .i64 s,.int .i64 o.lim,.int .i64 ((o.sent:Nat):Int),.slice sg G.length cg,.slice sa A.length ca])::(B1,[.int .i64 0,.slice none 0 0])::((obs sg)++((obs sa)++((obs sb)++l)))) w'∧Below w1.drew.heap.size w1.drew w') (by kernel_rfl) ⟨M.drew,Below.refl _ _⟩ ?_
   intro _; replace M:=M.drew; have hdr:=(Below.refl w1.heap.size w1).drew; replace V_g:=ownsRow_bel V_g hdr; replace V_a:=ownsRow_bel V_a hdr; replace W_b:=W_b.bel hdr; replace OF:=OF.below hdr; clear hdr; generalize w1.drew=w2 at M V_g V_a W_b OF ⊢; refine xrH 0 10 rfl (.pointer (some ⟨R,0,none⟩)) (fun _ ⟨M,_⟩=>(by kernel_rfl)) ⟨M,Below.refl _ _⟩ ?_
   refine xrH 1 11 rfl (.pointer (some ⟨R,0,none⟩)) (fun _ ⟨M,_⟩=>(by kernel_rfl)) ⟨M,Below.refl _ _⟩ ?_; refine xrH 2 12 rfl (.pointer (some ⟨R,5,none⟩)) (fun _ ⟨M,_⟩=>(by kernel_rfl)) ⟨M,Below.refl _ _⟩ ?_; refine xrH 3 13 rfl (.pointer (some ⟨R,0,none⟩)) (fun _ ⟨M,_⟩=>(by kernel_rfl)) ⟨M,Below.refl _ _⟩ ?_
   refine xrH 4 14 rfl (.pointer (some ⟨R,0,none⟩)) (fun _ ⟨M,_⟩=>(by kernel_rfl)) ⟨M,Below.refl _ _⟩ ?_; refine xrH 5 15 rfl (.pointer (some ⟨R,4,none⟩)) (fun _ ⟨M,_⟩=>(by kernel_rfl)) ⟨M,Below.refl _ _⟩ ?_; refine xrH 6 16 rfl (.int .i64 ((o.sent:Nat):Int)) (fun _ ⟨M,_⟩=>load1 3 _ ⟨R,4,none⟩ _ rfl rfl (fun _=>by kernel_rfl) (M.get mS 4 _ rfl)) ⟨M,Below.refl _ _⟩ ?_
   have hlt_:=fun q hq=>(M.rows q hq).2.2; have h0_:=M.below.size
   refine Flt.go (z:=11) (t:=6) (n:=2) (w0:=w2.heap.size) (k:=4) ?_ #[.int .i64 0,.int .i64 0] 49 rfl rfl rfl (fun _ _=>by kernel_rfl) (fun w_=>((Mm.init w_).box #[.int .i64 0,.int .i64 0] 49 w_.heap.size rfl).there mS 2 rfl) (fun _ h=>h.2.size) (fun _ _ h l=>⟨h.1.call l,h.2.trans (l.mono h.2.size)⟩) _ ⟨M,Below.refl _ _⟩
   refine Flt.call 7 17 (fun v=>v=.tuple #[.agg #[.int .i64 ((onA o:Nat):Int),.int .i64 (rgT G 0 ((o.sent:Nat):Int))],.bool true]) (by kernel_rfl) (by kernel_rfl) rfl rfl rfl (by decide) (by decide) (by intros; simp) (by decide +kernel) (fun _=>by kernel_rfl) (fun w_ h=>(show Calls Try.prog 31 #[.pointer (some ⟨R,5,none⟩),.int .i64 0,.int .i64 ((o.sent:Nat):Int)] w_ (fun e w'=>e=.returned (.tuple #[.agg #[.int .i64 ((onA o:Nat):Int),.int .i64 (rgT G 0 ((o.sent:Nat):Int))],.bool true])∧Below w_.heap.size w_ w') by have key:=vgap_any R 5 sg cg G hr.cg hlg 0 ((o.sent:Nat):Int) w_ (h.1.get mS 5 _ rfl) (NewW.ofOwn (ownsRow_bel V_g h.2)); rw [hb,hF] at key; exact key).mono fun e w'' ⟨he,l⟩=>⟨_,he,rfl,l⟩) ?_
   rintro _ rfl; simp only [aP,lI,l0,lS]; refine Flt.read 8 9 (.tuple #[.agg #[.int .i64 ((onA o:Nat):Int),.int .i64 (rgT G 0 ((o.sent:Nat):Int))],.bool true]) rfl rfl rfl (by decide) (by decide) (by intros; simp) (by decide +kernel) (fun _=>by kernel_rfl) (by kernel_rfl) (by kernel_rfl) (by kernel_rfl) (by kernel_rfl) (by kernel_rfl) (fun _ _ _ h=>h) ?_
   simp only [aP,lI,l0,lS]; refine Flt.read 9 18 (.agg #[.int .i64 ((onA o:Nat):Int),.int .i64 (rgT G 0 ((o.sent:Nat):Int))]) rfl rfl rfl (by decide) (by decide) (by intros; simp) (by decide +kernel) (fun _=>by kernel_rfl) (by kernel_rfl) (by kernel_rfl) (by kernel_rfl) (by kernel_rfl) (by kernel_rfl) (fun _ _ _ h=>h) ?_; simp only [aP,lI,l0,lS]
   refine Flt.read 10 19 (.bool true) rfl rfl rfl (by decide) (by decide) (by intros; simp) (by decide +kernel) (fun _=>by kernel_rfl) (by kernel_rfl) (by kernel_rfl) (by kernel_rfl) (by kernel_rfl) (by kernel_rfl) (fun _ _ _ h=>h) ?_; simp only [aP,lI,l0,lS]; refine Flt.last (by kernel_rfl) ?_; rintro B3 w3 ⟨M',hbw⟩ hFb; simp only [aP,lI,l0,lS]; clear M; have M:=M'; clear M'
   have hB_B3:w.heap.size≤B3:=xnT OF.size hFb.lo
   replace V_g:=ownsRow_bel V_g hbw; replace V_a:=ownsRow_bel V_a hbw; replace W_b:=W_b.bel hbw; replace OF:=OF.below hbw; have ML:=Mm.land M hFb hlt_ h0_ [.int .i64 ((onA o:Nat):Int),.int .i64 (rgT G 0 ((o.sent:Nat):Int))] rfl
   refine doesH (i:=12) none rfl (by kernel_rfl) rfl rfl (storeP [.int .i64 ((onA o:Nat):Int),.int .i64 (rgT G 0 ((o.sent:Nat):Int))] B3 0 49 _ _ rfl rfl rfl hFb.th (by kernel_rfl) (List.all_eq_true.1 (rfl:([.int .i64 ((onA o:Nat):Int),.int .i64 (rgT G 0 ((o.sent:Nat):Int))]:List Value).all (fun u=>u.oneCell')=true))) ⟨ML.tail,below_setAll hbw B3 hFb.lo 0 [.int .i64 ((onA o:Nat):Int),.int .i64 (rgT G 0 ((o.sent:Nat):Int))]⟩ ?_
   simp only [Act.put]; replace hbw:=below_setAll hbw B3 hFb.lo 0 [.int .i64 ((onA o:Nat):Int),.int .i64 (rgT G 0 ((o.sent:Nat):Int))]; clear M; have M:=ML; clear ML hFb hlt_ h0_
   replace V_g:=ownsRow_away V_g ((Off.refl [B3] _).setAll (b:=B3) mS 0 [.int .i64 ((onA o:Nat):Int),.int .i64 (rgT G 0 ((o.sent:Nat):Int))]) (fun b_ hb_=>by obtain rfl:=xm1 hb_; exact M.awayB (fun p_ hp_=>by simp [hp_]))
   replace V_a:=ownsRow_away V_a ((Off.refl [B3] _).setAll (b:=B3) mS 0 [.int .i64 ((onA o:Nat):Int),.int .i64 (rgT G 0 ((o.sent:Nat):Int))]) (fun b_ hb_=>by obtain rfl:=xm1 hb_; exact M.awayB (fun p_ hp_=>by simp [hp_]))
   replace W_b:=W_b.off ((Off.refl [B3] _).setAll (b:=B3) mS 0 [.int .i64 ((onA o:Nat):Int),.int .i64 (rgT G 0 ((o.sent:Nat):Int))]) (fun b_ hb_=>by obtain rfl:=xm1 hb_; exact M.awayB (fun p_ hp_=>by simp [hp_])); replace OF:=OF.and1 ((Off.refl [B3] _).setAll (b:=B3) mS 0 [.int .i64 ((onA o:Nat):Int),.int .i64 (rgT G 0 ((o.sent:Nat):Int))]) (.inr hB_B3)
   generalize w3.setCells B3 0 [.int .i64 ((onA o:Nat):Int),.int .i64 (rgT G 0 ((o.sent:Nat):Int))]=w4 at M hbw V_g V_a W_b OF ⊢
   replace M:Mm w0 ((B3,[.int .i64 ((onA o:Nat):Int),.int .i64 (rgT G 0 ((o.sent:Nat):Int))])::(R,[.int .i64 ((obase o:Nat):Int),.slice sb (o.b.length-obase o) cb,.int .i64 s,.int .i64 o.lim,.int .i64 ((o.sent:Nat):Int),.slice sg G.length cg,.slice sa A.length ca])::(B1,[.int .i64 0,.slice none 0 0])::((obs sg)++((obs sa)++((obs sb)++l)))) w4:=M
   refine xrH 13 7 rfl (.bool true) (fun _ ⟨M,_⟩=>(by kernel_rfl)) ⟨M.tail,hbw⟩ ?_; clear hbw
   refine wpAnyH_done (by kernel_rfl) ?_ _
   first | show Exit.then _ _ _ _ _ | show Exit.inBlock _ _ _ _ _
   go_upto_region 2 with fail; refine wp_region_list ?_; refine xpL (.bool true) ?_; refine xpL (.bool false) ?_; refine xT ?_
   by_cases hp1:p<1
   · go_upto_region 4 with fail
     refine wp_region_list ?_; refine xpL (.pointer (some ⟨B3,1,none⟩)) ?_; refine readL (.int .i64 (rgT G 0 ((o.sent:Nat):Int))) rfl (load1 3 _ ⟨B3,1,none⟩ _ rfl rfl (fun _=>by kernel_rfl) (M.get mS 1 _ rfl)) ?_; simp only [aP,lI,l0,lS]; refine xpL (.pointer (some ⟨B3,0,none⟩)) ?_
     refine xaL (.int .i64 ((onA o:Nat):Int)) (load1 3 _ ⟨B3,0,none⟩ _ rfl rfl (fun _=>by kernel_rfl) (M.get mS 0 _ rfl)) ?_; refine readL (.int .i64 (rgT G 0 ((o.sent:Nat):Int)-((onA o:Nat):Int))) rfl (subI .i64 _ _ _ _ _ _ _ rfl rfl rfl (by rw [xw6]; omega) _) ?_; simp only [aP,lI,l0,lS]; refine xpL (.int .i64 p) ?_
     refine readL (.int .i64 (min (rgT G 0 ((o.sent:Nat):Int)-((onA o:Nat):Int)) p)) rfl (minI .i64 .i64 _ _ _ _ _ _ _ rfl rfl rfl (by split <;> omega) _) ?_; simp only [aP,lI,l0,lS]; refine xpL (.int .i64 (min (rgT G 0 ((o.sent:Nat):Int)-((onA o:Nat):Int)) p)) ?_; refine xT ?_; go_upto_region 5 with fail; refine wp_region_list ?_
     refine xpL (.int .i64 (min (rgT G 0 ((o.sent:Nat):Int)-((onA o:Nat):Int)) p)) ?_; refine xaL (.bool true) (lssI .i64 _ _ _ _ _ _ rfl rfl rfl true (decide_eq_true (by omega)) _) ?_; refine xT ?_; go_upto_region 6 with fail; refine wp_region_list ?_; refine xpL (.agg #[.int .i64 0,.slice none 0 0]) ?_; replace M:=M.rot3
     refine skipOpL rfl (storeP [.int .i64 0,.slice none 0 0] B1 0 35 _ _ rfl rfl rfl (M.thereP mS 0 2 (Nat.le_of_ble_eq_true rfl)) (by kernel_rfl) (List.all_eq_true.1 (rfl:([.int .i64 0,.slice none 0 0]:List Value).all (fun u=>u.oneCell')=true))) ?_; simp only [Act.put]; replace M:=M.setPart [.int .i64 0,.slice none 0 0] 0 (Nat.le_of_ble_eq_true rfl)
     replace V_g:=ownsRow_away V_g ((Off.refl [B1] _).setAll (b:=B1) mS 0 [.int .i64 0,.slice none 0 0]) (fun b_ hb_=>by obtain rfl:=xm1 hb_; exact M.awayB (fun p_ hp_=>by simp [hp_])); replace V_a:=ownsRow_away V_a ((Off.refl [B1] _).setAll (b:=B1) mS 0 [.int .i64 0,.slice none 0 0]) (fun b_ hb_=>by obtain rfl:=xm1 hb_; exact M.awayB (fun p_ hp_=>by simp [hp_]))
     replace W_b:=W_b.off ((Off.refl [B1] _).setAll (b:=B1) mS 0 [.int .i64 0,.slice none 0 0]) (fun b_ hb_=>by obtain rfl:=xm1 hb_; exact M.awayB (fun p_ hp_=>by simp [hp_])); replace OF:=OF.and1 ((Off.refl [B1] _).setAll (b:=B1) mS 0 [.int .i64 0,.slice none 0 0]) (.inr hB_B1); generalize w4.setCells B1 0 [.int .i64 0,.slice none 0 0]=w5 at M V_g V_a W_b OF L_g L_a L_b ⊢
     replace M:Mm w0 ((B1,[.int .i64 0,.slice none 0 0])::(B3,[.int .i64 ((onA o:Nat):Int),.int .i64 (rgT G 0 ((o.sent:Nat):Int))])::(R,[.int .i64 ((obase o:Nat):Int),.slice sb (o.b.length-obase o) cb,.int .i64 s,.int .i64 o.lim,.int .i64 ((o.sent:Nat):Int),.slice sg G.length cg,.slice sa A.length ca])::((obs sg)++((obs sa)++((obs sb)++l)))) w5:=M
     refine xpL (.bool false) ?_; refine xT ?_; have c1_:=M.part mS 0 [.int .i64 0,.slice none 0 0] rfl; replace M:=M.rot3
     replace M:Mm w0 ((R,[.int .i64 ((obase o:Nat):Int),.slice sb (o.b.length-obase o) cb,.int .i64 s,.int .i64 o.lim,.int .i64 ((o.sent:Nat):Int),.slice sg G.length cg,.slice sa A.length ca])::((obs sg)++((obs sa)++((obs sb)++l)))) w5:=M.sub _ (List.cons_sublist_cons.2 (List.Sublist.cons _ (List.Sublist.cons _ ((List.Sublist.refl _).append ((List.Sublist.refl _).append ((List.Sublist.refl _).append (List.Sublist.refl _)))))))
     obtain ⟨e1_,e2_,e3_,e4_⟩:=on_none (o:=o) hp1
     rw [hXS] at OF
     have HS:=show Hid _ from (show _∧_∧_∧_∧_∧_ from ⟨hr,M,W_b,V_g,V_a,OF⟩); replace e1_:=show Hid _ from e1_; replace e2_:=show Hid _ from e2_; replace e3_:=show Hid _ from e3_; replace e4_:=show Hid _ from e4_; have HN:=show Hid _ from (NewF.nil w5 w.heap.size (bl [])); have HW:=show Hid _ from (show Wrt w5 none 0 from fun _ h_=>absurd h_ (xnZ _))
     clear M W_b V_g V_a OF L_g L_a L_b; go_wp2; refine bodyPost_ret (v:=.tuple #[.agg #[.int .i64 0,.slice none 0 0],.bool false]) (retCellTmp 4 5 35 ⟨B1,0,none⟩ [.int .i64 0,.slice none 0 0] _ rfl rfl rfl (fun _=>by kernel_rfl) (fun _=>by kernel_rfl) c1_) rfl ?_
     refine ⟨none,0,by rw [e2_.out,e3_.out,e4_.out]; rfl,?_⟩
     rw [e1_.out,e4_.out]
     exact ⟨HN.out,HW.out,sg,cg,G,HS.out⟩
   · have hK2:=hK p hp1
     obtain ⟨_,hKp,hN_,hF_,hBl_,hbl_⟩:=onB_again (o:=o) hp1 hA
     go_upto_region 4 with fail; refine wp_region_list ?_; refine xpL (.pointer (some ⟨B3,1,none⟩)) ?_; refine readL (.int .i64 (rgT G 0 ((o.sent:Nat):Int))) rfl (load1 3 _ ⟨B3,1,none⟩ _ rfl rfl (fun _=>by kernel_rfl) (M.get mS 1 _ rfl)) ?_; simp only [aP,lI,l0,lS]; refine xpL (.pointer (some ⟨B3,0,none⟩)) ?_
     refine xaL (.int .i64 ((onA o:Nat):Int)) (load1 3 _ ⟨B3,0,none⟩ _ rfl rfl (fun _=>by kernel_rfl) (M.get mS 0 _ rfl)) ?_; refine readL (.int .i64 (rgT G 0 ((o.sent:Nat):Int)-((onA o:Nat):Int))) rfl (subI .i64 _ _ _ _ _ _ _ rfl rfl rfl (by rw [xw6]; omega) _) ?_; simp only [aP,lI,l0,lS]; refine xpL (.int .i64 p) ?_
     refine xaL (.int .i64 ((onK o p:Nat):Int)) (minI .i64 .i64 _ _ _ _ _ _ _ rfl rfl rfl (by split <;> omega) _) ?_; refine xpL (.int .i64 ((onK o p:Nat):Int)) ?_; refine xT ?_; go_upto_region 5 with fail; refine wp_region_list ?_; refine xpL (.int .i64 ((onK o p:Nat):Int)) ?_; refine xaL (.bool false) (lssI .i64 _ _ _ _ _ _ rfl rfl rfl false (decide_eq_false (by omega)) _) ?_
     refine xT ?_; go_upto_region 7 with fail; refine wp_region_list ?_; refine xpL (.pointer (some ⟨B3,0,none⟩)) ?_; refine xaL (.int .i64 ((onA o:Nat):Int)) (load1 3 _ ⟨B3,0,none⟩ _ rfl rfl (fun _=>by kernel_rfl) (M.get mS 0 _ rfl)) ?_; refine xpL (.int .i64 ((onK o p:Nat):Int)) ?_
     refine xaL (.int .i64 ((onA o+onK o p:Nat):Int)) (addI .i64 _ _ _ _ _ _ _ rfl rfl rfl (by rw [xw6]; omega) _) ?_; refine xpL (.pointer (some ⟨B3,1,none⟩)) ?_; refine skipOpL rfl (storeAny (.int .i64 ((onA o+onK o p:Nat):Int)) B3 1 3 _ _ rfl rfl rfl rfl rfl (M.isSome mS 1 (by simp)) (M.free mS 1 (by simp)) (by kernel_rfl)) ?_; simp only [Act.put]
     replace M:=M.set 1 (by simp) (.int .i64 ((onA o+onK o p:Nat):Int)); replace V_g:=ownsRow_away V_g ((Off.refl [B3] _).set (b:=B3) mS 1 (.int .i64 ((onA o+onK o p:Nat):Int))) (fun b_ hb_=>by obtain rfl:=xm1 hb_; exact M.awayB (fun p_ hp_=>by simp [hp_]))
     replace V_a:=ownsRow_away V_a ((Off.refl [B3] _).set (b:=B3) mS 1 (.int .i64 ((onA o+onK o p:Nat):Int))) (fun b_ hb_=>by obtain rfl:=xm1 hb_; exact M.awayB (fun p_ hp_=>by simp [hp_])); replace W_b:=W_b.off ((Off.refl [B3] _).set (b:=B3) mS 1 (.int .i64 ((onA o+onK o p:Nat):Int))) (fun b_ hb_=>by obtain rfl:=xm1 hb_; exact M.awayB (fun p_ hp_=>by simp [hp_]))
     replace OF:=OF.and1 ((Off.refl [B3] _).set (b:=B3) mS 1 (.int .i64 ((onA o+onK o p:Nat):Int))) (.inr hB_B3); generalize w4.setCell ⟨B3,1,none⟩ (.int .i64 ((onA o+onK o p:Nat):Int))=w6 at M V_g V_a W_b OF L_g L_a L_b ⊢
     replace M:Mm w0 ((B3,[.int .i64 ((onA o:Nat):Int),.int .i64 ((onA o+onK o p:Nat):Int)])::(R,[.int .i64 ((obase o:Nat):Int),.slice sb (o.b.length-obase o) cb,.int .i64 s,.int .i64 o.lim,.int .i64 ((o.sent:Nat):Int),.slice sg G.length cg,.slice sa A.length ca])::(B1,[.int .i64 0,.slice none 0 0])::((obs sg)++((obs sa)++((obs sb)++l)))) w6:=M
     refine xT ?_; go_upto_region 8 with fail; have hdr:=(Below.refl w6.heap.size w6).drew; replace M:=M.drew; replace V_g:=ownsRow_bel V_g hdr; replace V_a:=ownsRow_bel V_a hdr; replace W_b:=W_b.bel hdr; replace OF:=OF.below hdr; clear hdr
     refine wp_region_C (S:=fun w'=>Mm w0 [(B3,[.int .i64 ((onA o:Nat):Int),.int .i64 ((onA o+onK o p:Nat):Int)]),(R,[.int .i64 ((obase o:Nat):Int),.slice sb (o.b.length-obase o) cb,.int .i64 s,.int .i64 o.lim,.int .i64 ((o.sent:Nat):Int),.slice sg G.length cg,.slice sa A.length ca]),(B1,[.int .i64 0,.slice none 0 0])] w') 7 (by kernel_rfl) (M.sub _ (List.cons_sublist_cons.2 (List.cons_sublist_cons.2 (List.cons_sublist_cons.2 (List.nil_sublist _))))) ?_
     intro _; generalize w6.drew=w7 at M V_g V_a W_b OF ⊢; refine xqC 0 51 rfl (.pointer (some ⟨R,0,none⟩)) (fun _=>(by kernel_rfl)) (M.sub _ (List.cons_sublist_cons.2 (List.cons_sublist_cons.2 (List.cons_sublist_cons.2 (List.nil_sublist _))))) ?_
     refine xqC 1 52 rfl (.pointer (some ⟨R,0,none⟩)) (fun _=>(by kernel_rfl)) (M.sub _ (List.cons_sublist_cons.2 (List.cons_sublist_cons.2 (List.cons_sublist_cons.2 (List.nil_sublist _))))) ?_
     refine readC (i:=2) (some 53) rfl (.pointer (some ⟨R,5,none⟩)) rfl rfl (by kernel_rfl) rfl (fun _ hS=>(by kernel_rfl)) (by kernel_rfl) (by kernel_rfl) (by kernel_rfl) (by kernel_rfl) (fun _ _ _ h=>h) (M.sub _ (List.cons_sublist_cons.2 (List.cons_sublist_cons.2 (List.cons_sublist_cons.2 (List.nil_sublist _))))) ?_; simp only [aP,lI,l0,lS]
     refine xqC 3 54 rfl (.pointer (some ⟨B3,0,none⟩)) (fun _=>(by kernel_rfl)) (M.sub _ (List.cons_sublist_cons.2 (List.cons_sublist_cons.2 (List.cons_sublist_cons.2 (List.nil_sublist _))))) ?_
     refine readC (i:=4) (some 55) rfl (.int .i64 ((onA o:Nat):Int)) rfl rfl (by kernel_rfl) rfl (fun _ hS=>load1 3 _ ⟨B3,0,none⟩ _ rfl rfl (fun _=>by kernel_rfl) (hS.get mS 0 _ rfl)) (by kernel_rfl) (by kernel_rfl) (by kernel_rfl) (by kernel_rfl) (fun _ _ _ h=>h) (M.sub _ (List.cons_sublist_cons.2 (List.cons_sublist_cons.2 (List.cons_sublist_cons.2 (List.nil_sublist _))))) ?_
     simp only [aP,lI,l0,lS]; refine xqC 5 56 rfl (.pointer (some ⟨B3,1,none⟩)) (fun _=>(by kernel_rfl)) (M.sub _ (List.cons_sublist_cons.2 (List.cons_sublist_cons.2 (List.cons_sublist_cons.2 (List.nil_sublist _))))) ?_
     refine readC (i:=6) (some 57) rfl (.int .i64 ((onA o+onK o p:Nat):Int)) rfl rfl (by kernel_rfl) rfl (fun _ hS=>load1 3 _ ⟨B3,1,none⟩ _ rfl rfl (fun _=>by kernel_rfl) (hS.get mS 1 _ rfl)) (by kernel_rfl) (by kernel_rfl) (by kernel_rfl) (by kernel_rfl) (fun _ _ _ h=>h) (M.sub _ (List.cons_sublist_cons.2 (List.cons_sublist_cons.2 (List.cons_sublist_cons.2 (List.nil_sublist _))))) ?_
     simp only [aP,lI,l0,lS]; replace M:=M.swap
     have Mq:Mm w0 ((R,[.int .i64 ((obase o:Nat):Int),.slice sb (o.b.length-obase o) cb,.int .i64 s,.int .i64 o.lim,.int .i64 ((o.sent:Nat):Int),.slice sg G.length cg,.slice sa A.length ca])::((obs sg)++(([(B3,[.int .i64 ((onA o:Nat):Int),.int .i64 ((onA o+onK o p:Nat):Int)]),(B1,[.int .i64 0,.slice none 0 0])]:List (Nat × List Value))++((obs sa)++((obs sb)++l))))) w7:=(M.perm (pull0 ([(R,[.int .i64 ((obase o:Nat):Int),.slice sb (o.b.length-obase o) cb,.int .i64 s,.int .i64 o.lim,.int .i64 ((o.sent:Nat):Int),.slice sg G.length cg,.slice sa A.length ca]),(B3,[.int .i64 ((onA o:Nat):Int),.int .i64 ((onA o+onK o p:Nat):Int)]),(B1,[.int .i64 0,.slice none 0 0])]:List (Nat × List Value)) (obs sg) ((obs sa)++((obs sb)++l)))).perm List.perm_middle
     have key:=vadd_any w0 _ R 5 sg cg G _ hr.cg hlg ((onA o:Nat):Int) ((onA o+onK o p:Nat):Int) Mq rfl V_g; refine callC (S2:=fun _=>True) (some 58) rfl (by kernel_rfl) rfl rfl (fun _=>by kernel_rfl) key (by kernel_rfl) ?_; clear key; rintro e w8 ⟨p8,c8,rfl,M2,V2,o2,hLs⟩; replace V_a:=ownsRow_away V_a o2 (Mq.awayRO (fun p_ hp_=>by simp [hp_]))
     replace W_b:=W_b.off o2 (Mq.awayRO (fun p_ hp_=>by simp [hp_])); have hsz_:=OF.size; replace OF:=OF.andR o2 hRX L_g; have L2_:=L_g.rep hLs hsz_; clear M Mq V_g L_g o2 hLs hsz_; have V_g:=V2; have L_g:=L2_; clear V2 L2_
     replace M2:Mm w0 ((R,[.int .i64 ((obase o:Nat):Int),.slice sb (o.b.length-obase o) cb,.int .i64 s,.int .i64 o.lim,.int .i64 ((o.sent:Nat):Int),.slice p8 ((rad G ((onA o:Nat):Int) ((onA o+onK o p:Nat):Int)).length) c8,.slice sa A.length ca])::((obs p8)++(([(B3,[.int .i64 ((onA o:Nat):Int),.int .i64 ((onA o+onK o p:Nat):Int)]),(B1,[.int .i64 0,.slice none 0 0])]:List (Nat × List Value))++((obs sa)++((obs sb)++l))))) w8:=M2
     have M:Mm w0 ((R,[.int .i64 ((obase o:Nat):Int),.slice sb (o.b.length-obase o) cb,.int .i64 s,.int .i64 o.lim,.int .i64 ((o.sent:Nat):Int),.slice p8 ((rad G ((onA o:Nat):Int) ((onA o+onK o p:Nat):Int)).length) c8,.slice sa A.length ca])::(B3,[.int .i64 ((onA o:Nat):Int),.int .i64 ((onA o+onK o p:Nat):Int)])::(B1,[.int .i64 0,.slice none 0 0])::((obs p8)++((obs sa)++((obs sb)++l)))) w8:=(M2.perm List.perm_middle.symm).perm (pull0 ([(R,[.int .i64 ((obase o:Nat):Int),.slice sb (o.b.length-obase o) cb,.int .i64 s,.int .i64 o.lim,.int .i64 ((o.sent:Nat):Int),.slice p8 ((rad G ((onA o:Nat):Int) ((onA o+onK o p:Nat):Int)).length) c8,.slice sa A.length ca]),(B3,[.int .i64 ((onA o:Nat):Int),.int .i64 ((onA o+onK o p:Nat):Int)]),(B1,[.int .i64 0,.slice none 0 0])]:List (Nat × List Value)) (obs p8) ((obs sa)++((obs sb)++l))).symm
     clear M2
     refine ⟨_,rfl,?_⟩
     simp only [aP,lI,l0,lS]
     refine wpAnyH_done (by kernel_rfl) ?_ _
     first | show Exit.then _ _ _ _ _ | show Exit.inBlock _ _ _ _ _
     go_upto_region 9 with fail; have hdr:=(Below.refl w8.heap.size w8).drew; replace M:=M.drew; replace V_g:=ownsRow_bel V_g hdr; replace V_a:=ownsRow_bel V_a hdr; replace W_b:=W_b.bel hdr; replace OF:=OF.below hdr; clear hdr
     refine wp_region_C (S:=fun w'=>Mm w0 [(R,[.int .i64 ((obase o:Nat):Int),.slice sb (o.b.length-obase o) cb,.int .i64 s,.int .i64 o.lim,.int .i64 ((o.sent:Nat):Int),.slice p8 ((rad G ((onA o:Nat):Int) ((onA o+onK o p:Nat):Int)).length) c8,.slice sa A.length ca]),(B3,[.int .i64 ((onA o:Nat):Int),.int .i64 ((onA o+onK o p:Nat):Int)]),(B1,[.int .i64 0,.slice none 0 0])] w') 10 (by kernel_rfl) (M.sub _ (List.cons_sublist_cons.2 (List.cons_sublist_cons.2 (List.cons_sublist_cons.2 (List.nil_sublist _))))) ?_
     intro _; generalize w8.drew=w9 at M V_g V_a W_b OF ⊢; refine readC (i:=0) (some 59) rfl (.pointer (some ⟨R,0,none⟩)) rfl rfl (by kernel_rfl) rfl (fun _ hS=>(by kernel_rfl)) (by kernel_rfl) (by kernel_rfl) (by kernel_rfl) (by kernel_rfl) (fun _ _ _ h=>h) (M.sub _ (List.cons_sublist_cons.2 (List.cons_sublist_cons.2 (List.cons_sublist_cons.2 (List.nil_sublist _))))) ?_
     simp only [aP,lI,l0,lS]; refine readC (i:=1) (some 60) rfl (.pointer (some ⟨R,0,none⟩)) rfl rfl (by kernel_rfl) rfl (fun _ hS=>(by kernel_rfl)) (by kernel_rfl) (by kernel_rfl) (by kernel_rfl) (by kernel_rfl) (fun _ _ _ h=>h) (M.sub _ (List.cons_sublist_cons.2 (List.cons_sublist_cons.2 (List.cons_sublist_cons.2 (List.nil_sublist _))))) ?_; simp only [aP,lI,l0,lS]
     refine readC (i:=2) (some 61) rfl (.pointer (some ⟨R,0,none⟩)) rfl rfl (by kernel_rfl) rfl (fun _ hS=>(by kernel_rfl)) (by kernel_rfl) (by kernel_rfl) (by kernel_rfl) (by kernel_rfl) (fun _ _ _ h=>h) (M.sub _ (List.cons_sublist_cons.2 (List.cons_sublist_cons.2 (List.cons_sublist_cons.2 (List.nil_sublist _))))) ?_; simp only [aP,lI,l0,lS]
     refine readC (i:=3) (some 62) rfl (.pointer (some ⟨R,4,none⟩)) rfl rfl (by kernel_rfl) rfl (fun _ hS=>(by kernel_rfl)) (by kernel_rfl) (by kernel_rfl) (by kernel_rfl) (by kernel_rfl) (fun _ _ _ h=>h) (M.sub _ (List.cons_sublist_cons.2 (List.cons_sublist_cons.2 (List.cons_sublist_cons.2 (List.nil_sublist _))))) ?_; simp only [aP,lI,l0,lS]
     refine readC (i:=4) (some 63) rfl (.int .i64 ((o.sent:Nat):Int)) rfl rfl (by kernel_rfl) rfl (fun _ hS=>load1 3 _ ⟨R,4,none⟩ _ rfl rfl (fun _=>by kernel_rfl) (hS.get mS 4 _ rfl)) (by kernel_rfl) (by kernel_rfl) (by kernel_rfl) (by kernel_rfl) (fun _ _ _ h=>h) (M.sub _ (List.cons_sublist_cons.2 (List.cons_sublist_cons.2 (List.cons_sublist_cons.2 (List.nil_sublist _))))) ?_
     simp only [aP,lI,l0,lS]; refine readC (i:=5) (some 64) rfl (.pointer (some ⟨B3,1,none⟩)) rfl rfl (by kernel_rfl) rfl (fun _ hS=>(by kernel_rfl)) (by kernel_rfl) (by kernel_rfl) (by kernel_rfl) (by kernel_rfl) (fun _ _ _ h=>h) (M.sub _ (List.cons_sublist_cons.2 (List.cons_sublist_cons.2 (List.cons_sublist_cons.2 (List.nil_sublist _))))) ?_; simp only [aP,lI,l0,lS]
     refine readC (i:=6) (some 65) rfl (.int .i64 ((onA o+onK o p:Nat):Int)) rfl rfl (by kernel_rfl) rfl (fun _ hS=>load1 3 _ ⟨B3,1,none⟩ _ rfl rfl (fun _=>by kernel_rfl) (hS.get (mT _ mS) 1 _ rfl)) (by kernel_rfl) (by kernel_rfl) (by kernel_rfl) (by kernel_rfl) (fun _ _ _ h=>h) (M.sub _ (List.cons_sublist_cons.2 (List.cons_sublist_cons.2 (List.cons_sublist_cons.2 (List.nil_sublist _))))) ?_
     simp only [aP,lI,l0,lS]
     refine readC (i:=7) (some 66) rfl (.int .i64 ((o.sent:Nat):Int)) rfl rfl (by kernel_rfl) rfl (fun _ hS=>maxI .i64 .i64 _ _ _ _ _ _ _ rfl rfl rfl (by split <;> omega) _) (by kernel_rfl) (by kernel_rfl) (by kernel_rfl) (by kernel_rfl) (fun _ _ _ h=>h) (M.sub _ (List.cons_sublist_cons.2 (List.cons_sublist_cons.2 (List.cons_sublist_cons.2 (List.nil_sublist _))))) ?_
     simp only [aP,lI,l0,lS]; refine xqC 8 67 rfl (.pointer (some ⟨R,0,none⟩)) (fun _=>(by kernel_rfl)) (M.sub _ (List.cons_sublist_cons.2 (List.cons_sublist_cons.2 (List.cons_sublist_cons.2 (List.nil_sublist _))))) ?_
     refine readC (i:=9) (some 68) rfl (.pointer (some ⟨R,4,none⟩)) rfl rfl (by kernel_rfl) rfl (fun _ hS=>(by kernel_rfl)) (by kernel_rfl) (by kernel_rfl) (by kernel_rfl) (by kernel_rfl) (fun _ _ _ h=>h) (M.sub _ (List.cons_sublist_cons.2 (List.cons_sublist_cons.2 (List.cons_sublist_cons.2 (List.nil_sublist _))))) ?_; simp only [aP,lI,l0,lS]
     refine skipC (S2:=fun _=>True) none rfl (by kernel_rfl) rfl rfl (storeAny (.int .i64 ((o.sent:Nat):Int)) R 4 3 _ _ rfl rfl rfl rfl rfl (M.isSome mS 4 (by simp)) (M.free mS 4 (by simp)) (by kernel_rfl)) (by kernel_rfl) ?_; simp only [Act.put]; replace M:=M.set 4 (by simp) (.int .i64 ((o.sent:Nat):Int))
     replace V_g:=ownsRow_away V_g ((Off.refl [R] _).set (b:=R) mS 4 (.int .i64 ((o.sent:Nat):Int))) (fun b_ hb_=>by obtain rfl:=xm1 hb_; exact M.awayB (fun p_ hp_=>by simp [hp_])); replace V_a:=ownsRow_away V_a ((Off.refl [R] _).set (b:=R) mS 4 (.int .i64 ((o.sent:Nat):Int))) (fun b_ hb_=>by obtain rfl:=xm1 hb_; exact M.awayB (fun p_ hp_=>by simp [hp_]))
     replace W_b:=W_b.off ((Off.refl [R] _).set (b:=R) mS 4 (.int .i64 ((o.sent:Nat):Int))) (fun b_ hb_=>by obtain rfl:=xm1 hb_; exact M.awayB (fun p_ hp_=>by simp [hp_])); replace OF:=OF.and1 ((Off.refl [R] _).set (b:=R) mS 4 (.int .i64 ((o.sent:Nat):Int))) (.inl hRX); generalize w9.setCell ⟨R,4,none⟩ (.int .i64 ((o.sent:Nat):Int))=w10 at M V_g V_a W_b OF ⊢
     replace M:Mm w0 ((R,[.int .i64 ((obase o:Nat):Int),.slice sb (o.b.length-obase o) cb,.int .i64 s,.int .i64 o.lim,.int .i64 ((o.sent:Nat):Int),.slice p8 ((rad G ((onA o:Nat):Int) ((onA o+onK o p:Nat):Int)).length) c8,.slice sa A.length ca])::(B3,[.int .i64 ((onA o:Nat):Int),.int .i64 ((onA o+onK o p:Nat):Int)])::(B1,[.int .i64 0,.slice none 0 0])::((obs p8)++((obs sa)++((obs sb)++l)))) w10:=M
     refine wpAnyH_done (by kernel_rfl) ?_ _
     first | show Exit.then _ _ _ _ _ | show Exit.inBlock _ _ _ _ _
     go_upto_region 10 with fail; have hdr:=(Below.refl w10.heap.size w10).drew; replace M:=M.drew; replace V_g:=ownsRow_bel V_g hdr; replace V_a:=ownsRow_bel V_a hdr; replace W_b:=W_b.bel hdr; replace OF:=OF.below hdr; clear hdr
     refine wp_region_C (S:=fun w'=>Mm w0 [(R,[.int .i64 ((obase o:Nat):Int),.slice sb (o.b.length-obase o) cb,.int .i64 s,.int .i64 o.lim,.int .i64 ((o.sent:Nat):Int),.slice p8 ((rad G ((onA o:Nat):Int) ((onA o+onK o p:Nat):Int)).length) c8,.slice sa A.length ca]),(B3,[.int .i64 ((onA o:Nat):Int),.int .i64 ((onA o+onK o p:Nat):Int)]),(B1,[.int .i64 0,.slice none 0 0])] w') 11 (by kernel_rfl) (M.sub _ (List.cons_sublist_cons.2 (List.cons_sublist_cons.2 (List.cons_sublist_cons.2 (List.nil_sublist _))))) ?_
     intro _; generalize w10.drew=w11 at M V_g V_a W_b OF ⊢; refine readC (i:=0) (some 69) rfl (.pointer (some ⟨B3,0,none⟩)) rfl rfl (by kernel_rfl) rfl (fun _ hS=>(by kernel_rfl)) (by kernel_rfl) (by kernel_rfl) (by kernel_rfl) (by kernel_rfl) (fun _ _ _ h=>h) (M.sub _ (List.cons_sublist_cons.2 (List.cons_sublist_cons.2 (List.cons_sublist_cons.2 (List.nil_sublist _))))) ?_
     simp only [aP,lI,l0,lS]
     refine readC (i:=1) (some 70) rfl (.int .i64 ((onA o:Nat):Int)) rfl rfl (by kernel_rfl) rfl (fun _ hS=>load1 3 _ ⟨B3,0,none⟩ _ rfl rfl (fun _=>by kernel_rfl) (hS.get (mT _ mS) 0 _ rfl)) (by kernel_rfl) (by kernel_rfl) (by kernel_rfl) (by kernel_rfl) (fun _ _ _ h=>h) (M.sub _ (List.cons_sublist_cons.2 (List.cons_sublist_cons.2 (List.cons_sublist_cons.2 (List.nil_sublist _))))) ?_
     simp only [aP,lI,l0,lS]; refine readC (i:=2) (some 71) rfl (.pointer (some ⟨R,0,none⟩)) rfl rfl (by kernel_rfl) rfl (fun _ hS=>(by kernel_rfl)) (by kernel_rfl) (by kernel_rfl) (by kernel_rfl) (by kernel_rfl) (fun _ _ _ h=>h) (M.sub _ (List.cons_sublist_cons.2 (List.cons_sublist_cons.2 (List.cons_sublist_cons.2 (List.nil_sublist _))))) ?_; simp only [aP,lI,l0,lS]
     refine readC (i:=3) (some 72) rfl (.pointer (some ⟨R,0,none⟩)) rfl rfl (by kernel_rfl) rfl (fun _ hS=>(by kernel_rfl)) (by kernel_rfl) (by kernel_rfl) (by kernel_rfl) (by kernel_rfl) (fun _ _ _ h=>h) (M.sub _ (List.cons_sublist_cons.2 (List.cons_sublist_cons.2 (List.cons_sublist_cons.2 (List.nil_sublist _))))) ?_; simp only [aP,lI,l0,lS]
     refine readC (i:=4) (some 73) rfl (.pointer (some ⟨R,0,none⟩)) rfl rfl (by kernel_rfl) rfl (fun _ hS=>(by kernel_rfl)) (by kernel_rfl) (by kernel_rfl) (by kernel_rfl) (by kernel_rfl) (fun _ _ _ h=>h) (M.sub _ (List.cons_sublist_cons.2 (List.cons_sublist_cons.2 (List.cons_sublist_cons.2 (List.nil_sublist _))))) ?_; simp only [aP,lI,l0,lS]
     refine readC (i:=5) (some 74) rfl (.pointer (some ⟨B3,0,none⟩)) rfl rfl (by kernel_rfl) rfl (fun _ hS=>(by kernel_rfl)) (by kernel_rfl) (by kernel_rfl) (by kernel_rfl) (by kernel_rfl) (fun _ _ _ h=>h) (M.sub _ (List.cons_sublist_cons.2 (List.cons_sublist_cons.2 (List.cons_sublist_cons.2 (List.nil_sublist _))))) ?_; simp only [aP,lI,l0,lS]
     refine readC (i:=6) (some 75) rfl (.int .i64 ((onA o:Nat):Int)) rfl rfl (by kernel_rfl) rfl (fun _ hS=>load1 3 _ ⟨B3,0,none⟩ _ rfl rfl (fun _=>by kernel_rfl) (hS.get (mT _ mS) 0 _ rfl)) (by kernel_rfl) (by kernel_rfl) (by kernel_rfl) (by kernel_rfl) (fun _ _ _ h=>h) (M.sub _ (List.cons_sublist_cons.2 (List.cons_sublist_cons.2 (List.cons_sublist_cons.2 (List.nil_sublist _))))) ?_
     simp only [aP,lI,l0,lS]; refine readC (i:=7) (some 76) rfl (.pointer (some ⟨B3,1,none⟩)) rfl rfl (by kernel_rfl) rfl (fun _ hS=>(by kernel_rfl)) (by kernel_rfl) (by kernel_rfl) (by kernel_rfl) (by kernel_rfl) (fun _ _ _ h=>h) (M.sub _ (List.cons_sublist_cons.2 (List.cons_sublist_cons.2 (List.cons_sublist_cons.2 (List.nil_sublist _))))) ?_; simp only [aP,lI,l0,lS]
     refine readC (i:=8) (some 77) rfl (.int .i64 ((onA o+onK o p:Nat):Int)) rfl rfl (by kernel_rfl) rfl (fun _ hS=>load1 3 _ ⟨B3,1,none⟩ _ rfl rfl (fun _=>by kernel_rfl) (hS.get (mT _ mS) 1 _ rfl)) (by kernel_rfl) (by kernel_rfl) (by kernel_rfl) (by kernel_rfl) (fun _ _ _ h=>h) (M.sub _ (List.cons_sublist_cons.2 (List.cons_sublist_cons.2 (List.cons_sublist_cons.2 (List.nil_sublist _))))) ?_
     simp only [aP,lI,l0,lS]; have key:=vpiece18 R (obase o) (o.b.length-obase o) sb cb (fun j=>bl o.b (obase o+j)) (onA o) (onA o+onK o p) _ (M.get mS 0 _ rfl) (M.get mS 1 _ rfl) W_b (by omega) (by omega) (by omega) (by omega)
     rw [show onA o+onK o p-(onA o)=(onB o p).length by omega] at key
     refine callMC (i:=9) (some 78) rfl (by kernel_rfl) rfl rfl (fun _=>by kernel_rfl) key ?_; clear key; rintro e w12 ⟨Bp,rfl,hBp,Q_b,l_⟩
     have hBq:w.heap.size≤Bp:=xnT OF.size hBp
     have M':=M.newO (sp:=some ⟨Bp,0,none⟩) l_ (fun x_ hx_=>by obtain rfl:=xm1 hx_; exact ⟨hBp,Q_b.lt _ mS⟩)
     replace V_g:=ownsRow_bel V_g l_; replace V_a:=ownsRow_bel V_a l_; replace W_b:=W_b.bel l_; replace OF:=OF.below l_; clear l_ M hBp
     have M:Mm w0 ((R,[.int .i64 ((obase o:Nat):Int),.slice sb (o.b.length-obase o) cb,.int .i64 s,.int .i64 o.lim,.int .i64 ((o.sent:Nat):Int),.slice p8 ((rad G ((onA o:Nat):Int) ((onA o+onK o p:Nat):Int)).length) c8,.slice sa A.length ca])::(B3,[.int .i64 ((onA o:Nat):Int),.int .i64 ((onA o+onK o p:Nat):Int)])::(B1,[.int .i64 0,.slice none 0 0])::((obs (some ⟨Bp,0,none⟩))++((obs p8)++((obs sa)++((obs sb)++l))))) w12:=M'.perm (pull0 ([(R,[.int .i64 ((obase o:Nat):Int),.slice sb (o.b.length-obase o) cb,.int .i64 s,.int .i64 o.lim,.int .i64 ((o.sent:Nat):Int),.slice p8 ((rad G ((onA o:Nat):Int) ((onA o+onK o p:Nat):Int)).length) c8,.slice sa A.length ca]),(B3,[.int .i64 ((onA o:Nat):Int),.int .i64 ((onA o+onK o p:Nat):Int)]),(B1,[.int .i64 0,.slice none 0 0])]:List (Nat × List Value)) (obs (some ⟨Bp,0,none⟩)) ((obs p8)++((obs sa)++((obs sb)++l)))).symm
     clear M'
     refine ⟨_,rfl,(M.sub _ (List.cons_sublist_cons.2 (List.cons_sublist_cons.2 (List.cons_sublist_cons.2 (List.nil_sublist _))))),?_⟩
     simp only [aP,lI,l0,lS]
     refine readC (i:=10) (some 79) rfl (.agg #[.int .i64 ((onA o:Nat):Int),.slice (some ⟨Bp,0,none⟩) ((onB o p).length) ((onB o p).length)]) rfl rfl (by kernel_rfl) rfl (fun _ hS=>(by kernel_rfl)) (by kernel_rfl) (by kernel_rfl) (by kernel_rfl) (by kernel_rfl) (fun _ _ _ h=>h) (M.sub _ (List.cons_sublist_cons.2 (List.cons_sublist_cons.2 (List.cons_sublist_cons.2 (List.nil_sublist _))))) ?_
     simp only [aP,lI,l0,lS]; replace M:=M.rot3
     refine skipC (S2:=fun _=>True) none rfl (by kernel_rfl) rfl rfl (storeP [.int .i64 ((onA o:Nat):Int),.slice (some ⟨Bp,0,none⟩) ((onB o p).length) ((onB o p).length)] B1 0 35 _ _ rfl rfl rfl (M.thereP mS 0 2 (Nat.le_of_ble_eq_true rfl)) (by kernel_rfl) (List.all_eq_true.1 (rfl:([.int .i64 ((onA o:Nat):Int),.slice (some ⟨Bp,0,none⟩) ((onB o p).length) ((onB o p).length)]:List Value).all (fun u=>u.oneCell')=true))) (by kernel_rfl) ?_
     simp only [Act.put]; replace M:=M.setPart [.int .i64 ((onA o:Nat):Int),.slice (some ⟨Bp,0,none⟩) ((onB o p).length) ((onB o p).length)] 0 (Nat.le_of_ble_eq_true rfl)
     replace V_g:=ownsRow_away V_g ((Off.refl [B1] _).setAll (b:=B1) mS 0 [.int .i64 ((onA o:Nat):Int),.slice (some ⟨Bp,0,none⟩) ((onB o p).length) ((onB o p).length)]) (fun b_ hb_=>by obtain rfl:=xm1 hb_; exact M.awayB (fun p_ hp_=>by simp [hp_]))
     replace V_a:=ownsRow_away V_a ((Off.refl [B1] _).setAll (b:=B1) mS 0 [.int .i64 ((onA o:Nat):Int),.slice (some ⟨Bp,0,none⟩) ((onB o p).length) ((onB o p).length)]) (fun b_ hb_=>by obtain rfl:=xm1 hb_; exact M.awayB (fun p_ hp_=>by simp [hp_]))
     replace W_b:=W_b.off ((Off.refl [B1] _).setAll (b:=B1) mS 0 [.int .i64 ((onA o:Nat):Int),.slice (some ⟨Bp,0,none⟩) ((onB o p).length) ((onB o p).length)]) (fun b_ hb_=>by obtain rfl:=xm1 hb_; exact M.awayB (fun p_ hp_=>by simp [hp_]))
     replace OF:=OF.and1 ((Off.refl [B1] _).setAll (b:=B1) mS 0 [.int .i64 ((onA o:Nat):Int),.slice (some ⟨Bp,0,none⟩) ((onB o p).length) ((onB o p).length)]) (.inr hB_B1)
     replace Q_b:=Q_b.off ((Off.refl [B1] _).setAll (b:=B1) mS 0 [.int .i64 ((onA o:Nat):Int),.slice (some ⟨Bp,0,none⟩) ((onB o p).length) ((onB o p).length)]) (fun b_ hb_=>by obtain rfl:=xm1 hb_; exact M.awayB (fun p_ hp_=>by simp [hp_]))
     generalize w12.setCells B1 0 [.int .i64 ((onA o:Nat):Int),.slice (some ⟨Bp,0,none⟩) ((onB o p).length) ((onB o p).length)]=w13 at M V_g V_a W_b OF Q_b ⊢
     replace M:Mm w0 ((B1,[.int .i64 ((onA o:Nat):Int),.slice (some ⟨Bp,0,none⟩) ((onB o p).length) ((onB o p).length)])::(R,[.int .i64 ((obase o:Nat):Int),.slice sb (o.b.length-obase o) cb,.int .i64 s,.int .i64 o.lim,.int .i64 ((o.sent:Nat):Int),.slice p8 ((rad G ((onA o:Nat):Int) ((onA o+onK o p:Nat):Int)).length) c8,.slice sa A.length ca])::(B3,[.int .i64 ((onA o:Nat):Int),.int .i64 ((onA o+onK o p:Nat):Int)])::((obs (some ⟨Bp,0,none⟩))++((obs p8)++((obs sa)++((obs sb)++l))))) w13:=M
     refine xrH 12 5 rfl (.bool true) (fun _ _=>(by kernel_rfl)) trivial ?_
     refine wpAnyH_done (by kernel_rfl) ?_ _
     first | show Exit.then _ _ _ _ _ | show Exit.inBlock _ _ _ _ _
     have c1_:=M.part mS 0 [.int .i64 ((onA o:Nat):Int),.slice (some ⟨Bp,0,none⟩) ((onB o p).length) ((onB o p).length)] rfl; replace M:=M.swap
     replace M:Mm w0 ((R,[.int .i64 ((obase o:Nat):Int),.slice sb (o.b.length-obase o) cb,.int .i64 s,.int .i64 o.lim,.int .i64 ((o.sent:Nat):Int),.slice p8 ((rad G ((onA o:Nat):Int) ((onA o+onK o p:Nat):Int)).length) c8,.slice sa A.length ca])::((obs (some ⟨Bp,0,none⟩))++((obs p8)++((obs sa)++((obs sb)++l))))) w13:=M.sub _ (List.cons_sublist_cons.2 (List.Sublist.cons _ (List.Sublist.cons _ ((List.Sublist.refl _).append ((List.Sublist.refl _).append ((List.Sublist.refl _).append ((List.Sublist.refl _).append (List.Sublist.refl _))))))))
     have hOR:=hr.nxA hw hln hp1 hA
     have hNL:NewF w13 w.heap.size (onB o p).length (bl (onB o p)) (.slice (some ⟨Bp,0,none⟩) (onB o p).length (onB o p).length):=(Q_b.newF (base:=w.heap.size) (fun b_ hb_=>by obtain rfl:=xm1 hb_; exact hBq)).congr (fun j_ hj_=>by
      show bl o.b (obase o+(onA o-obase o+j_))=_
      rw [show obase o+(onA o-obase o+j_)=onA o+j_ by omega]
      exact hbl_ j_ (by omega))
     have hWt:=Q_b.wrt
     have e5_:(onx o p).sent=o.sent:=by rw [onx_again hp1 hA]
     rw [← e5_] at M
     rw [hXS] at OF
     have HS:=show Hid _ from (show _∧_∧_∧_∧_∧_ from ⟨hOR,M,W_b,V_g,V_a,OF⟩); have HN:=show Hid _ from (And.intro hNL hWt); have hFN:=show Hid _ from (show onF o p=onA o∧decide (0<onN o p)=true from ⟨hF_,decide_eq_true (by omega)⟩); clear M W_b V_g V_a OF L_g L_a L_b Q_b hNL hWt hOR hF_ hBl_ hN_ hbl_ e5_; go_wp2
     refine bodyPost_ret (v:=.tuple #[.agg #[.int .i64 ((onA o:Nat):Int),.slice (some ⟨Bp,0,none⟩) ((onB o p).length) ((onB o p).length)],.bool true]) (retCellTmp 4 5 35 ⟨B1,0,none⟩ [.int .i64 ((onA o:Nat):Int),.slice (some ⟨Bp,0,none⟩) ((onB o p).length) ((onB o p).length)] _ rfl rfl rfl (fun _=>by kernel_rfl) (fun _=>by kernel_rfl) c1_) rfl ?_
     exact ⟨_,_,by rw [hFN.out.1,hFN.out.2],HN.out.1,HN.out.2,_,_,_,HS.out⟩
 | false =>
   have hA:=hr.fresh hw hln hb; replace M:=M.swap
   replace M:Mm w0 ((R,[.int .i64 ((obase o:Nat):Int),.slice sb (o.b.length-obase o) cb,.int .i64 s,.int .i64 o.lim,.int .i64 ((o.sent:Nat):Int),.slice sg G.length cg,.slice sa A.length ca])::(B1,[.int .i64 0,.slice none 0 0])::((obs sg)++((obs sa)++((obs sb)++l)))) w1:=M
   go_upto_region 1 with fail
   refine wp_region_held_drew (S:=fun w'=>Mm w0 ((R,[.int .i64 ((obase o:Nat):Int),.slice sb (o.b.length-obase o) cb,.int .i64 s,.int .i64 o.lim,.int .i64 ((o.sent:Nat):Int),.slice sg G.length cg,.slice sa A.length ca])::(B1,[.int .i64 0,.slice none 0 0])::((obs sg)++((obs sa)++((obs sb)++l)))) w'∧Below w1.drew.heap.size w1.drew w') (by kernel_rfl) ⟨M.drew,Below.refl _ _⟩ ?_
   intro _; replace M:=M.drew; have hdr:=(Below.refl w1.heap.size w1).drew; replace V_g:=ownsRow_bel V_g hdr; replace V_a:=ownsRow_bel V_a hdr; replace W_b:=W_b.bel hdr; replace OF:=OF.below hdr; clear hdr; generalize w1.drew=w14 at M V_g V_a W_b OF ⊢; refine xrH 0 10 rfl (.pointer (some ⟨R,0,none⟩)) (fun _ ⟨M,_⟩=>(by kernel_rfl)) ⟨M,Below.refl _ _⟩ ?_
   refine xrH 1 11 rfl (.pointer (some ⟨R,0,none⟩)) (fun _ ⟨M,_⟩=>(by kernel_rfl)) ⟨M,Below.refl _ _⟩ ?_; refine xrH 2 12 rfl (.pointer (some ⟨R,5,none⟩)) (fun _ ⟨M,_⟩=>(by kernel_rfl)) ⟨M,Below.refl _ _⟩ ?_; refine xrH 3 13 rfl (.pointer (some ⟨R,0,none⟩)) (fun _ ⟨M,_⟩=>(by kernel_rfl)) ⟨M,Below.refl _ _⟩ ?_
   refine xrH 4 14 rfl (.pointer (some ⟨R,0,none⟩)) (fun _ ⟨M,_⟩=>(by kernel_rfl)) ⟨M,Below.refl _ _⟩ ?_; refine xrH 5 15 rfl (.pointer (some ⟨R,4,none⟩)) (fun _ ⟨M,_⟩=>(by kernel_rfl)) ⟨M,Below.refl _ _⟩ ?_; refine xrH 6 16 rfl (.int .i64 ((o.sent:Nat):Int)) (fun _ ⟨M,_⟩=>load1 3 _ ⟨R,4,none⟩ _ rfl rfl (fun _=>by kernel_rfl) (M.get mS 4 _ rfl)) ⟨M,Below.refl _ _⟩ ?_
   have hlt_:=fun q hq=>(M.rows q hq).2.2; have h0_:=M.below.size
   refine Flt.go (z:=11) (t:=6) (n:=2) (w0:=w14.heap.size) (k:=4) ?_ #[.int .i64 0,.int .i64 0] 49 rfl rfl rfl (fun _ _=>by kernel_rfl) (fun w_=>((Mm.init w_).box #[.int .i64 0,.int .i64 0] 49 w_.heap.size rfl).there mS 2 rfl) (fun _ h=>h.2.size) (fun _ _ h l=>⟨h.1.call l,h.2.trans (l.mono h.2.size)⟩) _ ⟨M,Below.refl _ _⟩
   refine Flt.call 7 17 (fun v=>v=.tuple #[.agg #[.int .i64 (rgF G 0 ((o.sent:Nat):Int)),.int .i64 (rgT G 0 ((o.sent:Nat):Int))],.bool false]) (by kernel_rfl) (by kernel_rfl) rfl rfl rfl (by decide) (by decide) (by intros; simp) (by decide +kernel) (fun _=>by kernel_rfl) (fun w_ h=>(show Calls Try.prog 31 #[.pointer (some ⟨R,5,none⟩),.int .i64 0,.int .i64 ((o.sent:Nat):Int)] w_ (fun e w'=>e=.returned (.tuple #[.agg #[.int .i64 (rgF G 0 ((o.sent:Nat):Int)),.int .i64 (rgT G 0 ((o.sent:Nat):Int))],.bool false])∧Below w_.heap.size w_ w') by have key:=vgap_any R 5 sg cg G hr.cg hlg 0 ((o.sent:Nat):Int) w_ (h.1.get mS 5 _ rfl) (NewW.ofOwn (ownsRow_bel V_g h.2)); rw [hb] at key; exact key).mono fun e w'' ⟨he,l⟩=>⟨_,he,rfl,l⟩) ?_
   rintro _ rfl; simp only [aP,lI,l0,lS]; refine Flt.read 8 9 (.tuple #[.agg #[.int .i64 (rgF G 0 ((o.sent:Nat):Int)),.int .i64 (rgT G 0 ((o.sent:Nat):Int))],.bool false]) rfl rfl rfl (by decide) (by decide) (by intros; simp) (by decide +kernel) (fun _=>by kernel_rfl) (by kernel_rfl) (by kernel_rfl) (by kernel_rfl) (by kernel_rfl) (by kernel_rfl) (fun _ _ _ h=>h) ?_
   simp only [aP,lI,l0,lS]; refine Flt.read 9 18 (.agg #[.int .i64 (rgF G 0 ((o.sent:Nat):Int)),.int .i64 (rgT G 0 ((o.sent:Nat):Int))]) rfl rfl rfl (by decide) (by decide) (by intros; simp) (by decide +kernel) (fun _=>by kernel_rfl) (by kernel_rfl) (by kernel_rfl) (by kernel_rfl) (by kernel_rfl) (by kernel_rfl) (fun _ _ _ h=>h) ?_; simp only [aP,lI,l0,lS]
   refine Flt.read 10 19 (.bool false) rfl rfl rfl (by decide) (by decide) (by intros; simp) (by decide +kernel) (fun _=>by kernel_rfl) (by kernel_rfl) (by kernel_rfl) (by kernel_rfl) (by kernel_rfl) (by kernel_rfl) (fun _ _ _ h=>h) ?_; simp only [aP,lI,l0,lS]; refine Flt.last (by kernel_rfl) ?_; rintro B15 w15 ⟨M',hbw⟩ hFb; simp only [aP,lI,l0,lS]; clear M; have M:=M'; clear M'
   have hB_B15:w.heap.size≤B15:=xnT OF.size hFb.lo
   replace V_g:=ownsRow_bel V_g hbw; replace V_a:=ownsRow_bel V_a hbw; replace W_b:=W_b.bel hbw; replace OF:=OF.below hbw; have ML:=Mm.land M hFb hlt_ h0_ [.int .i64 (rgF G 0 ((o.sent:Nat):Int)),.int .i64 (rgT G 0 ((o.sent:Nat):Int))] rfl
   refine doesH (i:=12) none rfl (by kernel_rfl) rfl rfl (storeP [.int .i64 (rgF G 0 ((o.sent:Nat):Int)),.int .i64 (rgT G 0 ((o.sent:Nat):Int))] B15 0 49 _ _ rfl rfl rfl hFb.th (by kernel_rfl) (List.all_eq_true.1 (rfl:([.int .i64 (rgF G 0 ((o.sent:Nat):Int)),.int .i64 (rgT G 0 ((o.sent:Nat):Int))]:List Value).all (fun u=>u.oneCell')=true))) ⟨ML.tail,below_setAll hbw B15 hFb.lo 0 [.int .i64 (rgF G 0 ((o.sent:Nat):Int)),.int .i64 (rgT G 0 ((o.sent:Nat):Int))]⟩ ?_
   simp only [Act.put]; replace hbw:=below_setAll hbw B15 hFb.lo 0 [.int .i64 (rgF G 0 ((o.sent:Nat):Int)),.int .i64 (rgT G 0 ((o.sent:Nat):Int))]; clear M; have M:=ML; clear ML hFb hlt_ h0_
   replace V_g:=ownsRow_away V_g ((Off.refl [B15] _).setAll (b:=B15) mS 0 [.int .i64 (rgF G 0 ((o.sent:Nat):Int)),.int .i64 (rgT G 0 ((o.sent:Nat):Int))]) (fun b_ hb_=>by obtain rfl:=xm1 hb_; exact M.awayB (fun p_ hp_=>by simp [hp_]))
   replace V_a:=ownsRow_away V_a ((Off.refl [B15] _).setAll (b:=B15) mS 0 [.int .i64 (rgF G 0 ((o.sent:Nat):Int)),.int .i64 (rgT G 0 ((o.sent:Nat):Int))]) (fun b_ hb_=>by obtain rfl:=xm1 hb_; exact M.awayB (fun p_ hp_=>by simp [hp_]))
   replace W_b:=W_b.off ((Off.refl [B15] _).setAll (b:=B15) mS 0 [.int .i64 (rgF G 0 ((o.sent:Nat):Int)),.int .i64 (rgT G 0 ((o.sent:Nat):Int))]) (fun b_ hb_=>by obtain rfl:=xm1 hb_; exact M.awayB (fun p_ hp_=>by simp [hp_]))
   replace OF:=OF.and1 ((Off.refl [B15] _).setAll (b:=B15) mS 0 [.int .i64 (rgF G 0 ((o.sent:Nat):Int)),.int .i64 (rgT G 0 ((o.sent:Nat):Int))]) (.inr hB_B15); generalize w15.setCells B15 0 [.int .i64 (rgF G 0 ((o.sent:Nat):Int)),.int .i64 (rgT G 0 ((o.sent:Nat):Int))]=w16 at M hbw V_g V_a W_b OF ⊢
   replace M:Mm w0 ((B15,[.int .i64 (rgF G 0 ((o.sent:Nat):Int)),.int .i64 (rgT G 0 ((o.sent:Nat):Int))])::(R,[.int .i64 ((obase o:Nat):Int),.slice sb (o.b.length-obase o) cb,.int .i64 s,.int .i64 o.lim,.int .i64 ((o.sent:Nat):Int),.slice sg G.length cg,.slice sa A.length ca])::(B1,[.int .i64 0,.slice none 0 0])::((obs sg)++((obs sa)++((obs sb)++l)))) w16:=M
   refine xrH 13 7 rfl (.bool false) (fun _ ⟨M,_⟩=>(by kernel_rfl)) ⟨M.tail,hbw⟩ ?_; clear hbw
   refine wpAnyH_done (by kernel_rfl) ?_ _
   first | show Exit.then _ _ _ _ _ | show Exit.inBlock _ _ _ _ _
   go_upto_region 2 with fail; refine wp_region_list ?_; refine xpL (.bool false) ?_; refine xpL (.bool true) ?_; refine xT ?_; go_upto_region 3 with fail; have hdr:=(Below.refl w16.heap.size w16).drew; replace M:=M.drew; replace V_g:=ownsRow_bel V_g hdr; replace V_a:=ownsRow_bel V_a hdr; replace W_b:=W_b.bel hdr; replace OF:=OF.below hdr; clear hdr
   refine wp_region_C (S:=fun w'=>Mm w0 [(B15,[.int .i64 (rgF G 0 ((o.sent:Nat):Int)),.int .i64 (rgT G 0 ((o.sent:Nat):Int))]),(R,[.int .i64 ((obase o:Nat):Int),.slice sb (o.b.length-obase o) cb,.int .i64 s,.int .i64 o.lim,.int .i64 ((o.sent:Nat):Int),.slice sg G.length cg,.slice sa A.length ca]),(B1,[.int .i64 0,.slice none 0 0])] w') 14 (by kernel_rfl) (M.sub _ (List.cons_sublist_cons.2 (List.cons_sublist_cons.2 (List.cons_sublist_cons.2 (List.nil_sublist _))))) ?_
   intro _; generalize w16.drew=w17 at M V_g V_a W_b OF ⊢; refine readC (i:=0) (some 22) rfl (.pointer (some ⟨R,0,none⟩)) rfl rfl (by kernel_rfl) rfl (fun _ hS=>(by kernel_rfl)) (by kernel_rfl) (by kernel_rfl) (by kernel_rfl) (by kernel_rfl) (fun _ _ _ h=>h) (M.sub _ (List.cons_sublist_cons.2 (List.cons_sublist_cons.2 (List.cons_sublist_cons.2 (List.nil_sublist _))))) ?_
   simp only [aP,lI,l0,lS]; refine readC (i:=1) (some 23) rfl (.pointer (some ⟨R,0,none⟩)) rfl rfl (by kernel_rfl) rfl (fun _ hS=>(by kernel_rfl)) (by kernel_rfl) (by kernel_rfl) (by kernel_rfl) (by kernel_rfl) (fun _ _ _ h=>h) (M.sub _ (List.cons_sublist_cons.2 (List.cons_sublist_cons.2 (List.cons_sublist_cons.2 (List.nil_sublist _))))) ?_; simp only [aP,lI,l0,lS]
   refine readC (i:=2) (some 24) rfl (.pointer (some ⟨R,4,none⟩)) rfl rfl (by kernel_rfl) rfl (fun _ hS=>(by kernel_rfl)) (by kernel_rfl) (by kernel_rfl) (by kernel_rfl) (by kernel_rfl) (fun _ _ _ h=>h) (M.sub _ (List.cons_sublist_cons.2 (List.cons_sublist_cons.2 (List.cons_sublist_cons.2 (List.nil_sublist _))))) ?_; simp only [aP,lI,l0,lS]
   refine readC (i:=3) (some 25) rfl (.int .i64 ((o.sent:Nat):Int)) rfl rfl (by kernel_rfl) rfl (fun _ hS=>load1 3 _ ⟨R,4,none⟩ _ rfl rfl (fun _=>by kernel_rfl) (hS.get (mT _ mS) 4 _ rfl)) (by kernel_rfl) (by kernel_rfl) (by kernel_rfl) (by kernel_rfl) (fun _ _ _ h=>h) (M.sub _ (List.cons_sublist_cons.2 (List.cons_sublist_cons.2 (List.cons_sublist_cons.2 (List.nil_sublist _))))) ?_
   simp only [aP,lI,l0,lS]; refine readC (i:=4) (some 26) rfl (.pointer (some ⟨R,0,none⟩)) rfl rfl (by kernel_rfl) rfl (fun _ hS=>(by kernel_rfl)) (by kernel_rfl) (by kernel_rfl) (by kernel_rfl) (by kernel_rfl) (fun _ _ _ h=>h) (M.sub _ (List.cons_sublist_cons.2 (List.cons_sublist_cons.2 (List.cons_sublist_cons.2 (List.nil_sublist _))))) ?_; simp only [aP,lI,l0,lS]
   refine readC (i:=5) (some 27) rfl (.pointer (some ⟨R,0,none⟩)) rfl rfl (by kernel_rfl) rfl (fun _ hS=>(by kernel_rfl)) (by kernel_rfl) (by kernel_rfl) (by kernel_rfl) (by kernel_rfl) (fun _ _ _ h=>h) (M.sub _ (List.cons_sublist_cons.2 (List.cons_sublist_cons.2 (List.cons_sublist_cons.2 (List.nil_sublist _))))) ?_; simp only [aP,lI,l0,lS]
   refine readC (i:=6) (some 28) rfl (.pointer (some ⟨R,0,none⟩)) rfl rfl (by kernel_rfl) rfl (fun _ hS=>(by kernel_rfl)) (by kernel_rfl) (by kernel_rfl) (by kernel_rfl) (by kernel_rfl) (fun _ _ _ h=>h) (M.sub _ (List.cons_sublist_cons.2 (List.cons_sublist_cons.2 (List.cons_sublist_cons.2 (List.nil_sublist _))))) ?_; simp only [aP,lI,l0,lS]
   refine readC (i:=8) (some 30) rfl (.pointer (some ⟨R,0,none⟩)) rfl rfl (by kernel_rfl) rfl (fun _ hS=>(by kernel_rfl)) (by kernel_rfl) (by kernel_rfl) (by kernel_rfl) (by kernel_rfl) (fun _ _ _ h=>h) (M.sub _ (List.cons_sublist_cons.2 (List.cons_sublist_cons.2 (List.cons_sublist_cons.2 (List.nil_sublist _))))) ?_; simp only [aP,lI,l0,lS]
   refine readC (i:=9) (some 31) rfl (.pointer (some ⟨R,0,none⟩)) rfl rfl (by kernel_rfl) rfl (fun _ hS=>(by kernel_rfl)) (by kernel_rfl) (by kernel_rfl) (by kernel_rfl) (by kernel_rfl) (fun _ _ _ h=>h) (M.sub _ (List.cons_sublist_cons.2 (List.cons_sublist_cons.2 (List.cons_sublist_cons.2 (List.nil_sublist _))))) ?_; simp only [aP,lI,l0,lS]
   refine readC (i:=10) (some 32) rfl (.pointer (some ⟨R,3,none⟩)) rfl rfl (by kernel_rfl) rfl (fun _ hS=>(by kernel_rfl)) (by kernel_rfl) (by kernel_rfl) (by kernel_rfl) (by kernel_rfl) (fun _ _ _ h=>h) (M.sub _ (List.cons_sublist_cons.2 (List.cons_sublist_cons.2 (List.cons_sublist_cons.2 (List.nil_sublist _))))) ?_; simp only [aP,lI,l0,lS]
   refine readC (i:=11) (some 33) rfl (.int .i64 o.lim) rfl rfl (by kernel_rfl) rfl (fun _ hS=>load1 3 _ ⟨R,3,none⟩ _ rfl rfl (fun _=>by kernel_rfl) (hS.get (mT _ mS) 3 _ rfl)) (by kernel_rfl) (by kernel_rfl) (by kernel_rfl) (by kernel_rfl) (fun _ _ _ h=>h) (M.sub _ (List.cons_sublist_cons.2 (List.cons_sublist_cons.2 (List.cons_sublist_cons.2 (List.nil_sublist _))))) ?_
   simp only [aP,lI,l0,lS]; have key:=vend18 R (obase o) (o.b.length-obase o) sb cb _ (M.get (mT _ mS) 0 _ rfl) (M.get (mT _ mS) 1 _ rfl) (by omega)
   rw [show (obase o)+(o.b.length-obase o)=o.b.length by omega] at key
   refine callMC (i:=7) (some 29) rfl (by kernel_rfl) rfl rfl (fun _=>by kernel_rfl) key ?_; clear key; rintro e w18 ⟨rfl,l_⟩; replace M:=M.call l_; replace V_g:=ownsRow_bel V_g l_; replace V_a:=ownsRow_bel V_a l_; replace W_b:=W_b.bel l_; replace OF:=OF.below l_; clear l_
   refine ⟨_,rfl,(M.sub _ (List.cons_sublist_cons.2 (List.cons_sublist_cons.2 (List.cons_sublist_cons.2 (List.nil_sublist _))))),?_⟩
   simp only [aP,lI,l0,lS]
   refine readC (i:=12) (some 34) rfl (.int .i64 (min ((o.b.length:Nat):Int) o.lim)) rfl rfl (by kernel_rfl) rfl (fun _ hS=>minI .i64 .i64 _ _ _ _ _ _ _ rfl rfl rfl (by split <;> omega) _) (by kernel_rfl) (by kernel_rfl) (by kernel_rfl) (by kernel_rfl) (fun _ _ _ h=>h) (M.sub _ (List.cons_sublist_cons.2 (List.cons_sublist_cons.2 (List.cons_sublist_cons.2 (List.nil_sublist _))))) ?_
   simp only [aP,lI,l0,lS]
   refine readC (i:=13) (some 35) rfl (.agg #[.int .i64 ((o.sent:Nat):Int),.int .i64 (min ((o.b.length:Nat):Int) o.lim)]) rfl rfl (by kernel_rfl) rfl (fun _ hS=>(by kernel_rfl)) (by kernel_rfl) (by kernel_rfl) (by kernel_rfl) (by kernel_rfl) (fun _ _ _ h=>h) (M.sub _ (List.cons_sublist_cons.2 (List.cons_sublist_cons.2 (List.cons_sublist_cons.2 (List.nil_sublist _))))) ?_
   simp only [aP,lI,l0,lS]
   refine skipC (S2:=fun _=>True) none rfl (by kernel_rfl) rfl rfl (storeP [.int .i64 ((o.sent:Nat):Int),.int .i64 (min ((o.b.length:Nat):Int) o.lim)] B15 0 49 _ _ rfl rfl rfl (M.thereP mS 0 2 (Nat.le_of_ble_eq_true rfl)) (by kernel_rfl) (List.all_eq_true.1 (rfl:([.int .i64 ((o.sent:Nat):Int),.int .i64 (min ((o.b.length:Nat):Int) o.lim)]:List Value).all (fun u=>u.oneCell')=true))) (by kernel_rfl) ?_
   simp only [Act.put]; replace M:=M.setPart [.int .i64 ((o.sent:Nat):Int),.int .i64 (min ((o.b.length:Nat):Int) o.lim)] 0 (Nat.le_of_ble_eq_true rfl)
   replace V_g:=ownsRow_away V_g ((Off.refl [B15] _).setAll (b:=B15) mS 0 [.int .i64 ((o.sent:Nat):Int),.int .i64 (min ((o.b.length:Nat):Int) o.lim)]) (fun b_ hb_=>by obtain rfl:=xm1 hb_; exact M.awayB (fun p_ hp_=>by simp [hp_]))
   replace V_a:=ownsRow_away V_a ((Off.refl [B15] _).setAll (b:=B15) mS 0 [.int .i64 ((o.sent:Nat):Int),.int .i64 (min ((o.b.length:Nat):Int) o.lim)]) (fun b_ hb_=>by obtain rfl:=xm1 hb_; exact M.awayB (fun p_ hp_=>by simp [hp_]))
   replace W_b:=W_b.off ((Off.refl [B15] _).setAll (b:=B15) mS 0 [.int .i64 ((o.sent:Nat):Int),.int .i64 (min ((o.b.length:Nat):Int) o.lim)]) (fun b_ hb_=>by obtain rfl:=xm1 hb_; exact M.awayB (fun p_ hp_=>by simp [hp_]))
   replace OF:=OF.and1 ((Off.refl [B15] _).setAll (b:=B15) mS 0 [.int .i64 ((o.sent:Nat):Int),.int .i64 (min ((o.b.length:Nat):Int) o.lim)]) (.inr hB_B15); generalize w18.setCells B15 0 [.int .i64 ((o.sent:Nat):Int),.int .i64 (min ((o.b.length:Nat):Int) o.lim)]=w19 at M V_g V_a W_b OF ⊢
   replace M:Mm w0 ((B15,[.int .i64 ((o.sent:Nat):Int),.int .i64 (min ((o.b.length:Nat):Int) o.lim)])::(R,[.int .i64 ((obase o:Nat):Int),.slice sb (o.b.length-obase o) cb,.int .i64 s,.int .i64 o.lim,.int .i64 ((o.sent:Nat):Int),.slice sg G.length cg,.slice sa A.length ca])::(B1,[.int .i64 0,.slice none 0 0])::((obs sg)++((obs sa)++((obs sb)++l)))) w19:=M
   refine wpAnyH_done (by kernel_rfl) ?_ _
   first | show Exit.then _ _ _ _ _ | show Exit.inBlock _ _ _ _ _
   by_cases hp2:min (min ((o.b.length:Nat):Int) o.lim-((o.sent:Nat):Int)) p<1
   · go_upto_region 4 with fail
     refine wp_region_list ?_; refine xpL (.pointer (some ⟨B15,1,none⟩)) ?_; refine readL (.int .i64 (min ((o.b.length:Nat):Int) o.lim)) rfl (load1 3 _ ⟨B15,1,none⟩ _ rfl rfl (fun _=>by kernel_rfl) (M.get mS 1 _ rfl)) ?_; simp only [aP,lI,l0,lS]; refine xpL (.pointer (some ⟨B15,0,none⟩)) ?_
     refine xaL (.int .i64 ((o.sent:Nat):Int)) (load1 3 _ ⟨B15,0,none⟩ _ rfl rfl (fun _=>by kernel_rfl) (M.get mS 0 _ rfl)) ?_; refine readL (.int .i64 (min ((o.b.length:Nat):Int) o.lim-((o.sent:Nat):Int))) rfl (subI .i64 _ _ _ _ _ _ _ rfl rfl rfl (by rw [xw6]; omega) _) ?_; simp only [aP,lI,l0,lS]; refine xpL (.int .i64 p) ?_
     refine readL (.int .i64 (min (min ((o.b.length:Nat):Int) o.lim-((o.sent:Nat):Int)) p)) rfl (minI .i64 .i64 _ _ _ _ _ _ _ rfl rfl rfl (by split <;> omega) _) ?_; simp only [aP,lI,l0,lS]; refine xpL (.int .i64 (min (min ((o.b.length:Nat):Int) o.lim-((o.sent:Nat):Int)) p)) ?_; refine xT ?_; go_upto_region 5 with fail; refine wp_region_list ?_
     refine xpL (.int .i64 (min (min ((o.b.length:Nat):Int) o.lim-((o.sent:Nat):Int)) p)) ?_; refine xaL (.bool true) (lssI .i64 _ _ _ _ _ _ rfl rfl rfl true (decide_eq_true (by omega)) _) ?_; refine xT ?_; go_upto_region 6 with fail; refine wp_region_list ?_; refine xpL (.agg #[.int .i64 0,.slice none 0 0]) ?_; replace M:=M.rot3
     refine skipOpL rfl (storeP [.int .i64 0,.slice none 0 0] B1 0 35 _ _ rfl rfl rfl (M.thereP mS 0 2 (Nat.le_of_ble_eq_true rfl)) (by kernel_rfl) (List.all_eq_true.1 (rfl:([.int .i64 0,.slice none 0 0]:List Value).all (fun u=>u.oneCell')=true))) ?_; simp only [Act.put]; replace M:=M.setPart [.int .i64 0,.slice none 0 0] 0 (Nat.le_of_ble_eq_true rfl)
     replace V_g:=ownsRow_away V_g ((Off.refl [B1] _).setAll (b:=B1) mS 0 [.int .i64 0,.slice none 0 0]) (fun b_ hb_=>by obtain rfl:=xm1 hb_; exact M.awayB (fun p_ hp_=>by simp [hp_])); replace V_a:=ownsRow_away V_a ((Off.refl [B1] _).setAll (b:=B1) mS 0 [.int .i64 0,.slice none 0 0]) (fun b_ hb_=>by obtain rfl:=xm1 hb_; exact M.awayB (fun p_ hp_=>by simp [hp_]))
     replace W_b:=W_b.off ((Off.refl [B1] _).setAll (b:=B1) mS 0 [.int .i64 0,.slice none 0 0]) (fun b_ hb_=>by obtain rfl:=xm1 hb_; exact M.awayB (fun p_ hp_=>by simp [hp_])); replace OF:=OF.and1 ((Off.refl [B1] _).setAll (b:=B1) mS 0 [.int .i64 0,.slice none 0 0]) (.inr hB_B1); generalize w19.setCells B1 0 [.int .i64 0,.slice none 0 0]=w20 at M V_g V_a W_b OF L_g L_a L_b ⊢
     replace M:Mm w0 ((B1,[.int .i64 0,.slice none 0 0])::(B15,[.int .i64 ((o.sent:Nat):Int),.int .i64 (min ((o.b.length:Nat):Int) o.lim)])::(R,[.int .i64 ((obase o:Nat):Int),.slice sb (o.b.length-obase o) cb,.int .i64 s,.int .i64 o.lim,.int .i64 ((o.sent:Nat):Int),.slice sg G.length cg,.slice sa A.length ca])::((obs sg)++((obs sa)++((obs sb)++l)))) w20:=M
     refine xpL (.bool false) ?_; refine xT ?_; have c1_:=M.part mS 0 [.int .i64 0,.slice none 0 0] rfl; replace M:=M.rot3
     replace M:Mm w0 ((R,[.int .i64 ((obase o:Nat):Int),.slice sb (o.b.length-obase o) cb,.int .i64 s,.int .i64 o.lim,.int .i64 ((o.sent:Nat):Int),.slice sg G.length cg,.slice sa A.length ca])::((obs sg)++((obs sa)++((obs sb)++l)))) w20:=M.sub _ (List.cons_sublist_cons.2 (List.Sublist.cons _ (List.Sublist.cons _ ((List.Sublist.refl _).append ((List.Sublist.refl _).append ((List.Sublist.refl _).append (List.Sublist.refl _)))))))
     obtain ⟨e1_,e2_,e3_,e4_⟩:=on_nil hw hp2 hA
     rw [hXS] at OF
     have HS:=show Hid _ from (show _∧_∧_∧_∧_∧_ from ⟨hr,M,W_b,V_g,V_a,OF⟩); replace e1_:=show Hid _ from e1_; replace e2_:=show Hid _ from e2_; replace e3_:=show Hid _ from e3_; replace e4_:=show Hid _ from e4_; have HN:=show Hid _ from (NewF.nil w20 w.heap.size (bl [])); have HW:=show Hid _ from (show Wrt w20 none 0 from fun _ h_=>absurd h_ (xnZ _))
     clear M W_b V_g V_a OF L_g L_a L_b; go_wp2; refine bodyPost_ret (v:=.tuple #[.agg #[.int .i64 0,.slice none 0 0],.bool false]) (retCellTmp 4 5 35 ⟨B1,0,none⟩ [.int .i64 0,.slice none 0 0] _ rfl rfl rfl (fun _=>by kernel_rfl) (fun _=>by kernel_rfl) c1_) rfl ?_
     refine ⟨none,0,by rw [e2_.out,e3_.out,e4_.out]; rfl,?_⟩
     rw [e1_.out,e4_.out]
     exact ⟨HN.out,HW.out,sg,cg,G,HS.out⟩
   · have hp1:¬ p<1:=by omega
     obtain ⟨_,hN_,hF0_,_,hBl_,hle_,hbl_⟩:=onB_new hw hp1 hA
     have hMi:((onM o p:Nat):Int)=min (min ((o.b.length:Nat):Int) o.lim-((o.sent:Nat):Int)) p:=by unfold onM onT; omega
     have hF_:=hF0_ (by omega); go_upto_region 4 with fail; refine wp_region_list ?_; refine xpL (.pointer (some ⟨B15,1,none⟩)) ?_; refine readL (.int .i64 (min ((o.b.length:Nat):Int) o.lim)) rfl (load1 3 _ ⟨B15,1,none⟩ _ rfl rfl (fun _=>by kernel_rfl) (M.get mS 1 _ rfl)) ?_; simp only [aP,lI,l0,lS]; refine xpL (.pointer (some ⟨B15,0,none⟩)) ?_
     refine xaL (.int .i64 ((o.sent:Nat):Int)) (load1 3 _ ⟨B15,0,none⟩ _ rfl rfl (fun _=>by kernel_rfl) (M.get mS 0 _ rfl)) ?_; refine readL (.int .i64 (min ((o.b.length:Nat):Int) o.lim-((o.sent:Nat):Int))) rfl (subI .i64 _ _ _ _ _ _ _ rfl rfl rfl (by rw [xw6]; omega) _) ?_; simp only [aP,lI,l0,lS]; refine xpL (.int .i64 p) ?_
     refine xaL (.int .i64 ((onM o p:Nat):Int)) (minI .i64 .i64 _ _ _ _ _ _ _ rfl rfl rfl (by split <;> omega) _) ?_; refine xpL (.int .i64 ((onM o p:Nat):Int)) ?_; refine xT ?_; go_upto_region 5 with fail; refine wp_region_list ?_; refine xpL (.int .i64 ((onM o p:Nat):Int)) ?_; refine xaL (.bool false) (lssI .i64 _ _ _ _ _ _ rfl rfl rfl false (decide_eq_false (by omega)) _) ?_
     refine xT ?_; go_upto_region 7 with fail; refine wp_region_list ?_; refine xpL (.pointer (some ⟨B15,0,none⟩)) ?_; refine xaL (.int .i64 ((o.sent:Nat):Int)) (load1 3 _ ⟨B15,0,none⟩ _ rfl rfl (fun _=>by kernel_rfl) (M.get mS 0 _ rfl)) ?_; refine xpL (.int .i64 ((onM o p:Nat):Int)) ?_
     refine xaL (.int .i64 ((o.sent+onM o p:Nat):Int)) (addI .i64 _ _ _ _ _ _ _ rfl rfl rfl (by rw [xw6]; omega) _) ?_; refine xpL (.pointer (some ⟨B15,1,none⟩)) ?_; refine skipOpL rfl (storeAny (.int .i64 ((o.sent+onM o p:Nat):Int)) B15 1 3 _ _ rfl rfl rfl rfl rfl (M.isSome mS 1 (by simp)) (M.free mS 1 (by simp)) (by kernel_rfl)) ?_; simp only [Act.put]
     replace M:=M.set 1 (by simp) (.int .i64 ((o.sent+onM o p:Nat):Int)); replace V_g:=ownsRow_away V_g ((Off.refl [B15] _).set (b:=B15) mS 1 (.int .i64 ((o.sent+onM o p:Nat):Int))) (fun b_ hb_=>by obtain rfl:=xm1 hb_; exact M.awayB (fun p_ hp_=>by simp [hp_]))
     replace V_a:=ownsRow_away V_a ((Off.refl [B15] _).set (b:=B15) mS 1 (.int .i64 ((o.sent+onM o p:Nat):Int))) (fun b_ hb_=>by obtain rfl:=xm1 hb_; exact M.awayB (fun p_ hp_=>by simp [hp_]))
     replace W_b:=W_b.off ((Off.refl [B15] _).set (b:=B15) mS 1 (.int .i64 ((o.sent+onM o p:Nat):Int))) (fun b_ hb_=>by obtain rfl:=xm1 hb_; exact M.awayB (fun p_ hp_=>by simp [hp_])); replace OF:=OF.and1 ((Off.refl [B15] _).set (b:=B15) mS 1 (.int .i64 ((o.sent+onM o p:Nat):Int))) (.inr hB_B15)
     generalize w19.setCell ⟨B15,1,none⟩ (.int .i64 ((o.sent+onM o p:Nat):Int))=w21 at M V_g V_a W_b OF L_g L_a L_b ⊢
     replace M:Mm w0 ((B15,[.int .i64 ((o.sent:Nat):Int),.int .i64 ((o.sent+onM o p:Nat):Int)])::(R,[.int .i64 ((obase o:Nat):Int),.slice sb (o.b.length-obase o) cb,.int .i64 s,.int .i64 o.lim,.int .i64 ((o.sent:Nat):Int),.slice sg G.length cg,.slice sa A.length ca])::(B1,[.int .i64 0,.slice none 0 0])::((obs sg)++((obs sa)++((obs sb)++l)))) w21:=M
     refine xT ?_; go_upto_region 8 with fail; have hdr:=(Below.refl w21.heap.size w21).drew; replace M:=M.drew; replace V_g:=ownsRow_bel V_g hdr; replace V_a:=ownsRow_bel V_a hdr; replace W_b:=W_b.bel hdr; replace OF:=OF.below hdr; clear hdr
     refine wp_region_C (S:=fun w'=>Mm w0 [(B15,[.int .i64 ((o.sent:Nat):Int),.int .i64 ((o.sent+onM o p:Nat):Int)]),(R,[.int .i64 ((obase o:Nat):Int),.slice sb (o.b.length-obase o) cb,.int .i64 s,.int .i64 o.lim,.int .i64 ((o.sent:Nat):Int),.slice sg G.length cg,.slice sa A.length ca]),(B1,[.int .i64 0,.slice none 0 0])] w') 7 (by kernel_rfl) (M.sub _ (List.cons_sublist_cons.2 (List.cons_sublist_cons.2 (List.cons_sublist_cons.2 (List.nil_sublist _))))) ?_
     intro _; generalize w21.drew=w22 at M V_g V_a W_b OF ⊢; refine xqC 0 51 rfl (.pointer (some ⟨R,0,none⟩)) (fun _=>(by kernel_rfl)) (M.sub _ (List.cons_sublist_cons.2 (List.cons_sublist_cons.2 (List.cons_sublist_cons.2 (List.nil_sublist _))))) ?_
     refine xqC 1 52 rfl (.pointer (some ⟨R,0,none⟩)) (fun _=>(by kernel_rfl)) (M.sub _ (List.cons_sublist_cons.2 (List.cons_sublist_cons.2 (List.cons_sublist_cons.2 (List.nil_sublist _))))) ?_
     refine readC (i:=2) (some 53) rfl (.pointer (some ⟨R,5,none⟩)) rfl rfl (by kernel_rfl) rfl (fun _ hS=>(by kernel_rfl)) (by kernel_rfl) (by kernel_rfl) (by kernel_rfl) (by kernel_rfl) (fun _ _ _ h=>h) (M.sub _ (List.cons_sublist_cons.2 (List.cons_sublist_cons.2 (List.cons_sublist_cons.2 (List.nil_sublist _))))) ?_; simp only [aP,lI,l0,lS]
     refine xqC 3 54 rfl (.pointer (some ⟨B15,0,none⟩)) (fun _=>(by kernel_rfl)) (M.sub _ (List.cons_sublist_cons.2 (List.cons_sublist_cons.2 (List.cons_sublist_cons.2 (List.nil_sublist _))))) ?_
     refine readC (i:=4) (some 55) rfl (.int .i64 ((o.sent:Nat):Int)) rfl rfl (by kernel_rfl) rfl (fun _ hS=>load1 3 _ ⟨B15,0,none⟩ _ rfl rfl (fun _=>by kernel_rfl) (hS.get mS 0 _ rfl)) (by kernel_rfl) (by kernel_rfl) (by kernel_rfl) (by kernel_rfl) (fun _ _ _ h=>h) (M.sub _ (List.cons_sublist_cons.2 (List.cons_sublist_cons.2 (List.cons_sublist_cons.2 (List.nil_sublist _))))) ?_
     simp only [aP,lI,l0,lS]; refine xqC 5 56 rfl (.pointer (some ⟨B15,1,none⟩)) (fun _=>(by kernel_rfl)) (M.sub _ (List.cons_sublist_cons.2 (List.cons_sublist_cons.2 (List.cons_sublist_cons.2 (List.nil_sublist _))))) ?_
     refine readC (i:=6) (some 57) rfl (.int .i64 ((o.sent+onM o p:Nat):Int)) rfl rfl (by kernel_rfl) rfl (fun _ hS=>load1 3 _ ⟨B15,1,none⟩ _ rfl rfl (fun _=>by kernel_rfl) (hS.get mS 1 _ rfl)) (by kernel_rfl) (by kernel_rfl) (by kernel_rfl) (by kernel_rfl) (fun _ _ _ h=>h) (M.sub _ (List.cons_sublist_cons.2 (List.cons_sublist_cons.2 (List.cons_sublist_cons.2 (List.nil_sublist _))))) ?_
     simp only [aP,lI,l0,lS]; replace M:=M.swap
     have Mq:Mm w0 ((R,[.int .i64 ((obase o:Nat):Int),.slice sb (o.b.length-obase o) cb,.int .i64 s,.int .i64 o.lim,.int .i64 ((o.sent:Nat):Int),.slice sg G.length cg,.slice sa A.length ca])::((obs sg)++(([(B15,[.int .i64 ((o.sent:Nat):Int),.int .i64 ((o.sent+onM o p:Nat):Int)]),(B1,[.int .i64 0,.slice none 0 0])]:List (Nat × List Value))++((obs sa)++((obs sb)++l))))) w22:=(M.perm (pull0 ([(R,[.int .i64 ((obase o:Nat):Int),.slice sb (o.b.length-obase o) cb,.int .i64 s,.int .i64 o.lim,.int .i64 ((o.sent:Nat):Int),.slice sg G.length cg,.slice sa A.length ca]),(B15,[.int .i64 ((o.sent:Nat):Int),.int .i64 ((o.sent+onM o p:Nat):Int)]),(B1,[.int .i64 0,.slice none 0 0])]:List (Nat × List Value)) (obs sg) ((obs sa)++((obs sb)++l)))).perm List.perm_middle
     have key:=vadd_any w0 _ R 5 sg cg G _ hr.cg hlg ((o.sent:Nat):Int) ((o.sent+onM o p:Nat):Int) Mq rfl V_g; refine callC (S2:=fun _=>True) (some 58) rfl (by kernel_rfl) rfl rfl (fun _=>by kernel_rfl) key (by kernel_rfl) ?_; clear key; rintro e w23 ⟨p23,c23,rfl,M2,V2,o2,hLs⟩; replace V_a:=ownsRow_away V_a o2 (Mq.awayRO (fun p_ hp_=>by simp [hp_]))
     replace W_b:=W_b.off o2 (Mq.awayRO (fun p_ hp_=>by simp [hp_])); have hsz_:=OF.size; replace OF:=OF.andR o2 hRX L_g; have L2_:=L_g.rep hLs hsz_; clear M Mq V_g L_g o2 hLs hsz_; have V_g:=V2; have L_g:=L2_; clear V2 L2_
     replace M2:Mm w0 ((R,[.int .i64 ((obase o:Nat):Int),.slice sb (o.b.length-obase o) cb,.int .i64 s,.int .i64 o.lim,.int .i64 ((o.sent:Nat):Int),.slice p23 ((rad G ((o.sent:Nat):Int) ((o.sent+onM o p:Nat):Int)).length) c23,.slice sa A.length ca])::((obs p23)++(([(B15,[.int .i64 ((o.sent:Nat):Int),.int .i64 ((o.sent+onM o p:Nat):Int)]),(B1,[.int .i64 0,.slice none 0 0])]:List (Nat × List Value))++((obs sa)++((obs sb)++l))))) w23:=M2
     have M:Mm w0 ((R,[.int .i64 ((obase o:Nat):Int),.slice sb (o.b.length-obase o) cb,.int .i64 s,.int .i64 o.lim,.int .i64 ((o.sent:Nat):Int),.slice p23 ((rad G ((o.sent:Nat):Int) ((o.sent+onM o p:Nat):Int)).length) c23,.slice sa A.length ca])::(B15,[.int .i64 ((o.sent:Nat):Int),.int .i64 ((o.sent+onM o p:Nat):Int)])::(B1,[.int .i64 0,.slice none 0 0])::((obs p23)++((obs sa)++((obs sb)++l)))) w23:=(M2.perm List.perm_middle.symm).perm (pull0 ([(R,[.int .i64 ((obase o:Nat):Int),.slice sb (o.b.length-obase o) cb,.int .i64 s,.int .i64 o.lim,.int .i64 ((o.sent:Nat):Int),.slice p23 ((rad G ((o.sent:Nat):Int) ((o.sent+onM o p:Nat):Int)).length) c23,.slice sa A.length ca]),(B15,[.int .i64 ((o.sent:Nat):Int),.int .i64 ((o.sent+onM o p:Nat):Int)]),(B1,[.int .i64 0,.slice none 0 0])]:List (Nat × List Value)) (obs p23) ((obs sa)++((obs sb)++l))).symm
     clear M2
     refine ⟨_,rfl,?_⟩
     simp only [aP,lI,l0,lS]
     refine wpAnyH_done (by kernel_rfl) ?_ _
     first | show Exit.then _ _ _ _ _ | show Exit.inBlock _ _ _ _ _
     go_upto_region 9 with fail; have hdr:=(Below.refl w23.heap.size w23).drew; replace M:=M.drew; replace V_g:=ownsRow_bel V_g hdr; replace V_a:=ownsRow_bel V_a hdr; replace W_b:=W_b.bel hdr; replace OF:=OF.below hdr; clear hdr
     refine wp_region_C (S:=fun w'=>Mm w0 [(R,[.int .i64 ((obase o:Nat):Int),.slice sb (o.b.length-obase o) cb,.int .i64 s,.int .i64 o.lim,.int .i64 ((o.sent:Nat):Int),.slice p23 ((rad G ((o.sent:Nat):Int) ((o.sent+onM o p:Nat):Int)).length) c23,.slice sa A.length ca]),(B15,[.int .i64 ((o.sent:Nat):Int),.int .i64 ((o.sent+onM o p:Nat):Int)]),(B1,[.int .i64 0,.slice none 0 0])] w') 10 (by kernel_rfl) (M.sub _ (List.cons_sublist_cons.2 (List.cons_sublist_cons.2 (List.cons_sublist_cons.2 (List.nil_sublist _))))) ?_
     intro _; generalize w23.drew=w24 at M V_g V_a W_b OF ⊢; refine readC (i:=0) (some 59) rfl (.pointer (some ⟨R,0,none⟩)) rfl rfl (by kernel_rfl) rfl (fun _ hS=>(by kernel_rfl)) (by kernel_rfl) (by kernel_rfl) (by kernel_rfl) (by kernel_rfl) (fun _ _ _ h=>h) (M.sub _ (List.cons_sublist_cons.2 (List.cons_sublist_cons.2 (List.cons_sublist_cons.2 (List.nil_sublist _))))) ?_
     simp only [aP,lI,l0,lS]; refine readC (i:=1) (some 60) rfl (.pointer (some ⟨R,0,none⟩)) rfl rfl (by kernel_rfl) rfl (fun _ hS=>(by kernel_rfl)) (by kernel_rfl) (by kernel_rfl) (by kernel_rfl) (by kernel_rfl) (fun _ _ _ h=>h) (M.sub _ (List.cons_sublist_cons.2 (List.cons_sublist_cons.2 (List.cons_sublist_cons.2 (List.nil_sublist _))))) ?_; simp only [aP,lI,l0,lS]
     refine readC (i:=2) (some 61) rfl (.pointer (some ⟨R,0,none⟩)) rfl rfl (by kernel_rfl) rfl (fun _ hS=>(by kernel_rfl)) (by kernel_rfl) (by kernel_rfl) (by kernel_rfl) (by kernel_rfl) (fun _ _ _ h=>h) (M.sub _ (List.cons_sublist_cons.2 (List.cons_sublist_cons.2 (List.cons_sublist_cons.2 (List.nil_sublist _))))) ?_; simp only [aP,lI,l0,lS]
     refine readC (i:=3) (some 62) rfl (.pointer (some ⟨R,4,none⟩)) rfl rfl (by kernel_rfl) rfl (fun _ hS=>(by kernel_rfl)) (by kernel_rfl) (by kernel_rfl) (by kernel_rfl) (by kernel_rfl) (fun _ _ _ h=>h) (M.sub _ (List.cons_sublist_cons.2 (List.cons_sublist_cons.2 (List.cons_sublist_cons.2 (List.nil_sublist _))))) ?_; simp only [aP,lI,l0,lS]
     refine readC (i:=4) (some 63) rfl (.int .i64 ((o.sent:Nat):Int)) rfl rfl (by kernel_rfl) rfl (fun _ hS=>load1 3 _ ⟨R,4,none⟩ _ rfl rfl (fun _=>by kernel_rfl) (hS.get mS 4 _ rfl)) (by kernel_rfl) (by kernel_rfl) (by kernel_rfl) (by kernel_rfl) (fun _ _ _ h=>h) (M.sub _ (List.cons_sublist_cons.2 (List.cons_sublist_cons.2 (List.cons_sublist_cons.2 (List.nil_sublist _))))) ?_
     simp only [aP,lI,l0,lS]; refine readC (i:=5) (some 64) rfl (.pointer (some ⟨B15,1,none⟩)) rfl rfl (by kernel_rfl) rfl (fun _ hS=>(by kernel_rfl)) (by kernel_rfl) (by kernel_rfl) (by kernel_rfl) (by kernel_rfl) (fun _ _ _ h=>h) (M.sub _ (List.cons_sublist_cons.2 (List.cons_sublist_cons.2 (List.cons_sublist_cons.2 (List.nil_sublist _))))) ?_; simp only [aP,lI,l0,lS]
     refine readC (i:=6) (some 65) rfl (.int .i64 ((o.sent+onM o p:Nat):Int)) rfl rfl (by kernel_rfl) rfl (fun _ hS=>load1 3 _ ⟨B15,1,none⟩ _ rfl rfl (fun _=>by kernel_rfl) (hS.get (mT _ mS) 1 _ rfl)) (by kernel_rfl) (by kernel_rfl) (by kernel_rfl) (by kernel_rfl) (fun _ _ _ h=>h) (M.sub _ (List.cons_sublist_cons.2 (List.cons_sublist_cons.2 (List.cons_sublist_cons.2 (List.nil_sublist _))))) ?_
     simp only [aP,lI,l0,lS]
     refine readC (i:=7) (some 66) rfl (.int .i64 ((o.sent+onM o p:Nat):Int)) rfl rfl (by kernel_rfl) rfl (fun _ hS=>maxI .i64 .i64 _ _ _ _ _ _ _ rfl rfl rfl (by split <;> omega) _) (by kernel_rfl) (by kernel_rfl) (by kernel_rfl) (by kernel_rfl) (fun _ _ _ h=>h) (M.sub _ (List.cons_sublist_cons.2 (List.cons_sublist_cons.2 (List.cons_sublist_cons.2 (List.nil_sublist _))))) ?_
     simp only [aP,lI,l0,lS]; refine xqC 8 67 rfl (.pointer (some ⟨R,0,none⟩)) (fun _=>(by kernel_rfl)) (M.sub _ (List.cons_sublist_cons.2 (List.cons_sublist_cons.2 (List.cons_sublist_cons.2 (List.nil_sublist _))))) ?_
     refine readC (i:=9) (some 68) rfl (.pointer (some ⟨R,4,none⟩)) rfl rfl (by kernel_rfl) rfl (fun _ hS=>(by kernel_rfl)) (by kernel_rfl) (by kernel_rfl) (by kernel_rfl) (by kernel_rfl) (fun _ _ _ h=>h) (M.sub _ (List.cons_sublist_cons.2 (List.cons_sublist_cons.2 (List.cons_sublist_cons.2 (List.nil_sublist _))))) ?_; simp only [aP,lI,l0,lS]
     refine skipC (S2:=fun _=>True) none rfl (by kernel_rfl) rfl rfl (storeAny (.int .i64 ((o.sent+onM o p:Nat):Int)) R 4 3 _ _ rfl rfl rfl rfl rfl (M.isSome mS 4 (by simp)) (M.free mS 4 (by simp)) (by kernel_rfl)) (by kernel_rfl) ?_; simp only [Act.put]; replace M:=M.set 4 (by simp) (.int .i64 ((o.sent+onM o p:Nat):Int))
     replace V_g:=ownsRow_away V_g ((Off.refl [R] _).set (b:=R) mS 4 (.int .i64 ((o.sent+onM o p:Nat):Int))) (fun b_ hb_=>by obtain rfl:=xm1 hb_; exact M.awayB (fun p_ hp_=>by simp [hp_]))
     replace V_a:=ownsRow_away V_a ((Off.refl [R] _).set (b:=R) mS 4 (.int .i64 ((o.sent+onM o p:Nat):Int))) (fun b_ hb_=>by obtain rfl:=xm1 hb_; exact M.awayB (fun p_ hp_=>by simp [hp_])); replace W_b:=W_b.off ((Off.refl [R] _).set (b:=R) mS 4 (.int .i64 ((o.sent+onM o p:Nat):Int))) (fun b_ hb_=>by obtain rfl:=xm1 hb_; exact M.awayB (fun p_ hp_=>by simp [hp_]))
     replace OF:=OF.and1 ((Off.refl [R] _).set (b:=R) mS 4 (.int .i64 ((o.sent+onM o p:Nat):Int))) (.inl hRX); generalize w24.setCell ⟨R,4,none⟩ (.int .i64 ((o.sent+onM o p:Nat):Int))=w25 at M V_g V_a W_b OF ⊢
     replace M:Mm w0 ((R,[.int .i64 ((obase o:Nat):Int),.slice sb (o.b.length-obase o) cb,.int .i64 s,.int .i64 o.lim,.int .i64 ((o.sent+onM o p:Nat):Int),.slice p23 ((rad G ((o.sent:Nat):Int) ((o.sent+onM o p:Nat):Int)).length) c23,.slice sa A.length ca])::(B15,[.int .i64 ((o.sent:Nat):Int),.int .i64 ((o.sent+onM o p:Nat):Int)])::(B1,[.int .i64 0,.slice none 0 0])::((obs p23)++((obs sa)++((obs sb)++l)))) w25:=M
     refine wpAnyH_done (by kernel_rfl) ?_ _
     first | show Exit.then _ _ _ _ _ | show Exit.inBlock _ _ _ _ _
     go_upto_region 10 with fail; have hdr:=(Below.refl w25.heap.size w25).drew; replace M:=M.drew; replace V_g:=ownsRow_bel V_g hdr; replace V_a:=ownsRow_bel V_a hdr; replace W_b:=W_b.bel hdr; replace OF:=OF.below hdr; clear hdr
     refine wp_region_C (S:=fun w'=>Mm w0 [(R,[.int .i64 ((obase o:Nat):Int),.slice sb (o.b.length-obase o) cb,.int .i64 s,.int .i64 o.lim,.int .i64 ((o.sent+onM o p:Nat):Int),.slice p23 ((rad G ((o.sent:Nat):Int) ((o.sent+onM o p:Nat):Int)).length) c23,.slice sa A.length ca]),(B15,[.int .i64 ((o.sent:Nat):Int),.int .i64 ((o.sent+onM o p:Nat):Int)]),(B1,[.int .i64 0,.slice none 0 0])] w') 11 (by kernel_rfl) (M.sub _ (List.cons_sublist_cons.2 (List.cons_sublist_cons.2 (List.cons_sublist_cons.2 (List.nil_sublist _))))) ?_
     intro _; generalize w25.drew=w26 at M V_g V_a W_b OF ⊢; refine readC (i:=0) (some 69) rfl (.pointer (some ⟨B15,0,none⟩)) rfl rfl (by kernel_rfl) rfl (fun _ hS=>(by kernel_rfl)) (by kernel_rfl) (by kernel_rfl) (by kernel_rfl) (by kernel_rfl) (fun _ _ _ h=>h) (M.sub _ (List.cons_sublist_cons.2 (List.cons_sublist_cons.2 (List.cons_sublist_cons.2 (List.nil_sublist _))))) ?_
     simp only [aP,lI,l0,lS]
     refine readC (i:=1) (some 70) rfl (.int .i64 ((o.sent:Nat):Int)) rfl rfl (by kernel_rfl) rfl (fun _ hS=>load1 3 _ ⟨B15,0,none⟩ _ rfl rfl (fun _=>by kernel_rfl) (hS.get (mT _ mS) 0 _ rfl)) (by kernel_rfl) (by kernel_rfl) (by kernel_rfl) (by kernel_rfl) (fun _ _ _ h=>h) (M.sub _ (List.cons_sublist_cons.2 (List.cons_sublist_cons.2 (List.cons_sublist_cons.2 (List.nil_sublist _))))) ?_
     simp only [aP,lI,l0,lS]; refine readC (i:=2) (some 71) rfl (.pointer (some ⟨R,0,none⟩)) rfl rfl (by kernel_rfl) rfl (fun _ hS=>(by kernel_rfl)) (by kernel_rfl) (by kernel_rfl) (by kernel_rfl) (by kernel_rfl) (fun _ _ _ h=>h) (M.sub _ (List.cons_sublist_cons.2 (List.cons_sublist_cons.2 (List.cons_sublist_cons.2 (List.nil_sublist _))))) ?_; simp only [aP,lI,l0,lS]
     refine readC (i:=3) (some 72) rfl (.pointer (some ⟨R,0,none⟩)) rfl rfl (by kernel_rfl) rfl (fun _ hS=>(by kernel_rfl)) (by kernel_rfl) (by kernel_rfl) (by kernel_rfl) (by kernel_rfl) (fun _ _ _ h=>h) (M.sub _ (List.cons_sublist_cons.2 (List.cons_sublist_cons.2 (List.cons_sublist_cons.2 (List.nil_sublist _))))) ?_; simp only [aP,lI,l0,lS]
     refine readC (i:=4) (some 73) rfl (.pointer (some ⟨R,0,none⟩)) rfl rfl (by kernel_rfl) rfl (fun _ hS=>(by kernel_rfl)) (by kernel_rfl) (by kernel_rfl) (by kernel_rfl) (by kernel_rfl) (fun _ _ _ h=>h) (M.sub _ (List.cons_sublist_cons.2 (List.cons_sublist_cons.2 (List.cons_sublist_cons.2 (List.nil_sublist _))))) ?_; simp only [aP,lI,l0,lS]
     refine readC (i:=5) (some 74) rfl (.pointer (some ⟨B15,0,none⟩)) rfl rfl (by kernel_rfl) rfl (fun _ hS=>(by kernel_rfl)) (by kernel_rfl) (by kernel_rfl) (by kernel_rfl) (by kernel_rfl) (fun _ _ _ h=>h) (M.sub _ (List.cons_sublist_cons.2 (List.cons_sublist_cons.2 (List.cons_sublist_cons.2 (List.nil_sublist _))))) ?_; simp only [aP,lI,l0,lS]
     refine readC (i:=6) (some 75) rfl (.int .i64 ((o.sent:Nat):Int)) rfl rfl (by kernel_rfl) rfl (fun _ hS=>load1 3 _ ⟨B15,0,none⟩ _ rfl rfl (fun _=>by kernel_rfl) (hS.get (mT _ mS) 0 _ rfl)) (by kernel_rfl) (by kernel_rfl) (by kernel_rfl) (by kernel_rfl) (fun _ _ _ h=>h) (M.sub _ (List.cons_sublist_cons.2 (List.cons_sublist_cons.2 (List.cons_sublist_cons.2 (List.nil_sublist _))))) ?_
     simp only [aP,lI,l0,lS]; refine readC (i:=7) (some 76) rfl (.pointer (some ⟨B15,1,none⟩)) rfl rfl (by kernel_rfl) rfl (fun _ hS=>(by kernel_rfl)) (by kernel_rfl) (by kernel_rfl) (by kernel_rfl) (by kernel_rfl) (fun _ _ _ h=>h) (M.sub _ (List.cons_sublist_cons.2 (List.cons_sublist_cons.2 (List.cons_sublist_cons.2 (List.nil_sublist _))))) ?_; simp only [aP,lI,l0,lS]
     refine readC (i:=8) (some 77) rfl (.int .i64 ((o.sent+onM o p:Nat):Int)) rfl rfl (by kernel_rfl) rfl (fun _ hS=>load1 3 _ ⟨B15,1,none⟩ _ rfl rfl (fun _=>by kernel_rfl) (hS.get (mT _ mS) 1 _ rfl)) (by kernel_rfl) (by kernel_rfl) (by kernel_rfl) (by kernel_rfl) (fun _ _ _ h=>h) (M.sub _ (List.cons_sublist_cons.2 (List.cons_sublist_cons.2 (List.cons_sublist_cons.2 (List.nil_sublist _))))) ?_
     simp only [aP,lI,l0,lS]; have key:=vpiece18 R (obase o) (o.b.length-obase o) sb cb (fun j=>bl o.b (obase o+j)) (o.sent) (o.sent+onM o p) _ (M.get mS 0 _ rfl) (M.get mS 1 _ rfl) W_b (by omega) (by omega) (by omega) (by omega)
     rw [show o.sent+onM o p-o.sent=(onB o p).length by omega] at key
     refine callMC (i:=9) (some 78) rfl (by kernel_rfl) rfl rfl (fun _=>by kernel_rfl) key ?_; clear key; rintro e w27 ⟨Bp,rfl,hBp,Q_b,l_⟩
     have hBq:w.heap.size≤Bp:=xnT OF.size hBp
     have M':=M.newO (sp:=some ⟨Bp,0,none⟩) l_ (fun x_ hx_=>by obtain rfl:=xm1 hx_; exact ⟨hBp,Q_b.lt _ mS⟩)
     replace V_g:=ownsRow_bel V_g l_; replace V_a:=ownsRow_bel V_a l_; replace W_b:=W_b.bel l_; replace OF:=OF.below l_; clear l_ M hBp
     have M:Mm w0 ((R,[.int .i64 ((obase o:Nat):Int),.slice sb (o.b.length-obase o) cb,.int .i64 s,.int .i64 o.lim,.int .i64 ((o.sent+onM o p:Nat):Int),.slice p23 ((rad G ((o.sent:Nat):Int) ((o.sent+onM o p:Nat):Int)).length) c23,.slice sa A.length ca])::(B15,[.int .i64 ((o.sent:Nat):Int),.int .i64 ((o.sent+onM o p:Nat):Int)])::(B1,[.int .i64 0,.slice none 0 0])::((obs (some ⟨Bp,0,none⟩))++((obs p23)++((obs sa)++((obs sb)++l))))) w27:=M'.perm (pull0 ([(R,[.int .i64 ((obase o:Nat):Int),.slice sb (o.b.length-obase o) cb,.int .i64 s,.int .i64 o.lim,.int .i64 ((o.sent+onM o p:Nat):Int),.slice p23 ((rad G ((o.sent:Nat):Int) ((o.sent+onM o p:Nat):Int)).length) c23,.slice sa A.length ca]),(B15,[.int .i64 ((o.sent:Nat):Int),.int .i64 ((o.sent+onM o p:Nat):Int)]),(B1,[.int .i64 0,.slice none 0 0])]:List (Nat × List Value)) (obs (some ⟨Bp,0,none⟩)) ((obs p23)++((obs sa)++((obs sb)++l)))).symm
     clear M'
     refine ⟨_,rfl,(M.sub _ (List.cons_sublist_cons.2 (List.cons_sublist_cons.2 (List.cons_sublist_cons.2 (List.nil_sublist _))))),?_⟩
     simp only [aP,lI,l0,lS]
     refine readC (i:=10) (some 79) rfl (.agg #[.int .i64 ((o.sent:Nat):Int),.slice (some ⟨Bp,0,none⟩) ((onB o p).length) ((onB o p).length)]) rfl rfl (by kernel_rfl) rfl (fun _ hS=>(by kernel_rfl)) (by kernel_rfl) (by kernel_rfl) (by kernel_rfl) (by kernel_rfl) (fun _ _ _ h=>h) (M.sub _ (List.cons_sublist_cons.2 (List.cons_sublist_cons.2 (List.cons_sublist_cons.2 (List.nil_sublist _))))) ?_
     simp only [aP,lI,l0,lS]; replace M:=M.rot3
     refine skipC (S2:=fun _=>True) none rfl (by kernel_rfl) rfl rfl (storeP [.int .i64 ((o.sent:Nat):Int),.slice (some ⟨Bp,0,none⟩) ((onB o p).length) ((onB o p).length)] B1 0 35 _ _ rfl rfl rfl (M.thereP mS 0 2 (Nat.le_of_ble_eq_true rfl)) (by kernel_rfl) (List.all_eq_true.1 (rfl:([.int .i64 ((o.sent:Nat):Int),.slice (some ⟨Bp,0,none⟩) ((onB o p).length) ((onB o p).length)]:List Value).all (fun u=>u.oneCell')=true))) (by kernel_rfl) ?_
     simp only [Act.put]; replace M:=M.setPart [.int .i64 ((o.sent:Nat):Int),.slice (some ⟨Bp,0,none⟩) ((onB o p).length) ((onB o p).length)] 0 (Nat.le_of_ble_eq_true rfl)
     replace V_g:=ownsRow_away V_g ((Off.refl [B1] _).setAll (b:=B1) mS 0 [.int .i64 ((o.sent:Nat):Int),.slice (some ⟨Bp,0,none⟩) ((onB o p).length) ((onB o p).length)]) (fun b_ hb_=>by obtain rfl:=xm1 hb_; exact M.awayB (fun p_ hp_=>by simp [hp_]))
     replace V_a:=ownsRow_away V_a ((Off.refl [B1] _).setAll (b:=B1) mS 0 [.int .i64 ((o.sent:Nat):Int),.slice (some ⟨Bp,0,none⟩) ((onB o p).length) ((onB o p).length)]) (fun b_ hb_=>by obtain rfl:=xm1 hb_; exact M.awayB (fun p_ hp_=>by simp [hp_]))
     replace W_b:=W_b.off ((Off.refl [B1] _).setAll (b:=B1) mS 0 [.int .i64 ((o.sent:Nat):Int),.slice (some ⟨Bp,0,none⟩) ((onB o p).length) ((onB o p).length)]) (fun b_ hb_=>by obtain rfl:=xm1 hb_; exact M.awayB (fun p_ hp_=>by simp [hp_]))
     replace OF:=OF.and1 ((Off.refl [B1] _).setAll (b:=B1) mS 0 [.int .i64 ((o.sent:Nat):Int),.slice (some ⟨Bp,0,none⟩) ((onB o p).length) ((onB o p).length)]) (.inr hB_B1)
     replace Q_b:=Q_b.off ((Off.refl [B1] _).setAll (b:=B1) mS 0 [.int .i64 ((o.sent:Nat):Int),.slice (some ⟨Bp,0,none⟩) ((onB o p).length) ((onB o p).length)]) (fun b_ hb_=>by obtain rfl:=xm1 hb_; exact M.awayB (fun p_ hp_=>by simp [hp_]))
     generalize w27.setCells B1 0 [.int .i64 ((o.sent:Nat):Int),.slice (some ⟨Bp,0,none⟩) ((onB o p).length) ((onB o p).length)]=w28 at M V_g V_a W_b OF Q_b ⊢
     replace M:Mm w0 ((B1,[.int .i64 ((o.sent:Nat):Int),.slice (some ⟨Bp,0,none⟩) ((onB o p).length) ((onB o p).length)])::(R,[.int .i64 ((obase o:Nat):Int),.slice sb (o.b.length-obase o) cb,.int .i64 s,.int .i64 o.lim,.int .i64 ((o.sent+onM o p:Nat):Int),.slice p23 ((rad G ((o.sent:Nat):Int) ((o.sent+onM o p:Nat):Int)).length) c23,.slice sa A.length ca])::(B15,[.int .i64 ((o.sent:Nat):Int),.int .i64 ((o.sent+onM o p:Nat):Int)])::((obs (some ⟨Bp,0,none⟩))++((obs p23)++((obs sa)++((obs sb)++l))))) w28:=M
     refine xrH 12 5 rfl (.bool true) (fun _ _=>(by kernel_rfl)) trivial ?_
     refine wpAnyH_done (by kernel_rfl) ?_ _
     first | show Exit.then _ _ _ _ _ | show Exit.inBlock _ _ _ _ _
     have c1_:=M.part mS 0 [.int .i64 ((o.sent:Nat):Int),.slice (some ⟨Bp,0,none⟩) ((onB o p).length) ((onB o p).length)] rfl; replace M:=M.swap
     replace M:Mm w0 ((R,[.int .i64 ((obase o:Nat):Int),.slice sb (o.b.length-obase o) cb,.int .i64 s,.int .i64 o.lim,.int .i64 ((o.sent+onM o p:Nat):Int),.slice p23 ((rad G ((o.sent:Nat):Int) ((o.sent+onM o p:Nat):Int)).length) c23,.slice sa A.length ca])::((obs (some ⟨Bp,0,none⟩))++((obs p23)++((obs sa)++((obs sb)++l))))) w28:=M.sub _ (List.cons_sublist_cons.2 (List.Sublist.cons _ (List.Sublist.cons _ ((List.Sublist.refl _).append ((List.Sublist.refl _).append ((List.Sublist.refl _).append ((List.Sublist.refl _).append (List.Sublist.refl _))))))))
     have hOR:=hr.nxN hw hln hp1 hA
     have hNL:NewF w28 w.heap.size (onB o p).length (bl (onB o p)) (.slice (some ⟨Bp,0,none⟩) (onB o p).length (onB o p).length):=(Q_b.newF (base:=w.heap.size) (fun b_ hb_=>by obtain rfl:=xm1 hb_; exact hBq)).congr (fun j_ hj_=>by
      show bl o.b (obase o+(o.sent-obase o+j_))=_
      rw [show obase o+(o.sent-obase o+j_)=o.sent+j_ by omega]
      exact hbl_ j_ (by omega))
     have hWt:=Q_b.wrt
     have e5_:(onx o p).sent=o.sent+onM o p:=by rw [onx_new hp1 hA]
     rw [← e5_] at M V_g hOR
     rw [hXS] at OF
     have HS:=show Hid _ from (show _∧_∧_∧_∧_∧_ from ⟨hOR,M,W_b,V_g,V_a,OF⟩); have HN:=show Hid _ from (And.intro hNL hWt); have hFN:=show Hid _ from (show onF o p=o.sent∧decide (0<onN o p)=true from ⟨hF_,decide_eq_true (by omega)⟩); clear M W_b V_g V_a OF L_g L_a L_b Q_b hNL hWt hOR hF_ hBl_ hN_ hbl_ e5_; go_wp2
     refine bodyPost_ret (v:=.tuple #[.agg #[.int .i64 ((o.sent:Nat):Int),.slice (some ⟨Bp,0,none⟩) ((onB o p).length) ((onB o p).length)],.bool true]) (retCellTmp 4 5 35 ⟨B1,0,none⟩ [.int .i64 ((o.sent:Nat):Int),.slice (some ⟨Bp,0,none⟩) ((onB o p).length) ((onB o p).length)] _ rfl rfl rfl (fun _=>by kernel_rfl) (fun _=>by kernel_rfl) c1_) rfl ?_
     exact ⟨_,_,by rw [hFN.out.1,hFN.out.2],HN.out.1,HN.out.2,_,_,_,HS.out⟩
def pcl (o:Obx) (s:Int) (sb:Option Addr) (cb:Nat) (sg:Option Addr) (cg:Nat) (sa:Option Addr) (ca:Nat) (G A:Rgs17):List Value:=[.int .i64 ((obase o:Nat):Int),.slice sb (o.b.length-obase o) cb,.int .i64 s,.int .i64 o.lim,.int .i64 ((o.sent:Nat):Int),.slice sg G.length cg,.slice sa A.length ca]
def PO18:OutI:=fun w v o bs=>∃ R s sb cb sg cg sa ca G A,v=.pointer (some ⟨R,0,none⟩)∧bs=(R,pcl o s sb cb sg cg sa ca G A)::(obs sg++(obs sa++obs sb))∧ORel o s G A∧Wnd w sb (o.b.length-obase o) cb (fun j=>bl o.b (obase o+j))∧w.ownsRow 0 49 2 (.slice sg G.length cg) G.length (wrc G)∧w.ownsRow 0 49 2 (.slice sa A.length ca) A.length (wrc A)
theorem po_app (R:Nat) (c:List Value) (a b d l:List (Nat × List Value)):((R,c)::(a++(b++d)))++l=(R,c)::(a++(b++(d++l))):=by rw [List.cons_append,List.append_assoc,List.append_assoc]
theorem po_fst (R:Nat) (c:List Value) (sg sa sb:Option Addr):((R,c)::(obs sg++(obs sa++obs sb))).map Prod.fst=R::(ob sg++(ob sa++ob sb)):=by
 rw [List.map_cons,List.map_append,List.map_append,obs_fst,obs_fst,obs_fst]
theorem PO18.off {w w':World} {v:Value} {o:Obx} {bs:List (Nat × List Value)} {X:List Nat} (hI:PO18 w v o bs) (f:Off X w w') (hX:∀ b∈X,b∉bs.map Prod.fst):PO18 w' v o bs:=by
 obtain ⟨R,s,sb,cb,sg,cg,sa,ca,G,A,rfl,rfl,hr,W_b,V_g,V_a⟩:=hI
 rw [po_fst] at hX
 exact ⟨R,s,sb,cb,sg,cg,sa,ca,G,A,rfl,rfl,hr,W_b.off f (fun b hb hm=>hX b hb (by simp [hm])),ownsRow_away V_g f (fun b hb hm=>hX b hb (by simp [hm])),ownsRow_away V_a f (fun b hb hm=>hX b hb (by simp [hm]))⟩
theorem pcl_owr {o:Obx} (hw:ObxW o) (b:List Int) (s:Int) (sb:Option Addr) (cb:Nat) (sg:Option Addr) (cg:Nat) (sa:Option Addr) (ca:Nat) (G A:Rgs17):pcl (owr o b) s sb cb sg cg sa ca G A=[.int .i64 ((obase o:Nat):Int),.slice sb (o.b.length-obase o+owN o b.length) cb,.int .i64 s,.int .i64 o.lim,.int .i64 ((o.sent:Nat):Int),.slice sg G.length cg,.slice sa A.length ca]:=by
 have h1:=obase_le o
 unfold pcl
 rw [obase_owr hw b,owr_len,show o.b.length+owN o b.length-obase o=o.b.length-obase o+owN o b.length by omega]
 rfl
theorem vout_any:OutOK PO18 where
 ptr:=fun _ _ _ _ h=>let ⟨R,_,_,_,_,_,_,_,_,_,e,_⟩:=h; ⟨R,e⟩
 off:=fun _ _ _ _ _ _ h f hX=>h.off f hX
 new:=fun w0 w l n _ M=>Calls.mono (vnewo18 w0 w l n M) fun e w' ⟨B,h1,h2,h3⟩=>⟨_,_,h1,⟨B,n,none,0,none,0,none,0,[],[],rfl,rfl,ORel.new n,Wnd.nil w' _,World.ownsRow_nil w' 0 49 2,World.ownsRow_nil w' 0 49 2⟩,h2,h3⟩
 wrt:=fun w0 w v o bs l sp cap b hw hln hbl hbc hbn _ hI M hs=>by
  obtain ⟨R,s,sb,cb,sg,cg,sa,ca,G,A,rfl,rfl,hr,W_b,V_g,V_a⟩:=hI
  rw [po_app] at M
  have hkb:=obase_le o; refine Calls.mono (vwrite18 w0 w R l (obase o) (o.b.length-obase o) o.sent s o.lim sb sg sa cb cg ca G A _ b sp cap (by omega) hbl hbc hbn (owN o b.length) (hr.room hw b.length) M W_b V_g V_a hs.1) fun e w' ⟨sb',cb',h1,M2,W2,Vg2,Va2,o2⟩=>?_
  rw [← pcl_owr hw b s sb' cb' sg cg sa ca G A] at M2
  have hl:=owr_len o b; have hk:=obase_owr hw b
  rw [show o.b.length-obase o+owN o b.length=(owr o b).b.length-obase (owr o b) by omega] at W2
  refine ⟨_,h1,⟨R,s,sb',cb',sg,cg,sa,ca,G,A,rfl,rfl,hr.wr b,W2.congr fun j hj=>?_,Vg2,Va2⟩,by rw [po_app]; exact M2,by rw [po_fst]; exact o2⟩
  rw [hk]
  rw [hk] at hj
  rw [← owr_bl o b (obase o+j) (by omega)]
  unfold app
  by_cases c:j<o.b.length-obase o
  · rw [if_pos c,if_pos (by omega)]
  · rw [if_neg c,if_neg (by omega),show obase o+j-o.b.length=j-(o.b.length-obase o) by omega]
 alw:=fun w0 w v o bs l n hw hln _ hI M=>by
  obtain ⟨R,s,sb,cb,sg,cg,sa,ca,G,A,rfl,rfl,hr,W_b,V_g,V_a⟩:=hI
  rw [po_app] at M
  refine Calls.mono (vallow18 w0 w R (obs sg++(obs sa++(obs sb++l))) (obase o) (o.b.length-obase o) o.sent s o.lim sb sg sa cb cg ca G A n M) fun e w' ⟨h1,M2,o2⟩=>?_
  have aw:∀ b∈[R],b∉ob sg∧b∉ob sa∧b∉ob sb:=fun b hb=>by
   obtain rfl:=xm1 hb
   exact ⟨M.awayB (fun p hp=>by simp [hp]),M.awayB (fun p hp=>by simp [hp]),M.awayB (fun p hp=>by simp [hp])⟩
  exact ⟨(R,pcl (oal o n) s sb cb sg cg sa ca G A)::(obs sg++(obs sa++obs sb)),h1,⟨R,s,sb,cb,sg,cg,sa,ca,G,A,rfl,rfl,hr.al n,W_b.off o2 (fun b hb=>(aw b hb).2.2),ownsRow_away V_g o2 (fun b hb=>(aw b hb).1),ownsRow_away V_a o2 (fun b hb=>(aw b hb).2.1)⟩,by rw [po_app]; exact M2,o2.mono (fun b hb=>by rw [po_fst]; rw [xm1 hb]; exact mS)⟩
 nxt:=fun w0 w v o bs l n hw hln hn hI M=>by
  obtain ⟨R,s,sb,cb,sg,cg,sa,ca,G,A,rfl,rfl,hr,W_b,V_g,V_a⟩:=hI
  rw [po_app] at M
  refine Calls.mono (vnextO18 w0 w R l o s sb sg sa cb cg ca G A hw hln hr n hn M W_b V_g V_a) fun e w' ⟨sq,cq,h1,h2,h3,sg',cg',G',hr',M2,W2,Vg2,Va2,o2⟩=>?_
  obtain ⟨e1,e2,_⟩:=onx_same o n
  have e3:=obase_onx o n
  have ep:pcl (onx o n) s sb cb sg' cg' sa ca G' A=[.int .i64 ((obase o:Nat):Int),.slice sb (o.b.length-obase o) cb,.int .i64 s,.int .i64 o.lim,.int .i64 (((onx o n).sent:Nat):Int),.slice sg' G'.length cg',.slice sa A.length ca]:=by unfold pcl; rw [e1,e2,e3]
  refine ⟨sq,cq,(R,pcl (onx o n) s sb cb sg' cg' sa ca G' A)::(obs sg'++(obs sa++obs sb)),h1,h2,h3,⟨R,s,sb,cb,sg',cg',sa,ca,G',A,rfl,rfl,hr',by rw [e1,e3]; exact W2,Vg2,Va2⟩,?_,by rw [po_fst]; exact o2⟩
  rw [po_app,ep]
  refine M2.perm (List.Perm.cons _ ?_)
  have:=(pull0 (obs sg'++(obs sa++obs sb)) (obs sq) l).symm
  rw [List.append_assoc,List.append_assoc,List.append_assoc,List.append_assoc] at this
  exact this
 lst:=fun w0 w v o bs l p n hw hln hp hn hI M=>by
  obtain ⟨R,s,sb,cb,sg,cg,sa,ca,G,A,rfl,rfl,hr,W_b,V_g,V_a⟩:=hI
  rw [po_app] at M
  exact Calls.mono (vlost18 w0 w R l o s sb sg sa cb cg ca G A hw hln hr p n hp hn M W_b V_g V_a) fun e w' ⟨sg',cg',G',h1,hr',M2,W2,Vg2,Va2,o2⟩=>⟨(R,pcl (olo o p n) s sb cb sg' cg' sa ca G' A)::(obs sg'++(obs sa++obs sb)),h1,⟨R,s,sb,cb,sg',cg',sa,ca,G',A,rfl,rfl,hr',W2,Vg2,Va2⟩,by rw [po_app]; exact M2,by rw [po_fst]; exact o2⟩
 ack:=fun w0 w v o bs l p L sl cl hw hln hp hL _ hN hA hI M=>by
  obtain ⟨R,s,sb,cb,sg,cg,sa,ca,G,A,rfl,rfl,hr,W_b,V_g,V_a⟩:=hI
  rw [po_app] at M
  rw [po_fst] at hA
  exact Calls.mono (vack18 w0 w R l o s sb sg sa cb cg ca G A hw hln hr p L sl cl hL (fun b hb hne=>hb.elim (fun h=>hA b h hne) (fun h=>hN.away h hne)) hN M W_b V_g V_a) fun e w' ⟨sb',cb',sg',cg',sa',ca',G',A',h1,hr',M2,W2,Vg2,Va2,o2⟩=>⟨(R,pcl (oac o p L) s sb' cb' sg' cg' sa' ca' G' A')::(obs sg'++(obs sa'++obs sb')),h1,⟨R,s,sb',cb',sg',cg',sa',ca',G',A',rfl,rfl,hr',W2,Vg2,Va2⟩,by rw [po_app]; exact M2,by rw [po_fst]; exact o2⟩
 bas:=fun w0 w v o bs l _ _ hI M=>by
  obtain ⟨R,s,sb,cb,sg,cg,sa,ca,G,A,rfl,rfl,hr,W_b,V_g,V_a⟩:=hI
  exact vbase18 R (obase o) w (M.get mS 0 _ rfl)
 end_:=fun w0 w v o bs l hw hln hI M=>by
  obtain ⟨R,s,sb,cb,sg,cg,sa,ca,G,A,rfl,rfl,hr,W_b,V_g,V_a⟩:=hI
  have hkb:=obase_le o; have h:=vendx18 R (obase o) (o.b.length-obase o) sb cb w (M.get mS 0 _ rfl) (M.get mS 1 _ rfl) (by omega)
  rw [show obase o+(o.b.length-obase o)=o.b.length by omega] at h
  exact h
 snt:=fun w0 w v o bs l _ _ hI M=>by
  obtain ⟨R,s,sb,cb,sg,cg,sa,ca,G,A,rfl,rfl,hr,W_b,V_g,V_a⟩:=hI
  exact vsent18 R o.sent w (M.get mS 4 _ rfl)
 idl:=fun w0 w v o bs l hw hln hI M=>by
  obtain ⟨R,s,sb,cb,sg,cg,sa,ca,G,A,rfl,rfl,hr,W_b,V_g,V_a⟩:=hI
  have hkb:=obase_le o; have h:=vidle18 R (obase o) (o.b.length-obase o) sb cb w (M.get mS 0 _ rfl) (M.get mS 1 _ rfl) (by omega)
  rw [show decide (o.b.length-obase o=0)=oid o from decide_eq_decide.2 (by omega)] at h
  exact h
 blk:=fun w0 w v o bs l hw hln hI M=>by
  obtain ⟨R,s,sb,cb,sg,cg,sa,ca,G,A,rfl,rfl,hr,W_b,V_g,V_a⟩:=hI
  have hkb:=obase_le o; have h:=vblk18 R (obase o) (o.b.length-obase o) o.sent o.lim sb sg cb cg G hr.cg (hr.lenG hw hln) w (M.get mS 0 _ rfl) (M.get mS 1 _ rfl) (M.get mS 3 _ rfl) (M.get mS 4 _ rfl) (M.get mS 5 _ rfl) (by omega) (NewW.ofOwn V_g)
  have e:(!rgB G 0 ((o.sent:Nat):Int)&&(decide ((obase o+(o.b.length-obase o):Nat)>o.sent)&&decide (((o.sent:Nat):Int)≥o.lim)))=obl o:=by
   rw [hr.cov hw hln]
   unfold obl
   rw [Bool.eq_iff_iff,xbA,xbA,Bool.not_eq_true',decide_eq_false_iff_not,decide_eq_true_eq,decide_eq_true_eq,decide_eq_true_eq]
   omega
  rw [e] at h
  exact h
section
open Go.ChangeShapes Go.WideShapes Go.ChangeAt Go.WideMaps Go.WideElems Go.RowKit
section
variable {H:Type} {enc:TypeId × Value→H} {P:Program} {w:World} {base:Nat} {sp:Nat→Bool} {held:Bool}
end
theorem wf_u8 {n:Int}:(Lit.int .u8 n).wf=true↔0≤n∧n<256:=by
 simp [Lit.wf,IntKind.min,IntKind.max,IntKind.signed,IntKind.bits]
 omega
theorem wf_i64 {n:Int}:(Lit.int .i64 n).wf=true↔-9223372036854775808≤n∧n≤9223372036854775807:=by
 simp [Lit.wf,IntKind.min,IntKind.max,IntKind.signed,IntKind.bits]
end
section
open Go.ChangeShapes Go.WideShapes Go.ChangeAt Go.WideMaps Go.WideElems Go.RowKit
theorem own:ownKnob Try.prog.godebug=none:=by kernel_rfl
theorem cellsByte:Try.prog.cellsOf 5=1:=by kernel_rfl
theorem cellsInt:Try.prog.cellsOf 3=1:=by kernel_rfl
theorem laidOut:laidOutB Try.prog=true:=by kernel_rfl
structure Fit (H:Type) (Q:TypeId→DataW H→Prop) (m:Nat):Prop where
 ints:∀ a b,Q 47 (.slice a b)→a.length≤m
 bytes:∀ a b,Q 28 (.slice a b)→a.length≤m
 rowOp:∀ a b,Q 22 (.slice a b)→a.length≤m∧∀ d∈a,Q 31 d
 elOp:∀ l,Q 31 (.agg l)→(∀ d,l[3]?=some d→Q 28 d)
section
variable {H:Type} {enc:TypeId × Value→H} {W:World} {Q:TypeId→DataW H→Prop} {m:Nat}
theorem open_octets (F:Fit H Q m) {fuel:Nat} {cs:List Value} {x:DataW H × List MemPlace} (h:DataW.trod enc Try.prog W 0 (fun _=>true) true fuel 28 cs=some x) (hq:Q 28 x.1) :
 ∃ (sp:Option Addr) (cap:Nat) (bs:List Int),cs=[.slice sp bs.length cap]∧Src W sp bs.length (bl bs)∧bs.length≤cap∧(sp=none→cap=0)∧bs.length≤m∧Byts bs:=by
 rcases open_ints Try.underlying28 Try.underlying5 cellsByte h with ⟨rfl,rfl⟩ | ⟨ad,len,cap,zs,rfl,_,hle,hmax,hall,rfl,hcell,hwf⟩
 · exact ⟨none,0,[],rfl,fun j hj=>absurd hj (xnZ j),xnR _,fun _=>rfl,Nat.zero_le _,fun x hx=>(by cases hx)⟩
 · simp only [if_true] at hall
   have hm:=F.bytes _ _ hq
   simp only [lits,List.length_map,List.length_take] at hm
   have hl:(zs.take len).length=len:=by rw [List.length_take]; omega
   refine ⟨some ad,cap,zs.take len,by rw [hl],fun j hj=>⟨ad,rfl,?_⟩,by rw [hl]; exact hle,fun e=>(by cases e),by rw [hl]; omega,fun y hy=>wf_u8.1 (hwf y (List.mem_of_mem_take hy))⟩
   rw [hl] at hj
   rw [bl_take _ _ _ hj]
   exact hcell j (by omega)
theorem i64_of {n:Int} (h:(Lit.int .i64 n).wf=true):i64 n:=by have:=wf_i64.1 h; unfold i64; omega
end
def Wok {H:Type} (t:TypeId) (d:DataW H):Prop:=∀ n∈d.weights Try.prog t,n≤reachBytes
theorem weights_all {H:Type} {P:Program} {e:TypeId} {d:DataW H} {n:Nat} (hn:n∈d.weights P e):∀ {l:List (DataW H)},d∈l→n∈DataW.weightsAll P e l
 | x::l,h=>by
   simp only [DataW.weightsAll,List.mem_append]
   rcases xc1 h with rfl | h
   · exact .inl hn
   · exact .inr (weights_all hn h)
theorem fitWok (H:Type):Fit H Wok 140737488351232 where
 ints a b h:=by
  have h1:=h ((a.length+b.length)*Try.prog.bytesOf 3) (by simp only [DataW.weights,Try.underlying47]; exact mS)
  rw [show Try.prog.bytesOf 3=8 by kernel_rfl] at h1
  simp only [reachBytes] at h1
  omega
 bytes a b h:=by
  have h1:=h ((a.length+b.length)*Try.prog.bytesOf 5) (by simp only [DataW.weights,Try.underlying28]; exact mS)
  rw [show Try.prog.bytesOf 5=1 by kernel_rfl] at h1
  simp only [reachBytes] at h1
  omega
 rowOp a b h:=by
  have h1:=h ((a.length+b.length)*Try.prog.bytesOf 31) (by simp only [DataW.weights,Try.underlying22]; exact mS)
  rw [show Try.prog.bytesOf 31=72 by kernel_rfl] at h1
  simp only [reachBytes] at h1
  refine ⟨by omega,fun d hd n hn=>h n ?_⟩
  simp only [DataW.weights,Try.underlying22]
  exact mT _ (List.mem_append_left _ (weights_all hn hd))
 elOp l h:=by
  have hu:Try.prog.underlying 31=some (.struct (Try.prog.fieldsOf 31)):=by kernel_rfl
  have ht:(Try.prog.fieldsOf 31).toList.map (·.type)=[3,3,3,28,29]:=by kernel_rfl
  have e:∀ n∈DataW.weightsEach Try.prog [3,3,3,28,29] l,n≤reachBytes:=fun n hn=>h n (by simp only [DataW.weights,hu,ht]; exact hn)
  exact fun d hd n hn=>e n (DataW.weights_mem_each (j:=3) rfl hd n hn)
section
variable {H:Type} {enc:TypeId × Value→H} {W:World} {Q:TypeId→DataW H→Prop} {m:Nat}
theorem again {t:TypeId} (hr:Try.prog.readableRec t=true) (hrow:t<Try.prog.types.size) {v:Value} {d:DataW H} {p:List MemPlace} (h:DataW.Trod enc Try.prog W 0 (fun _=>true) true t v d p) (W':World) (hb:Below W.heap.size W W'):DataW.Trod enc Try.prog W' 0 (fun b=>decide (b<W.heap.size)) true t v d p :=
 hb.trod laidOut hr hrow h (by obtain ⟨fuel,hf⟩:=h; exact fun x hx=>DataW.trod_lt _ _ _ _ hf x hx)
theorem arg_bytes (F:Fit H Q m) {r:Reach} {b0:Nat} {v:Value} {d:DataW H} {p:List MemPlace} (hv:Value.okWide Try.prog W r b0 28 v) (h:DataW.Trod enc Try.prog W 0 (fun _=>true) true 28 v d p) (hq:Q 28 d) :
 ∃ (sp:Option Addr) (cap:Nat) (bs:List Int),v=.slice sp bs.length cap∧Src W sp bs.length (bl bs)∧bs.length≤cap∧(sp=none→cap=0)∧bs.length≤m∧Byts bs:=by
 obtain ⟨sp,len,cap,rfl⟩:=okWide_slice Try.underlying28 hv
 obtain ⟨fuel,hf⟩:=h
 obtain ⟨sp',cap',bs,h1,h2⟩:=open_octets F hf hq
 simp [Value.cells] at h1
 obtain ⟨rfl,rfl,rfl⟩:=h1
 exact ⟨_,_,bs,rfl,h2⟩
theorem open_nums (F:Fit H Q m) {fuel:Nat} {cs:List Value} {x:DataW H × List MemPlace} (h:DataW.trod enc Try.prog W 0 (fun _=>true) true fuel 47 cs=some x) (hq:Q 47 x.1) :
 ∃ (sp:Option Addr) (cap:Nat) (l:List Int),cs=[.slice sp l.length cap]∧(SrcI W sp l.length (bl l)∧∀ x∈l,i64 x)∧l.length≤cap∧(sp=none→cap=0)∧l.length≤m:=by
 rcases open_ints Try.underlying47 Try.underlying3 cellsInt h with ⟨rfl,rfl⟩ | ⟨ad,len,cap,zs,rfl,_,hle,hmax,hall,rfl,hcell,hwf⟩
 · exact ⟨none,0,[],rfl,⟨fun j hj=>absurd hj (xnZ j),fun x hx=>(by cases hx)⟩,xnR _,fun _=>rfl,Nat.zero_le _⟩
 · simp only [if_true] at hall
   have hm:=F.ints _ _ hq
   simp only [lits,List.length_map,List.length_take] at hm
   have hl:(zs.take len).length=len:=by rw [List.length_take]; omega
   refine ⟨some ad,cap,zs.take len,by rw [hl],⟨fun j hj=>⟨ad,rfl,?_⟩,fun y hy=>i64_of (hwf y (List.mem_of_mem_take hy))⟩,by rw [hl]; exact hle,fun e=>(by cases e),by rw [hl]; omega⟩
   rw [hl] at hj
   rw [bl_take _ _ _ hj]
   exact hcell j (by omega)
theorem arg_ints (F:Fit H Q m) {r:Reach} {b0:Nat} {v:Value} {d:DataW H} {p:List MemPlace} (hv:Value.okWide Try.prog W r b0 47 v) (h:DataW.Trod enc Try.prog W 0 (fun _=>true) true 47 v d p) (hq:Q 47 d) :
 ∃ (sp:Option Addr) (cap:Nat) (l:List Int),v=.slice sp l.length cap∧(SrcI W sp l.length (bl l)∧∀ x∈l,i64 x)∧l.length≤cap∧(sp=none→cap=0)∧l.length≤m:=by
 obtain ⟨sp,len,cap,rfl⟩:=okWide_slice Try.underlying47 hv
 obtain ⟨fuel,hf⟩:=h
 obtain ⟨sp',cap',l,h1,h2⟩:=open_nums F hf hq
 simp [Value.cells] at h1
 obtain ⟨rfl,rfl,rfl⟩:=h1
 exact ⟨_,_,l,rfl,h2⟩
end
end
end Go.Proofs.Ytpdpfdelglgfnaa
