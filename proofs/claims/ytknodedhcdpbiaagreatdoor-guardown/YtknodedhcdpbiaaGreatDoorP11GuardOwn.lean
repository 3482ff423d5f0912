/- Texts of Sh Sk, joined. -/
import Derived.Test.YtknodedhcdpbiaaGreatDoorP10GuardOwn
set_option maxRecDepth 20000
set_option maxHeartbeats 64000000
namespace Go.Proofs.YtknodedhcdpbiaaGreatDoor
open Go.RowKit
section
open Go.RowKit Go.MapKept Go.ChangeMaps Go.WideShapes
theorem gcounter_is (w0 w:World) (R:Nat) (T:List (Nat × List Value)) (r:Int) (ko ki:Kys) (mc m0 m1:Option Nat) (cnt:Int→Int) (C:Cts w mc cnt) (p:Int) (hp:i64 p) (c:Int) (hc:ctv cnt p=c) (M:Mm w0 ((R,gcf r ko ki mc m0 m1)::T) w) :
 Calls Tryz.prog 20 #[.pointer (some ⟨R,0,none⟩),.int .i64 p] w fun e' w'=>e'=.returned (.int .i64 c)∧Below w.heap.size w w':=by
 subst hc
 exact gcounter_any w0 w R T r ko ki mc m0 m1 cnt C p hp M
theorem gseal_any (w0 w:World) (R:Nat) (T:List (Nat × List Value)) (g:Grd) (mc m0 m1:Option Nat) (hg:GGlob w0) (hw:GrdW g) (C:Cts w mc g.cnt) (p:Int) (hp6:i64 p) (sp:Option Addr) (cap:Nat) (t:List Int) (hlen:t.length≤140737488351232) (hcap:t.length≤cap) (hnil:sp=none→cap=0) (ht:Byts t) (M:Mm w0 ((R,gcf g.role g.out g.inn mc m0 m1)::(mbs mc++T)) w) (hs:SrcA (R::(mbs mc).map Prod.fst) w sp t.length (bl t)) :
 Calls Tryz.prog 13 #[.pointer (some ⟨R,0,none⟩),.int .i64 p,.slice sp t.length cap] w fun e' w'=>∃ sq cq mc',e'=.returned (.tuple #[.slice sq (gsB g p t).length cq,.int .i64 (gsE g p t.length)])∧NewL w' w.heap.size (gsB g p t) (.slice sq (gsB g p t).length cq)∧Mm w0 ((R,gcf g.role g.out g.inn mc' m0 m1)::(mbs mc'++(obs sq++T))) w'∧Cts w' mc' (gsN g p t.length).cnt∧Off (R::(mbs mc).map Prod.fst) w w':=by
 replace M:Mm w0 ((R,[[Value.int .i64 g.role],kck g.out,kck g.inn,[Value.map mc],[Value.map m0],[Value.map m1]].flatten)::(mbs mc++T)) w:=M
 have hwz:=xnR w.heap.size; have OF:=Off.refl (R::(mbs mc).map Prod.fst) w
 go_enter Tryz.func13,Tryz.ntmps13
 have CT:=C; clear C; have hgb:=hg.b; have hrl:=hw.role; have hcn:=hw.cnt p
 by_cases hq:0≤p∧p≤255
 · by_cases hl:256<t.length
   · go_upto_region 0 with fail
     refine wp_region_list ?_; refine xpL (.slice none 0 0) ?_; refine xpL (.int .i64 0) ?_; refine xT ?_; go_upto_region 1 with fail; refine wp_region_list ?_; refine xpL (.pointer (some ⟨R,0,none⟩)) ?_; refine xpL (.int .i64 p) ?_
     replace M:Mm w0 ((R,[[Value.int .i64 g.role],kck g.out,kck g.inn,[Value.map mc],[Value.map m0],[Value.map m1]].flatten)::(mbs mc++T)) w:=M
     refine xcL (gcounter_is w0 _ R _ _ _ _ _ _ _ g.cnt CT p hp6 (g.cnt p) (ctv_in hq) M) ?_; rintro e w3 ⟨rfl,l⟩; replace M:=M.call l; replace hwz:=xnT hwz l.size; replace OF:=OF.below l; replace CT:=CT.below l; clear l; refine xeL ?_; refine xpL (.int .i64 (g.cnt p)) ?_; refine xT ?_; go_upto_region 2 with fail; refine wp_region_list ?_; refine xpL (.int .i64 p) ?_
     refine xcL (gispath_is p true (isp_yes hq) _) ?_; rintro e w4 ⟨rfl,l⟩; replace M:=M.call l; replace hwz:=xnT hwz l.size; replace OF:=OF.below l; replace CT:=CT.below l; clear l; refine xeL ?_; refine xpL (.bool false) ?_; refine xpL (.bool false) ?_; refine xT ?_; go_upto_region 4 with fail; refine wp_region_list ?_; refine xpL (.slice sp t.length cap) ?_
     refine xaL (.int .i64 ((t.length:Nat):Int)) (lenS _ 29 5 sp t.length cap rfl Tryz.underlying29 rfl _) ?_; refine xaL (.bool true) (gtrI .i64 _ _ _ _ _ _ rfl rfl rfl true (decide_eq_true (by omega)) _) ?_; refine xpL (.bool true) ?_; refine xT ?_; go_upto_region 5 with fail; refine wp_region_list ?_; refine xpL (.slice none 0 0) ?_; refine xpL (.int .i64 2) ?_; refine xT ?_
     have hE:=show Hid _ from (gsE_long (g:=g) (n:=t.length) hq hl); have HS:=show Hid _ from (And.intro M (And.intro CT OF)); clear M CT OF; go_wp2; go_ret2
     have hB0:gsB g p t=[]:=gsB_err (by rw [hE.out]; decide)
     rw [hB0,hE.out]
     first | exact ⟨none,0,rfl,NewF.nil _ _ _,mc,HS.out.1,by unfold gsN; rw [hE.out]; exact HS.out.2.1,HS.out.2.2⟩ | exact ⟨none,0,mc,rfl,NewF.nil _ _ _,HS.out.1,by unfold gsN; rw [hE.out]; exact HS.out.2.1,HS.out.2.2⟩
   by_cases hx:281474976710655<g.cnt p
   · go_upto_region 0 with fail
     refine wp_region_list ?_; refine xpL (.slice none 0 0) ?_; refine xpL (.int .i64 0) ?_; refine xT ?_; go_upto_region 1 with fail; refine wp_region_list ?_; refine xpL (.pointer (some ⟨R,0,none⟩)) ?_; refine xpL (.int .i64 p) ?_
     replace M:Mm w0 ((R,[[Value.int .i64 g.role],kck g.out,kck g.inn,[Value.map mc],[Value.map m0],[Value.map m1]].flatten)::(mbs mc++T)) w:=M
     refine xcL (gcounter_is w0 _ R _ _ _ _ _ _ _ g.cnt CT p hp6 (g.cnt p) (ctv_in hq) M) ?_; rintro e w5 ⟨rfl,l⟩; replace M:=M.call l; replace hwz:=xnT hwz l.size; replace OF:=OF.below l; replace CT:=CT.below l; clear l; refine xeL ?_; refine xpL (.int .i64 (g.cnt p)) ?_; refine xT ?_; go_upto_region 2 with fail; refine wp_region_list ?_; refine xpL (.int .i64 p) ?_
     refine xcL (gispath_is p true (isp_yes hq) _) ?_; rintro e w6 ⟨rfl,l⟩; replace M:=M.call l; replace hwz:=xnT hwz l.size; replace OF:=OF.below l; replace CT:=CT.below l; clear l; refine xeL ?_; refine xpL (.bool false) ?_; refine xpL (.bool false) ?_; refine xT ?_; go_upto_region 4 with fail; refine wp_region_list ?_; refine xpL (.slice sp t.length cap) ?_
     refine xaL (.int .i64 ((t.length:Nat):Int)) (lenS _ 29 5 sp t.length cap rfl Tryz.underlying29 rfl _) ?_; refine xaL (.bool false) (gtrI .i64 _ _ _ _ _ _ rfl rfl rfl false (decide_eq_false (by omega)) _) ?_; refine xpL (.bool false) ?_; refine xT ?_; go_upto_region 6 with fail; refine wp_region_list ?_; refine xpL (.int .i64 (g.cnt p)) ?_
     refine xaL (.bool true) (gtrI .i64 _ _ _ _ _ _ rfl rfl rfl true (decide_eq_true (by omega)) _) ?_; refine xpL (.bool true) ?_; refine xT ?_; go_upto_region 7 with fail; refine wp_region_list ?_; refine xpL (.slice none 0 0) ?_; refine xpL (.int .i64 6) ?_; refine xT ?_; have hE:=show Hid _ from (gsE_end (g:=g) hq (show t.length≤256 by omega) hx)
     have HS:=show Hid _ from (And.intro M (And.intro CT OF)); clear M CT OF; go_wp2; go_ret2
     have hB0:gsB g p t=[]:=gsB_err (by rw [hE.out]; decide)
     rw [hB0,hE.out]
     first | exact ⟨none,0,rfl,NewF.nil _ _ _,mc,HS.out.1,by unfold gsN; rw [hE.out]; exact HS.out.2.1,HS.out.2.2⟩ | exact ⟨none,0,mc,rfl,NewF.nil _ _ _,HS.out.1,by unfold gsN; rw [hE.out]; exact HS.out.2.1,HS.out.2.2⟩
   go_upto_region 0 with fail; refine wp_region_list ?_; refine xpL (.slice none 0 0) ?_; refine xpL (.int .i64 0) ?_; refine xT ?_; go_upto_region 1 with fail; refine wp_region_list ?_; refine xpL (.pointer (some ⟨R,0,none⟩)) ?_; refine xpL (.int .i64 p) ?_
   replace M:Mm w0 ((R,[[Value.int .i64 g.role],kck g.out,kck g.inn,[Value.map mc],[Value.map m0],[Value.map m1]].flatten)::(mbs mc++T)) w:=M
   refine xcL (gcounter_is w0 _ R _ _ _ _ _ _ _ g.cnt CT p hp6 (g.cnt p) (ctv_in hq) M) ?_; rintro e w7 ⟨rfl,l⟩; replace M:=M.call l; replace hwz:=xnT hwz l.size; replace OF:=OF.below l; replace CT:=CT.below l; clear l; refine xeL ?_; refine xpL (.int .i64 (g.cnt p)) ?_; refine xT ?_; go_upto_region 2 with fail; refine wp_region_list ?_; refine xpL (.int .i64 p) ?_
   refine xcL (gispath_is p true (isp_yes hq) _) ?_; rintro e w8 ⟨rfl,l⟩; replace M:=M.call l; replace hwz:=xnT hwz l.size; replace OF:=OF.below l; replace CT:=CT.below l; clear l; refine xeL ?_; refine xpL (.bool false) ?_; refine xpL (.bool false) ?_; refine xT ?_; go_upto_region 4 with fail; refine wp_region_list ?_; refine xpL (.slice sp t.length cap) ?_
   refine xaL (.int .i64 ((t.length:Nat):Int)) (lenS _ 29 5 sp t.length cap rfl Tryz.underlying29 rfl _) ?_; refine xaL (.bool false) (gtrI .i64 _ _ _ _ _ _ rfl rfl rfl false (decide_eq_false (by omega)) _) ?_; refine xpL (.bool false) ?_; refine xT ?_; go_upto_region 6 with fail; refine wp_region_list ?_; refine xpL (.int .i64 (g.cnt p)) ?_
   refine xaL (.bool false) (gtrI .i64 _ _ _ _ _ _ rfl rfl rfl false (decide_eq_false (by omega)) _) ?_; refine xpL (.bool false) ?_; refine xT ?_; have hE:=gsE_zero (g:=g) hq (show t.length≤256 by omega) (show g.cnt p≤281474976710655 by omega)
   replace M:Mm w0 ((R,[[Value.int .i64 g.role],kck g.out,kck g.inn,[Value.map mc],[Value.map m0],[Value.map m1]].flatten)::(mbs mc++T)) w8:=M
   go_upto_region 8 with fail; refine wp_region_held_drew (S:=fun w'=>Mm w0 ((R,[[Value.int .i64 g.role],kck g.out,kck g.inn,[Value.map mc],[Value.map m0],[Value.map m1]].flatten)::(mbs mc++T)) w'∧Below w8.drew.heap.size w8.drew w') (by kernel_rfl) ⟨M.drew,Below.refl _ _⟩ ?_; intro _; replace M:=M.drew; have hdr:=(Below.refl w8.heap.size w8).drew
   replace hwz:=xnT hwz hdr.size; replace OF:=OF.below hdr; replace CT:=CT.below hdr; clear hdr; generalize w8.drew=w9 at M hwz OF CT ⊢; refine xrH 0 26 rfl (.pointer (some ⟨R,0,none⟩)) (fun _ ⟨M,_⟩=>(by kernel_rfl)) ⟨M,Below.refl _ _⟩ ?_; refine xrH 1 27 rfl (.pointer (some ⟨R,0,none⟩)) (fun _ ⟨M,_⟩=>(by kernel_rfl)) ⟨M,Below.refl _ _⟩ ?_
   refine xrH 2 28 rfl (.pointer (some ⟨R,0,none⟩)) (fun _ ⟨M,_⟩=>(by kernel_rfl)) ⟨M,Below.refl _ _⟩ ?_; refine xrH 3 29 rfl (.int .i64 g.role) (fun _ ⟨M,_⟩=>load1 3 _ ⟨R,0,none⟩ _ rfl rfl (fun _=>by kernel_rfl) (M.get mS 0 _ (flat_get _ [1,98,98,1,1,1] (by simp [kck_len]) 0 0 _ rfl rfl))) ⟨M,Below.refl _ _⟩ ?_
   refine xrH 4 30 rfl (.int .i64 p) (fun _ ⟨M,_⟩=>(by kernel_rfl)) ⟨M,Below.refl _ _⟩ ?_; refine xrH 5 31 rfl (.pointer (some ⟨R,0,none⟩)) (fun _ ⟨M,_⟩=>(by kernel_rfl)) ⟨M,Below.refl _ _⟩ ?_; refine xrH 6 32 rfl (.pointer (some ⟨R,0,none⟩)) (fun _ ⟨M,_⟩=>(by kernel_rfl)) ⟨M,Below.refl _ _⟩ ?_
   refine xrH 7 33 rfl (.pointer (some ⟨R,1,none⟩)) (fun _ ⟨M,_⟩=>(by kernel_rfl)) ⟨M,Below.refl _ _⟩ ?_; refine xrH 9 35 rfl (.int .i64 (g.cnt p)) (fun _ ⟨M,_⟩=>(by kernel_rfl)) ⟨M,Below.refl _ _⟩ ?_; have hlt_:=fun q hq=>(M.rows q hq).2.2; have h0_:=M.below.size
   refine Flt.go (z:=11) (t:=9) (n:=6) (w0:=w9.heap.size) (k:=2) ?_ #[.int .i64 0,.int .i64 0,.int .i64 0,.int .i64 0,.int .i64 0,.slice none 0 0] 70 rfl rfl rfl (fun _ _=>by kernel_rfl) (fun w_=>((Mm.init w_).box #[.int .i64 0,.int .i64 0,.int .i64 0,.int .i64 0,.int .i64 0,.slice none 0 0] 70 w_.heap.size rfl).there mS 6 rfl) (fun _ h=>h.2.size) (fun _ _ h l=>⟨h.1.call l,h.2.trans (l.mono h.2.size)⟩) _ ⟨M,Below.refl _ _⟩
   refine Flt.call 8 34 (fun v=>v=.int .i64 g.out.e) (by kernel_rfl) (by kernel_rfl) rfl rfl rfl (by decide) (by decide) (by intros; simp) (by decide +kernel) (fun _=>by kernel_rfl) (fun w_ h=>(gout_epoch h.1).mono fun e w'' ⟨he,l⟩=>⟨_,he,rfl,l⟩) ?_; rintro _ rfl; simp only [aP,lI,l0,lS]
   refine Flt.read 10 36 (.agg #[.int .i64 3,.int .i64 g.role,.int .i64 p,.int .i64 g.out.e,.int .i64 (g.cnt p),.slice none 0 0]) rfl rfl rfl (by decide) (by decide) (by intros; simp) (by decide +kernel) (fun _=>by kernel_rfl) (by kernel_rfl) (by kernel_rfl) (by kernel_rfl) (by kernel_rfl) (by kernel_rfl) (fun _ _ _ h=>h) ?_; simp only [aP,lI,l0,lS]; refine Flt.last (by kernel_rfl) ?_
   rintro B10 w10 ⟨M',hbw⟩ hFb; simp only [aP,lI,l0,lS]; clear M; have M:=M'; clear M'
   have hB_B10:w.heap.size≤B10:=xnT hwz hFb.lo
   replace hwz:=xnT hwz hbw.size; replace OF:=OF.below hbw; replace CT:=CT.below hbw; have ML:=Mm.land M hFb hlt_ h0_ [.int .i64 3,.int .i64 g.role,.int .i64 p,.int .i64 g.out.e,.int .i64 (g.cnt p),.slice none 0 0] rfl
   refine doesH (i:=12) none rfl (by kernel_rfl) rfl rfl (storeP [.int .i64 3,.int .i64 g.role,.int .i64 p,.int .i64 g.out.e,.int .i64 (g.cnt p),.slice none 0 0] B10 0 70 _ _ rfl rfl rfl hFb.th (by kernel_rfl) (List.all_eq_true.1 (rfl:([.int .i64 3,.int .i64 g.role,.int .i64 p,.int .i64 g.out.e,.int .i64 (g.cnt p),.slice none 0 0]:List Value).all (fun u=>u.oneCell')=true))) ⟨ML.tail,below_setAll hbw B10 hFb.lo 0 [.int .i64 3,.int .i64 g.role,.int .i64 p,.int .i64 g.out.e,.int .i64 (g.cnt p),.slice none 0 0]⟩ ?_
   simp only [Act.put]; replace hbw:=below_setAll hbw B10 hFb.lo 0 [.int .i64 3,.int .i64 g.role,.int .i64 p,.int .i64 g.out.e,.int .i64 (g.cnt p),.slice none 0 0]; clear M; have M:=ML; clear ML hFb hlt_ h0_; replace hwz:=xnT hwz (Off.size ((Off.refl [B10] _).setAll (b:=B10) mS 0 [.int .i64 3,.int .i64 g.role,.int .i64 p,.int .i64 g.out.e,.int .i64 (g.cnt p),.slice none 0 0]))
   replace OF:=OF.and1 ((Off.refl [B10] _).setAll (b:=B10) mS 0 [.int .i64 3,.int .i64 g.role,.int .i64 p,.int .i64 g.out.e,.int .i64 (g.cnt p),.slice none 0 0]) (.inr (by omega))
   replace CT:=CT.off ((Off.refl [B10] _).setAll (b:=B10) mS 0 [.int .i64 3,.int .i64 g.role,.int .i64 p,.int .i64 g.out.e,.int .i64 (g.cnt p),.slice none 0 0]) (M.aside (g:=[_]) (fun p hp=>mT _ (List.mem_append_left _ hp))); generalize w10.setCells B10 0 [.int .i64 3,.int .i64 g.role,.int .i64 p,.int .i64 g.out.e,.int .i64 (g.cnt p),.slice none 0 0]=w11 at M hbw hwz OF CT ⊢
   replace M:Mm w0 ((B10,[.int .i64 3,.int .i64 g.role,.int .i64 p,.int .i64 g.out.e,.int .i64 (g.cnt p),.slice none 0 0])::(R,[[Value.int .i64 g.role],kck g.out,kck g.inn,[Value.map mc],[Value.map m0],[Value.map m1]].flatten)::(mbs mc++T)) w11:=M
   clear hbw
   refine wpAnyH_done (by kernel_rfl) ?_ _
   first | show Exit.then _ _ _ _ _ | show Exit.inBlock _ _ _ _ _
   replace M:=M.swap
   replace M:Mm w0 ((R,[[Value.int .i64 g.role],kck g.out,kck g.inn,[Value.map mc],[Value.map m0],[Value.map m1]].flatten)::(B10,[.int .i64 3,.int .i64 g.role,.int .i64 p,.int .i64 g.out.e,.int .i64 (g.cnt p),.slice none 0 0])::(mbs mc++T)) w11:=M
   go_upto_region 9 with fail
   refine wp_region_held_drew (S:=fun w'=>Mm w0 ((R,[[Value.int .i64 g.role],kck g.out,kck g.inn,[Value.map mc],[Value.map m0],[Value.map m1]].flatten)::(B10,[.int .i64 3,.int .i64 g.role,.int .i64 p,.int .i64 g.out.e,.int .i64 (g.cnt p),.slice none 0 0])::(mbs mc++T)) w'∧Below w11.drew.heap.size w11.drew w') (by kernel_rfl) ⟨M.drew,Below.refl _ _⟩ ?_; intro _
   replace M:=M.drew; have hdr:=(Below.refl w11.heap.size w11).drew; replace hwz:=xnT hwz hdr.size; replace OF:=OF.below hdr; replace CT:=CT.below hdr; clear hdr; generalize w11.drew=w12 at M hwz OF CT ⊢; refine xrH 0 38 rfl (.pointer (some ⟨R,0,none⟩)) (fun _ ⟨M,_⟩=>(by kernel_rfl)) ⟨M,Below.refl _ _⟩ ?_
   refine xrH 1 39 rfl (.pointer (some ⟨R,0,none⟩)) (fun _ ⟨M,_⟩=>(by kernel_rfl)) ⟨M,Below.refl _ _⟩ ?_; refine xrH 2 40 rfl (.pointer (some ⟨R,1,none⟩)) (fun _ ⟨M,_⟩=>(by kernel_rfl)) ⟨M,Below.refl _ _⟩ ?_; refine xrH 3 41 rfl (.pointer (some ⟨B10,3,none⟩)) (fun _ ⟨M,_⟩=>(by kernel_rfl)) ⟨M,Below.refl _ _⟩ ?_
   refine xrH 4 42 rfl (.int .i64 g.out.e) (fun _ ⟨M,_⟩=>load1 3 _ ⟨B10,3,none⟩ _ rfl rfl (fun _=>by kernel_rfl) (M.get (mT _ mS) 3 _ rfl)) ⟨M,Below.refl _ _⟩ ?_; have hlt_:=fun q hq=>(M.rows q hq).2.2; have h0_:=M.below.size
   refine Flt.go (z:=9) (t:=10) (n:=32) (w0:=w12.heap.size) (k:=4) ?_ zu8_32 23 rfl rfl rfl (fun _ _=>by kernel_rfl) (fun w_=>((Mm.init w_).box zu8_32 23 w_.heap.size rfl).there mS 32 rfl) (fun _ h=>h.2.size) (fun _ _ h l=>⟨h.1.call l,h.2.trans (l.mono h.2.size)⟩) _ ⟨M,Below.refl _ _⟩
   refine Flt.call 5 43 (fun v=>v=.tuple #[.agg (row .u8 32 (ykK g.out g.out.e)).toArray,.int .i64 (ykE g.out g.out.e)]) (by kernel_rfl) (by kernel_rfl) rfl rfl rfl (by decide) (by decide) (by intros; simp) (by decide +kernel) (fun _=>by kernel_rfl) (fun w_ h=>(gout_key hw.out g.out.e (h.1.perm (List.Perm.refl _))).mono fun e w'' ⟨he,l⟩=>⟨_,he,rfl,l⟩) ?_; rintro _ rfl
   simp only [aP,lI,l0,lS]; refine Flt.read 6 37 (.tuple #[.agg (row .u8 32 (ykK g.out g.out.e)).toArray,.int .i64 (ykE g.out g.out.e)]) rfl rfl rfl (by decide) (by decide) (by intros; simp) (by decide +kernel) (fun _=>by kernel_rfl) (by kernel_rfl) (by kernel_rfl) (by kernel_rfl) (by kernel_rfl) (by kernel_rfl) (fun _ _ _ h=>h) ?_; simp only [aP,lI,l0,lS]
   refine Flt.read 7 44 (.agg (row .u8 32 (ykK g.out g.out.e)).toArray) rfl rfl rfl (by decide) (by decide) (by intros; simp) (by decide +kernel) (fun _=>by kernel_rfl) (by kernel_rfl) (by kernel_rfl) (by kernel_rfl) (by kernel_rfl) (by kernel_rfl) (fun _ _ _ h=>h) ?_; simp only [aP,lI,l0,lS]
   refine Flt.read 8 45 (.int .i64 (ykE g.out g.out.e)) rfl rfl rfl (by decide) (by decide) (by intros; simp) (by decide +kernel) (fun _=>by kernel_rfl) (by kernel_rfl) (by kernel_rfl) (by kernel_rfl) (by kernel_rfl) (by kernel_rfl) (fun _ _ _ h=>h) ?_; simp only [aP,lI,l0,lS]; refine Flt.last (by kernel_rfl) ?_; rintro B13 w13 ⟨M',hbw⟩ hFb; simp only [aP,lI,l0,lS]; clear M
   have M:=M'; clear M'
   have hB_B13:w.heap.size≤B13:=xnT hwz hFb.lo
   replace hwz:=xnT hwz hbw.size; replace OF:=OF.below hbw; replace CT:=CT.below hbw; have ML:=Mm.land M hFb hlt_ h0_ (row .u8 32 (ykK g.out g.out.e)) (row32 (ykK g.out g.out.e))
   refine doesH (i:=10) none rfl (by kernel_rfl) rfl rfl (storeP (row .u8 32 (ykK g.out g.out.e)) B13 0 23 _ _ rfl rfl rfl hFb.th (by kernel_rfl) (row_one .u8 32 (ykK g.out g.out.e))) ⟨ML.tail,below_setAll hbw B13 hFb.lo 0 (row .u8 32 (ykK g.out g.out.e))⟩ ?_; simp only [Act.put]; replace hbw:=below_setAll hbw B13 hFb.lo 0 (row .u8 32 (ykK g.out g.out.e)); clear M; have M:=ML
   clear ML hFb hlt_ h0_; replace hwz:=xnT hwz (Off.size ((Off.refl [B13] _).setAll (b:=B13) mS 0 (row .u8 32 (ykK g.out g.out.e)))); replace OF:=OF.and1 ((Off.refl [B13] _).setAll (b:=B13) mS 0 (row .u8 32 (ykK g.out g.out.e))) (.inr (by omega))
   replace CT:=CT.off ((Off.refl [B13] _).setAll (b:=B13) mS 0 (row .u8 32 (ykK g.out g.out.e))) (M.aside (g:=[_]) (fun p hp=>mT _ (mT _ (List.mem_append_left _ hp)))); generalize w13.setCells B13 0 (row .u8 32 (ykK g.out g.out.e))=w14 at M hbw hwz OF CT ⊢
   replace M:Mm w0 ((B13,row .u8 32 (ykK g.out g.out.e))::(R,[[Value.int .i64 g.role],kck g.out,kck g.inn,[Value.map mc],[Value.map m0],[Value.map m1]].flatten)::(B10,[.int .i64 3,.int .i64 g.role,.int .i64 p,.int .i64 g.out.e,.int .i64 (g.cnt p),.slice none 0 0])::(mbs mc++T)) w14:=M
   refine xrH 11 11 rfl (.int .i64 (ykE g.out g.out.e)) (fun _ ⟨M,_⟩=>(by kernel_rfl)) ⟨M.tail,hbw⟩ ?_; clear hbw
   refine wpAnyH_done (by kernel_rfl) ?_ _
   first | show Exit.then _ _ _ _ _ | show Exit.inBlock _ _ _ _ _
   go_upto_region 10 with fail; refine wp_region_list ?_; refine xpL (.int .i64 (ykE g.out g.out.e)) ?_; refine xaL (.bool false) (neqI .i64 _ _ _ _ _ _ rfl rfl rfl false (by rw [ykE_now rfl]; rfl) _) ?_; refine xT ?_; go_upto_region 12 with fail; refine wp_region_list ?_; refine xpL (.pointer (some ⟨R,0,none⟩)) ?_; refine xpL (.int .i64 p) ?_; refine xpL (.int .i64 (g.cnt p)) ?_
   refine xaL (.int .i64 (g.cnt p+1)) (addI .i64 _ _ _ _ _ _ _ rfl rfl rfl (by rw [xw6]; omega) _) ?_; replace M:=M.swap; replace M:=M.rot3; replace M:=M.rot3
   replace M:Mm w0 ((R,[[Value.int .i64 g.role],kck g.out,kck g.inn,[Value.map mc],[Value.map m0],[Value.map m1]].flatten)::(mbs mc++((B13,row .u8 32 (ykK g.out g.out.e))::(B10,[.int .i64 3,.int .i64 g.role,.int .i64 p,.int .i64 g.out.e,.int .i64 (g.cnt p),.slice none 0 0])::T))) w14:=M.perm (seal_perm _ _ _ _ _)
   refine xcL (gset_any w0 _ R _ _ _ _ mc _ _ g.cnt CT p (g.cnt p+1) hq M) ?_; rintro e w15 ⟨mc2,rfl,M',C2,o1⟩; clear M CT; have M:=M'.perm (seal_perm _ _ _ _ _).symm; clear M'; replace OF:=OF.trans o1; replace hwz:=xnT hwz o1.size; clear o1
   replace M:Mm w0 ((B13,row .u8 32 (ykK g.out g.out.e))::(B10,[.int .i64 3,.int .i64 g.role,.int .i64 p,.int .i64 g.out.e,.int .i64 (g.cnt p),.slice none 0 0])::(R,[[Value.int .i64 g.role],kck g.out,kck g.inn,[Value.map mc2],[Value.map m0],[Value.map m1]].flatten)::(mbs mc2++T)) w15:=M
   refine xeL ?_; refine xT ?_; go_upto_region 13 with fail; refine wp_region_list ?_; refine xpL (.slice sp t.length cap) ?_; refine xaL (.int .i64 ((t.length:Nat):Int)) (lenS _ 29 5 sp t.length cap rfl Tryz.underlying29 rfl _) ?_; refine xaL (.int .i64 ((t.length+16:Nat):Int)) (addI .i64 _ _ _ _ _ _ _ rfl rfl rfl (by rw [xw6]; omega) _) ?_
   have hlb:=(Below.refl w15.heap.size w15).alloc (xnR _) (.cells (row .u8 (t.length+16) (fun _=>0)).toArray 5); refine actL (w':=w15.alloc (.cells (row .u8 (t.length+16) (fun _=>0)).toArray 5)) (.slice (some ⟨w15.heap.size,0,none⟩) (t.length+16) (t.length+16)) rfl (makeOp _ _ _ _ _ _ rfl rfl rfl (made8 (t.length+16) (by omega) _)) ?_; simp only [aP,lI,l0,lS]
   have hB_:=hwz; replace hwz:=xnT hwz hlb.size; replace OF:=OF.below hlb; replace C2:=C2.below hlb; replace M:=M.box (row .u8 (t.length+16) (fun _=>0)).toArray 5 w15.heap.size rfl; clear hlb; generalize w15.alloc (.cells (row .u8 (t.length+16) (fun _=>0)).toArray 5)=w16 at M hwz OF C2 ⊢; generalize eB_:w15.heap.size=B16 at M ⊢
   have hB_B16:w.heap.size≤B16:=by rw [← eB_]; exact hB_
   clear hB_ eB_
   replace M:Mm w0 ((B16,row .u8 (t.length+16) (fun _=>0))::(B13,row .u8 32 (ykK g.out g.out.e))::(B10,[.int .i64 3,.int .i64 g.role,.int .i64 p,.int .i64 g.out.e,.int .i64 (g.cnt p),.slice none 0 0])::(R,[[Value.int .i64 g.role],kck g.out,kck g.inn,[Value.map mc2],[Value.map m0],[Value.map m1]].flatten)::(mbs mc2++T)) w16:=M
   refine xpL (.pointer (some ⟨B10,5,none⟩)) ?_; replace M:=M.rot3; refine skipOpL rfl (storeAny (.slice (some ⟨B16,0,none⟩) (t.length+16) (t.length+16)) B10 5 29 _ _ rfl rfl rfl rfl rfl (M.isSome mS 5 (by simp)) (M.free mS 5 (by simp)) (by kernel_rfl)) ?_; simp only [Act.put]; replace M:=M.set 5 (by simp) (.slice (some ⟨B16,0,none⟩) (t.length+16) (t.length+16))
   replace hwz:=xnT hwz (Off.size ((Off.refl [B10] _).set (b:=B10) mS 5 (.slice (some ⟨B16,0,none⟩) (t.length+16) (t.length+16)))); replace OF:=OF.and1 ((Off.refl [B10] _).set (b:=B10) mS 5 (.slice (some ⟨B16,0,none⟩) (t.length+16) (t.length+16))) (.inr (by omega))
   replace C2:=C2.off ((Off.refl [B10] _).set (b:=B10) mS 5 (.slice (some ⟨B16,0,none⟩) (t.length+16) (t.length+16))) (M.aside (g:=[_]) (fun p hp=>mT _ (mT _ (mT _ (List.mem_append_left _ hp))))); generalize w16.setCell ⟨B10,5,none⟩ (.slice (some ⟨B16,0,none⟩) (t.length+16) (t.length+16))=w17 at M hwz OF C2 ⊢
   replace M:Mm w0 ((B10,[.int .i64 3,.int .i64 g.role,.int .i64 p,.int .i64 g.out.e,.int .i64 (g.cnt p),.slice (some ⟨B16,0,none⟩) (t.length+16) (t.length+16)])::(B16,row .u8 (t.length+16) (fun _=>0))::(B13,row .u8 32 (ykK g.out g.out.e))::(R,[[Value.int .i64 g.role],kck g.out,kck g.inn,[Value.map mc2],[Value.map m0],[Value.map m1]].flatten)::(mbs mc2++T)) w17:=M
   refine xT ?_; replace M:=M.swap
   have PV:PV w17 (gpk g p (nou (t.length+16))) (some ⟨B16,0,none⟩) (t.length+16):=gpk_pv hw hE (nou_byts _) (by rw [nou_len]; omega) (by rw [nou_len,nou_bl]; exact M.srcRow mS 0 _ _ (by rw [List.drop_zero,List.take_length])) (by rw [nou_len]; exact xnR _) (fun e=>by cases e)
   replace M:Mm w0 ((B16,row .u8 (t.length+16) (fun _=>0))::(B10,[.int .i64 3,.int .i64 g.role,.int .i64 p,.int .i64 g.out.e,.int .i64 (g.cnt p),.slice (some ⟨B16,0,none⟩) ((nou (t.length+16)).length) (t.length+16)])::(B13,row .u8 32 (ykK g.out g.out.e))::(R,[[Value.int .i64 g.role],kck g.out,kck g.inn,[Value.map mc2],[Value.map m0],[Value.map m1]].flatten)::(mbs mc2++T)) w17:=by
    rw [nou_len]
    exact M
   go_upto_region 14 with fail
   refine wp_region_C (S:=fun w'=>Mm w0 ((B16,row .u8 (t.length+16) (fun _=>0))::(B10,[.int .i64 3,.int .i64 g.role,.int .i64 p,.int .i64 g.out.e,.int .i64 (g.cnt p),.slice (some ⟨B16,0,none⟩) ((nou (t.length+16)).length) (t.length+16)])::(B13,row .u8 32 (ykK g.out g.out.e))::(R,[[Value.int .i64 g.role],kck g.out,kck g.inn,[Value.map mc2],[Value.map m0],[Value.map m1]].flatten)::(mbs mc2++T)) w') 8 (by kernel_rfl) M.drew ?_
   clear M; intro M; have hdr:=(Below.refl w17.heap.size w17).drew; replace hwz:=xnT hwz hdr.size; replace OF:=OF.below hdr; replace C2:=C2.below hdr; replace PV:=PV.below hdr (xnR _); clear hdr; generalize w17.drew=w18 at M hwz OF C2 PV ⊢
   refine readC (i:=0) (some 59) rfl (.agg (row .u8 32 (ykK g.out g.out.e)).toArray) rfl rfl (by kernel_rfl) rfl (fun _ M=>loadN 23 _ ⟨B13,0,none⟩ (row .u8 32 (ykK g.out g.out.e)) rfl rfl (fun _=>by kernel_rfl) (fun _=>by rw [row32]; kernel_rfl) (M.part (mI 2 rfl) 0 _ (by rw [List.drop_zero,List.take_length]))) (by kernel_rfl) (by kernel_rfl) (by kernel_rfl) (by kernel_rfl) (fun _ _ _ h=>h) M ?_
   simp only [aP,lI,l0,lS]
   refine readC (i:=1) (some 60) rfl (.agg #[.int .i64 3,.int .i64 g.role,.int .i64 p,.int .i64 g.out.e,.int .i64 (g.cnt p),.slice (some ⟨B16,0,none⟩) ((nou (t.length+16)).length) (t.length+16)]) rfl rfl (by kernel_rfl) rfl (fun _ M=>loadN 70 _ ⟨B10,0,none⟩ [.int .i64 3,.int .i64 g.role,.int .i64 p,.int .i64 g.out.e,.int .i64 (g.cnt p),.slice (some ⟨B16,0,none⟩) ((nou (t.length+16)).length) (t.length+16)] rfl rfl (fun _=>by kernel_rfl) (fun _=>by kernel_rfl) (M.rangeAt (mT _ mS))) (by kernel_rfl) (by kernel_rfl) (by kernel_rfl) (by kernel_rfl) (fun _ _ _ h=>h) M ?_
   simp only [aP,lI,l0,lS]
   refine readC (i:=3) (some 62) rfl (.agg #[.int .i64 3,.int .i64 g.role,.int .i64 p,.int .i64 g.out.e,.int .i64 (g.cnt p),.slice (some ⟨B16,0,none⟩) ((nou (t.length+16)).length) (t.length+16)]) rfl rfl (by kernel_rfl) rfl (fun _ M=>loadN 70 _ ⟨B10,0,none⟩ [.int .i64 3,.int .i64 g.role,.int .i64 p,.int .i64 g.out.e,.int .i64 (g.cnt p),.slice (some ⟨B16,0,none⟩) ((nou (t.length+16)).length) (t.length+16)] rfl rfl (fun _=>by kernel_rfl) (fun _=>by kernel_rfl) (M.rangeAt (mT _ mS))) (by kernel_rfl) (by kernel_rfl) (by kernel_rfl) (by kernel_rfl) (fun _ _ _ h=>h) M ?_
   simp only [aP,lI,l0,lS]; refine readC (i:=5) (some 64) rfl (.slice sp t.length cap) rfl rfl (by kernel_rfl) rfl (fun _ M=>(by kernel_rfl)) (by kernel_rfl) (by kernel_rfl) (by kernel_rfl) (by kernel_rfl) (fun _ _ _ h=>h) M ?_; simp only [aP,lI,l0,lS]
   refine callMC (i:=2) (some 61) rfl (by kernel_rfl) rfl rfl (fun _=>by kernel_rfl) (vnonce_any (gpk g p (nou (t.length+16))) (some ⟨B16,0,none⟩) _ _ (hg.p.mm M) PV) ?_; rintro e w19 ⟨rfl,l⟩; replace M:=M.call l; replace hwz:=xnT hwz l.size; replace OF:=OF.below l; replace C2:=C2.below l; replace PV:=PV.below l (xnR _); clear l
   refine ⟨_,rfl,M,?_⟩
   simp only [aP,lI,l0,lS]; have hz_:=hwz; refine callMC (i:=4) (some 63) rfl (by kernel_rfl) rfl rfl (fun _=>by kernel_rfl) (vhead_any (gpk g p (nou (t.length+16))) (some ⟨B16,0,none⟩) _ _ (hg.p.mm M) PV) ?_; rintro e w20 ⟨⟨v,rfl,hN⟩,l⟩; replace M:=M.call l; replace hwz:=xnT hwz l.size; replace OF:=OF.below l; replace C2:=C2.below l; replace PV:=PV.below l (xnR _)
   have N_20:=NewF.lower hN hz_; clear l hN hz_
   obtain ⟨p20,c20,rfl,hcc_20,hnn_20,_,_⟩:=id N_20
   refine ⟨_,rfl,M,?_⟩
   simp only [aP,lI,l0,lS]; have hlt2:=M.lt (mT _ mS)
   refine callMC (i:=6) (some 65) rfl (by kernel_rfl) rfl rfl (fun _=>by kernel_rfl) (aseal_any (ykK g.out g.out.e) (bl (pno (gpk g p (nou (t.length+16))))) (yk_in _ _) (by rw [gpk_pno hw hE]; exact rno_in _ ⟨hq.1,show p<256 by omega⟩) p20 _ c20 (by rw [gpk_phd hw hE,hdr_length]; decide) hcc_20 hnn_20 (bl (phd (gpk g p (nou (t.length+16))))) (by rw [gpk_phd hw hE]; exact (hdr_byts (p:=gpk g p []) ⟨show 0≤g.role by omega,show g.role<256 by omega⟩ ⟨hq.1,show p<256 by omega⟩).bl) sp t.length cap hlen hcap hnil (bl t) ht.bl _ (hg.mm M).a N_20.src (hs.off OF).1) ?_
   rintro e w21 ⟨B',c21,rfl,⟨hcc_21,hB1,hB2,HA⟩,l⟩; replace M:=M.call l
   have N_21:NewF w21 w.heap.size (t.length+16) (bl (gsT g p t)) (.slice (some ⟨B',0,none⟩) (t.length+16) c21):=by
    refine (NewF.of_has HA hcc_21 (xnT hwz hB1) hB2).congr (fun j hj=>?_)
    unfold gsT
    rw [asl_bl _ _ _ _ _ hj,gpk_pno hw hE,gpk_phd hw hE,ykK_now rfl]
   replace hwz:=xnT hwz l.size; replace OF:=OF.below l; replace C2:=C2.below l; replace N_20:=NewF.below N_20 l; replace PV:=PV.below l (xnR _)
   have hne_:B10≠B':=by omega
   clear l HA hB1 hB2 hlt2 N_20
   refine ⟨_,rfl,M,?_⟩
   simp only [aP,lI,l0,lS]; refine readC (i:=7) (some 66) rfl (.pointer (some ⟨B10,5,none⟩)) rfl rfl (by kernel_rfl) rfl (fun _ M=>(by kernel_rfl)) (by kernel_rfl) (by kernel_rfl) (by kernel_rfl) (by kernel_rfl) (fun _ _ _ h=>h) M ?_; simp only [aP,lI,l0,lS]; replace M:=M.swap; clear PV
   refine skipC (S2:=fun _=>True) none rfl (by kernel_rfl) rfl rfl (storeAny (.slice (some ⟨B',0,none⟩) (t.length+16) c21) B10 5 29 _ _ rfl rfl rfl rfl rfl (M.isSome mS 5 (by simp)) (M.free mS 5 (by simp)) (by kernel_rfl)) (by kernel_rfl) ?_; simp only [Act.put]; replace M:=M.set 5 (by simp) (.slice (some ⟨B',0,none⟩) (t.length+16) c21)
   replace hwz:=xnT hwz (Off.size ((Off.refl [B10] _).set (b:=B10) mS 5 (.slice (some ⟨B',0,none⟩) (t.length+16) c21))); replace OF:=OF.and1 ((Off.refl [B10] _).set (b:=B10) mS 5 (.slice (some ⟨B',0,none⟩) (t.length+16) c21)) (.inr (by omega))
   replace C2:=C2.off ((Off.refl [B10] _).set (b:=B10) mS 5 (.slice (some ⟨B',0,none⟩) (t.length+16) c21)) (M.aside (g:=[_]) (fun p hp=>mT _ (mT _ (mT _ (List.mem_append_left _ hp)))))
   replace N_21:=NewF.offB N_21 ((Off.refl [B10] _).set (b:=B10) mS 5 (.slice (some ⟨B',0,none⟩) (t.length+16) c21)) (fun b hb=>by rw [List.mem_singleton] at hb; subst hb; exact fun c=>hne_ (xm1 c)); generalize w21.setCell ⟨B10,5,none⟩ (.slice (some ⟨B',0,none⟩) (t.length+16) c21)=w22 at M hwz OF C2 N_21 ⊢
   replace M:Mm w0 ((B10,[.int .i64 3,.int .i64 g.role,.int .i64 p,.int .i64 g.out.e,.int .i64 (g.cnt p),.slice (some ⟨B',0,none⟩) (t.length+16) c21])::(B16,row .u8 (t.length+16) (fun _=>0))::(B13,row .u8 32 (ykK g.out g.out.e))::(R,[[Value.int .i64 g.role],kck g.out,kck g.inn,[Value.map mc2],[Value.map m0],[Value.map m1]].flatten)::(mbs mc2++T)) w22:=M
   refine wpAnyH_done (by kernel_rfl) ?_ _
   first | show Exit.then _ _ _ _ _ | show Exit.inBlock _ _ _ _ _
   have PV:PV w22 (gpk g p (gsT g p t)) (some ⟨B',0,none⟩) c21:=gpk_pv hw hE (asl_byts ht) (by rw [gsT_len]; omega) (by rw [gsT_len]; exact N_21.src) (by rw [gsT_len]; exact hcc_21) (fun e=>by cases e)
   replace M:Mm w0 ((B10,[.int .i64 3,.int .i64 g.role,.int .i64 p,.int .i64 g.out.e,.int .i64 (g.cnt p),.slice (some ⟨B',0,none⟩) ((gsT g p t).length) c21])::(B16,row .u8 (t.length+16) (fun _=>0))::(B13,row .u8 32 (ykK g.out g.out.e))::(R,[[Value.int .i64 g.role],kck g.out,kck g.inn,[Value.map mc2],[Value.map m0],[Value.map m1]].flatten)::(mbs mc2++T)) w22:=by
    rw [gsT_len]
    exact M
   clear N_21; go_upto_region 15 with fail; refine wp_region_list ?_
   refine xaL (.agg #[.int .i64 3,.int .i64 g.role,.int .i64 p,.int .i64 g.out.e,.int .i64 (g.cnt p),.slice (some ⟨B',0,none⟩) ((gsT g p t).length) c21]) (loadN 70 _ ⟨B10,0,none⟩ [.int .i64 3,.int .i64 g.role,.int .i64 p,.int .i64 g.out.e,.int .i64 (g.cnt p),.slice (some ⟨B',0,none⟩) ((gsT g p t).length) c21] rfl rfl (fun _=>by kernel_rfl) (fun _=>by kernel_rfl) (M.rangeAt mS)) ?_
   refine xcL (vprint_any (gpk g p (gsT g p t)) (some ⟨B',0,none⟩) _ _ (hg.p.mm M) PV) ?_; rintro e w23 ⟨⟨v,rfl,hO⟩,l⟩; have hN:=NewF.of_own hO
   rw [(gpk_out hw hE).2] at hN
   obtain ⟨sq,cq,rfl,_,_,_,_⟩:=id hN
   have M2:=Mm.newF M l hN; replace hN:=NewF.lower hN hwz; clear hO PV; replace hwz:=xnT hwz l.size; replace OF:=OF.below l; replace C2:=C2.below l; replace M:=M.call l; clear l; refine xeL ?_; refine xpL (.slice sq ((gsB g p t).length) cq) ?_; refine xpL (.int .i64 (pE (gpk g p (gsT g p t)))) ?_; refine xpL (.slice sq ((gsB g p t).length) cq) ?_
   refine xpL (.int .i64 (pE (gpk g p (gsT g p t)))) ?_; refine xT ?_; replace M:=M.rot4
   have MF:Mm w0 ((R,gcf g.role g.out g.inn mc2 m0 m1)::(mbs mc2++(obs sq++T))) w23:=(M2.sub (obs sq++((R,gcf g.role g.out g.inn mc2 m0 m1)::(mbs mc2++T))) ((List.Sublist.refl _).append (List.Sublist.cons _ (List.Sublist.cons _ (List.Sublist.cons _ (List.Sublist.refl _)))))).perm (out_perm _ _ _ _)
   have hE2:=show Hid _ from hE; have hP:=show Hid _ from (gpk_out hw hE).1; have HS:=show Hid _ from (And.intro hN (And.intro MF (And.intro C2 OF))); clear M M2 MF C2 OF hN hE; go_wp2; go_ret2
   first | exact ⟨sq,cq,by rw [hE2.out,← hP.out]; rfl,HS.out.1,mc2,HS.out.2.1,by unfold gsN; rw [hE2.out]; exact HS.out.2.2.1,HS.out.2.2.2⟩ | exact ⟨sq,cq,mc2,by rw [hE2.out,← hP.out]; rfl,HS.out.1,HS.out.2.1,by unfold gsN; rw [hE2.out]; exact HS.out.2.2.1,HS.out.2.2.2⟩
 go_upto_region 0 with fail; refine wp_region_list ?_; refine xpL (.slice none 0 0) ?_; refine xpL (.int .i64 0) ?_; refine xT ?_; go_upto_region 1 with fail; refine wp_region_list ?_; refine xpL (.pointer (some ⟨R,0,none⟩)) ?_; refine xpL (.int .i64 p) ?_
 replace M:Mm w0 ((R,[[Value.int .i64 g.role],kck g.out,kck g.inn,[Value.map mc],[Value.map m0],[Value.map m1]].flatten)::(mbs mc++T)) w:=M
 refine xcL (gcounter_is w0 _ R _ _ _ _ _ _ _ g.cnt CT p hp6 (ctv g.cnt p) rfl M) ?_; rintro e w1 ⟨rfl,l⟩; replace M:=M.call l; replace hwz:=xnT hwz l.size; replace OF:=OF.below l; replace CT:=CT.below l; clear l; refine xeL ?_; refine xpL (.int .i64 (ctv g.cnt p)) ?_; refine xT ?_; go_upto_region 2 with fail; refine wp_region_list ?_; refine xpL (.int .i64 p) ?_
 refine xcL (gispath_is p false (isp_no hq) _) ?_; rintro e w2 ⟨rfl,l⟩; replace M:=M.call l; replace hwz:=xnT hwz l.size; replace OF:=OF.below l; replace CT:=CT.below l; clear l; refine xeL ?_; refine xpL (.bool true) ?_; refine xpL (.bool true) ?_; refine xT ?_; go_upto_region 3 with fail; refine wp_region_list ?_; refine xpL (.slice none 0 0) ?_; refine xpL (.int .i64 1) ?_
 refine xT ?_; have hE:=show Hid _ from (gsE_arg (g:=g) (p:=p) (n:=t.length) hq); have HS:=show Hid _ from (And.intro M (And.intro CT OF)); clear M CT OF; go_wp2; go_ret2
 have hB0:gsB g p t=[]:=gsB_err (by rw [hE.out]; decide)
 rw [hB0,hE.out]
 first | exact ⟨none,0,rfl,NewF.nil _ _ _,mc,HS.out.1,by unfold gsN; rw [hE.out]; exact HS.out.2.1,HS.out.2.2⟩ | exact ⟨none,0,mc,rfl,NewF.nil _ _ _,HS.out.1,by unfold gsN; rw [hE.out]; exact HS.out.2.1,HS.out.2.2⟩
end
section
open Go.RowKit Go.MapKept Go.ChangeMaps Go.WideShapes
theorem see_perm {α:Type} (a b c:α) (m n o p q t:List α):(a::b::c::(m++(n++(o++(p++(q++t)))))).Perm (c::(m++(n++(o++(p++(q++(a::b::t))))))):=by
 have h:=seal_perm a b c (m++(n++(o++(p++q)))) t
 simp only [List.append_assoc] at h
 exact h
theorem PV.off1' {w w':World} {p:Pkt} {bp:Option Addr} {bc b:Nat} (h:PV w p bp bc) (o:Off [b] w w') (hb:∀ ad,bp=some ad→0<p.body.length→ad.block<b):PV w' p bp bc :=
 ⟨fun j hj=>by
  obtain ⟨ad,e,hc⟩:=h.src j hj
  exact ⟨ad,e,o.cell hc (by rw [add_block,List.mem_singleton]; have:=hb ad e (by omega); omega)⟩,h.le,h.nil,h.max,h.byts,h.kind,h.role,h.path,h.epo,h.ctr⟩
theorem Rec_of {p:Pkt} (hk:p.kind=3) (h:pok p=true):(0≤p.path∧p.path<256)∧(0≤p.role∧p.role<256):=by
 rw [pok_rec hk] at h
 obtain ⟨h1,h2,_⟩:=of_decide_eq_true h
 omega
def goT (g:Grd) (p:Pkt):List Int:=if goR g p=0 then goX g p else []
theorem goT_err {g:Grd} {p:Pkt} (h:¬ goR g p=0):goT g p=[]:=if_neg h
theorem goT_ok {g:Grd} {p:Pkt} (h:goR g p=0):goT g p=goX g p:=if_pos h
theorem goR_key {g:Grd} {p:Pkt} (h1:p.kind=3) (h2:¬ p.role=g.role) (h:¬ goL g p=0):goR g p=goL g p:=by
 unfold goR
 rw [if_neg (by rintro (c | c); exact c h1; exact h2 c)]
 by_cases c:p.epo<g.inn.e-1∨g.inn.e+1<p.epo
 · rw [if_pos c]
   unfold goL
   rw [if_neg (by omega),ykE_none (by omega) (by rintro ⟨c1,_⟩; omega)]
 · rw [if_neg c,if_pos h]
theorem goL_near {g:Grd} {p:Pkt} (h:goL g p=0):g.inn.e-1≤p.epo∧p.epo≤g.inn.e+1:=by
 by_cases c:p.epo<g.inn.e-1∨g.inn.e+1<p.epo
 · exfalso
   unfold goL at h
   rw [if_neg (by omega),ykE_none (by omega) (by rintro ⟨c1,_⟩; omega)] at h
   cases h
 · omega
theorem goR_forged {g:Grd} {p:Pkt} (h1:p.kind=3) (h2:¬ p.role=g.role) (h4:goL g p=0) (h5:wchk (g.win p.epo p.path) p.ctr=0) (h6:¬ apE (goK g p) (rno p) (hdr p) p.body=0):goR g p=70:=by
 have h3:=goL_near h4
 unfold goR
 rw [if_neg (by rintro (c | c); exact c h1; exact h2 c),if_neg (by omega),if_neg (fun c=>c h4),if_neg (fun c=>c h5),if_pos h6]
theorem gunseal_any (w0 w:World) (R:Nat) (T:List (Nat × List Value)) (g:Grd) (mc m0 m1:Option Nat) (L0 L1:Wls) (hg:GGlob w0) (hw:GrdW g) (W0:Wns w m0 L0 (g.win g.inn.e)) (W1:Wns w m1 L1 (g.win (g.inn.e-1))) (q:Pkt) (bp:Option Addr) (bc:Nat) (PV:PV w q bp bc) (PVlt:∀ ad,bp=some ad→0<q.body.length→ad.block<w.heap.size) (hpk:q.kind=3→pok q=true) (M:Mm w0 ((R,gcf g.role g.out g.inn mc m0 m1)::(mbs mc++(mbs m0++(mbs m1++(L0.map Prod.snd++(L1.map Prod.snd++T)))))) w) :
 Calls Tryz.prog 30 #[.pointer (some ⟨R,0,none⟩),.agg (pcs q bp bc).toArray] w fun e' w'=>(∃ v,e'=.returned (.tuple #[v,.int .i64 (goR g q)])∧NewL w' w.heap.size (goT g q) v)∧Below w.heap.size w w':=by
 have fold:(.agg #[.int .i64 q.kind,.int .i64 q.role,.int .i64 q.path,.int .i64 q.epo,.int .i64 q.ctr,.slice bp q.body.length bc]:Value)=.agg (pcs q bp bc).toArray:=rfl
 rw [← fold]
 clear fold
 replace M:Mm w0 ((R,[[Value.int .i64 g.role],kck g.out,kck g.inn,[Value.map mc],[Value.map m0],[Value.map m1]].flatten)::(mbs mc++(mbs m0++(mbs m1++(L0.map Prod.snd++(L1.map Prod.snd++T)))))) w:=M
 have hb0:=M.below; have hwz:=xnR w.heap.size; have OF:=Off.refl [] w
 go_enter Tryz.func30,Tryz.ntmps30
 have hgb:=hg.b; have hlo:=hw.inn.lo; have hhi:=hw.inn.hi
 by_cases h1:q.kind=3
 · by_cases h2:q.role=g.role
   · go_upto_region 0 with fail
     refine wp_region_list ?_; have hlb:=(Below.refl w.heap.size w).alloc (xnR _) (.cells #[.int .i64 q.kind,.int .i64 q.role,.int .i64 q.path,.int .i64 q.epo,.int .i64 q.ctr,.slice bp q.body.length bc] 70)
     refine actL (w':=w.alloc (.cells #[.int .i64 q.kind,.int .i64 q.role,.int .i64 q.path,.int .i64 q.epo,.int .i64 q.ctr,.slice bp q.body.length bc] 70)) (.pointer (some ⟨w.heap.size,0,none⟩)) rfl (by kernel_rfl) ?_; simp only [aP,lI,l0,lS]; have hB_:=hwz; replace hwz:=xnT hwz hlb.size; replace OF:=OF.below hlb; replace PV:=PV.below hlb (xnR _)
     replace M:=M.box #[.int .i64 q.kind,.int .i64 q.role,.int .i64 q.path,.int .i64 q.epo,.int .i64 q.ctr,.slice bp q.body.length bc] 70 w.heap.size rfl; clear hlb; generalize w.alloc (.cells #[.int .i64 q.kind,.int .i64 q.role,.int .i64 q.path,.int .i64 q.epo,.int .i64 q.ctr,.slice bp q.body.length bc] 70)=w3 at M hwz OF PV ⊢; generalize eB_:w.heap.size=B3 at M ⊢
     have hB_B3:w.heap.size≤B3:=by rw [← eB_]; exact hB_
     clear hB_ eB_
     replace M:Mm w0 ((B3,[.int .i64 q.kind,.int .i64 q.role,.int .i64 q.path,.int .i64 q.epo,.int .i64 q.ctr,.slice bp q.body.length bc])::(R,[[Value.int .i64 g.role],kck g.out,kck g.inn,[Value.map mc],[Value.map m0],[Value.map m1]].flatten)::(mbs mc++(mbs m0++(mbs m1++(L0.map Prod.snd++(L1.map Prod.snd++T)))))) w3:=M
     refine xpL (.slice none 0 0) ?_; refine xpL (.int .i64 0) ?_; refine xT ?_; go_upto_region 1 with fail
     refine wp_region_held_drew (S:=fun w'=>Mm w0 ((B3,[.int .i64 q.kind,.int .i64 q.role,.int .i64 q.path,.int .i64 q.epo,.int .i64 q.ctr,.slice bp q.body.length bc])::(R,[[Value.int .i64 g.role],kck g.out,kck g.inn,[Value.map mc],[Value.map m0],[Value.map m1]].flatten)::(mbs mc++(mbs m0++(mbs m1++(L0.map Prod.snd++(L1.map Prod.snd++T)))))) w') (by kernel_rfl) M.drew ?_
     clear M; intro M; have hdr:=(Below.refl w3.heap.size w3).drew; replace hwz:=xnT hwz hdr.size; replace OF:=OF.below hdr; replace PV:=PV.below hdr (xnR _); clear hdr; generalize w3.drew=w4 at M hwz OF PV ⊢; refine xrH 0 9 rfl (.pointer (some ⟨B3,0,none⟩)) (fun _ M=>(by kernel_rfl)) M ?_
     refine xrH 1 10 rfl (.int .i64 q.kind) (fun _ M=>load1 3 _ ⟨B3,0,none⟩ _ rfl rfl (fun _=>by kernel_rfl) (M.get mS 0 _ rfl)) M ?_; refine xrH 2 11 rfl (.bool false) (fun _ M=>neqI .i64 _ _ _ _ _ _ rfl rfl rfl false (by rw [h1]; rfl) _) M ?_; refine xrH 3 12 rfl (.bool false) (fun _ M=>(by kernel_rfl)) M ?_
     refine xrH 4 13 rfl (.pointer (some ⟨B3,1,none⟩)) (fun _ M=>(by kernel_rfl)) M ?_; refine xrH 5 14 rfl (.int .i64 q.role) (fun _ M=>load1 3 _ ⟨B3,1,none⟩ _ rfl rfl (fun _=>by kernel_rfl) (M.get mS 1 _ rfl)) M ?_; refine xrH 6 15 rfl (.pointer (some ⟨R,0,none⟩)) (fun _ M=>(by kernel_rfl)) M ?_; refine xrH 7 16 rfl (.pointer (some ⟨R,0,none⟩)) (fun _ M=>(by kernel_rfl)) M ?_
     refine xrH 8 17 rfl (.pointer (some ⟨R,0,none⟩)) (fun _ M=>(by kernel_rfl)) M ?_; refine xrH 9 18 rfl (.int .i64 g.role) (fun _ M=>load1 3 _ ⟨R,0,none⟩ _ rfl rfl (fun _=>by kernel_rfl) (M.get (mT _ mS) 0 _ (flat_get _ [1,98,98,1,1,1] (by simp [kck_len]) 0 0 _ rfl rfl))) M ?_
     refine xrH 10 19 rfl (.bool true) (fun _ M=>eqlI .i64 _ _ _ _ _ _ rfl rfl rfl true (beq_iff_eq.2 h2) _) M ?_; refine xrH 11 20 rfl (.bool true) (fun _ M=>(by kernel_rfl)) M ?_
     refine wpAnyH_done (by kernel_rfl) ?_ _
     first | show Exit.then _ _ _ _ _ | show Exit.inBlock _ _ _ _ _
     go_upto_region 2 with fail; refine wp_region_list ?_; refine xpL (.slice none 0 0) ?_; refine xpL (.int .i64 110) ?_; refine xT ?_; have hE:=show Hid _ from (show goR g q=110 from if_pos (.inr h2))
     have hbel:Below w.heap.size w w4:=⟨M.below.os.trans hb0.os.symm,M.below.tape.trans hb0.tape.symm,M.below.output.trans hb0.output.symm,OF.size,fun b hb=>OF.blk b hb (fun h=>by cases h)⟩
     have HS:=show Hid _ from hbel; clear M OF hbel PV
     try clear hE_
     try clear h4
     try clear h5
     go_wp2; go_ret2
     have hT:goT g q=[]:=goT_err (by rw [hE.out]; decide)
     rw [hT]
     first | exact ⟨⟨_,by rw [hE.out]; rfl,NewF.nil _ _ _⟩,HS.out⟩ | exact ⟨⟨by rw [hE.out]; rfl,NewF.nil _ _ _⟩,HS.out⟩
   go_upto_region 0 with fail; refine wp_region_list ?_; have hlb:=(Below.refl w.heap.size w).alloc (xnR _) (.cells #[.int .i64 q.kind,.int .i64 q.role,.int .i64 q.path,.int .i64 q.epo,.int .i64 q.ctr,.slice bp q.body.length bc] 70)
   refine actL (w':=w.alloc (.cells #[.int .i64 q.kind,.int .i64 q.role,.int .i64 q.path,.int .i64 q.epo,.int .i64 q.ctr,.slice bp q.body.length bc] 70)) (.pointer (some ⟨w.heap.size,0,none⟩)) rfl (by kernel_rfl) ?_; simp only [aP,lI,l0,lS]; have hB_:=hwz; replace hwz:=xnT hwz hlb.size; replace OF:=OF.below hlb; replace PV:=PV.below hlb (xnR _)
   replace M:=M.box #[.int .i64 q.kind,.int .i64 q.role,.int .i64 q.path,.int .i64 q.epo,.int .i64 q.ctr,.slice bp q.body.length bc] 70 w.heap.size rfl; clear hlb; generalize w.alloc (.cells #[.int .i64 q.kind,.int .i64 q.role,.int .i64 q.path,.int .i64 q.epo,.int .i64 q.ctr,.slice bp q.body.length bc] 70)=w5 at M hwz OF PV ⊢; generalize eB_:w.heap.size=B5 at M ⊢
   have hB_B5:w.heap.size≤B5:=by rw [← eB_]; exact hB_
   clear hB_ eB_
   replace M:Mm w0 ((B5,[.int .i64 q.kind,.int .i64 q.role,.int .i64 q.path,.int .i64 q.epo,.int .i64 q.ctr,.slice bp q.body.length bc])::(R,[[Value.int .i64 g.role],kck g.out,kck g.inn,[Value.map mc],[Value.map m0],[Value.map m1]].flatten)::(mbs mc++(mbs m0++(mbs m1++(L0.map Prod.snd++(L1.map Prod.snd++T)))))) w5:=M
   refine xpL (.slice none 0 0) ?_; refine xpL (.int .i64 0) ?_; refine xT ?_; go_upto_region 1 with fail
   refine wp_region_held_drew (S:=fun w'=>Mm w0 ((B5,[.int .i64 q.kind,.int .i64 q.role,.int .i64 q.path,.int .i64 q.epo,.int .i64 q.ctr,.slice bp q.body.length bc])::(R,[[Value.int .i64 g.role],kck g.out,kck g.inn,[Value.map mc],[Value.map m0],[Value.map m1]].flatten)::(mbs mc++(mbs m0++(mbs m1++(L0.map Prod.snd++(L1.map Prod.snd++T)))))) w') (by kernel_rfl) M.drew ?_
   clear M; intro M; have hdr:=(Below.refl w5.heap.size w5).drew; replace hwz:=xnT hwz hdr.size; replace OF:=OF.below hdr; replace PV:=PV.below hdr (xnR _); clear hdr; generalize w5.drew=w6 at M hwz OF PV ⊢; refine xrH 0 9 rfl (.pointer (some ⟨B5,0,none⟩)) (fun _ M=>(by kernel_rfl)) M ?_
   refine xrH 1 10 rfl (.int .i64 q.kind) (fun _ M=>load1 3 _ ⟨B5,0,none⟩ _ rfl rfl (fun _=>by kernel_rfl) (M.get mS 0 _ rfl)) M ?_; refine xrH 2 11 rfl (.bool false) (fun _ M=>neqI .i64 _ _ _ _ _ _ rfl rfl rfl false (by rw [h1]; rfl) _) M ?_; refine xrH 3 12 rfl (.bool false) (fun _ M=>(by kernel_rfl)) M ?_
   refine xrH 4 13 rfl (.pointer (some ⟨B5,1,none⟩)) (fun _ M=>(by kernel_rfl)) M ?_; refine xrH 5 14 rfl (.int .i64 q.role) (fun _ M=>load1 3 _ ⟨B5,1,none⟩ _ rfl rfl (fun _=>by kernel_rfl) (M.get mS 1 _ rfl)) M ?_; refine xrH 6 15 rfl (.pointer (some ⟨R,0,none⟩)) (fun _ M=>(by kernel_rfl)) M ?_; refine xrH 7 16 rfl (.pointer (some ⟨R,0,none⟩)) (fun _ M=>(by kernel_rfl)) M ?_
   refine xrH 8 17 rfl (.pointer (some ⟨R,0,none⟩)) (fun _ M=>(by kernel_rfl)) M ?_; refine xrH 9 18 rfl (.int .i64 g.role) (fun _ M=>load1 3 _ ⟨R,0,none⟩ _ rfl rfl (fun _=>by kernel_rfl) (M.get (mT _ mS) 0 _ (flat_get _ [1,98,98,1,1,1] (by simp [kck_len]) 0 0 _ rfl rfl))) M ?_
   refine xrH 10 19 rfl (.bool false) (fun _ M=>eqlI .i64 _ _ _ _ _ _ rfl rfl rfl false (beq_eq_false_iff_ne.2 h2) _) M ?_; refine xrH 11 20 rfl (.bool false) (fun _ M=>(by kernel_rfl)) M ?_
   refine wpAnyH_done (by kernel_rfl) ?_ _
   first | show Exit.then _ _ _ _ _ | show Exit.inBlock _ _ _ _ _
   go_upto_region 3 with fail; refine wp_region_list ?_; refine xpL (.pointer (some ⟨R,0,none⟩)) ?_; refine xpL (.pointer (some ⟨B5,3,none⟩)) ?_; refine xaL (.int .i64 q.epo) (load1 3 _ ⟨B5,3,none⟩ _ rfl rfl (fun _=>by kernel_rfl) (M.get mS 3 _ rfl)) ?_; replace M:=M.swap; refine xcL (gkey_any w0 _ R _ g.role g.out g.inn mc m0 m1 hgb hw.inn q.epo M) ?_; rintro e w7 ⟨rfl,l⟩
   replace M:=M.call l; replace hwz:=xnT hwz l.size; replace OF:=OF.below l; replace PV:=PV.below l (xnR _); clear l; refine xeL ?_; refine xpL (.tuple #[.agg (row .u8 32 (gkK g.inn q.epo)).toArray,.int .i64 (gkL g.inn q.epo)]) ?_; refine xpL (.agg (row .u8 32 (gkK g.inn q.epo)).toArray) ?_; refine xpL (.int .i64 (gkL g.inn q.epo)) ?_
   have hlb:=(Below.refl w7.heap.size w7).alloc (xnR _) (.cells zu8_32 23); refine actL (w':=w7.alloc (.cells zu8_32 23)) (.pointer (some ⟨w7.heap.size,0,none⟩)) rfl (by kernel_rfl) ?_; simp only [aP,lI,l0,lS]; have hB_:=hwz; replace hwz:=xnT hwz hlb.size; replace OF:=OF.below hlb; replace PV:=PV.below hlb (xnR _); replace M:=M.box zu8_32 23 w7.heap.size rfl; clear hlb
   generalize w7.alloc (.cells zu8_32 23)=w8 at M hwz OF PV ⊢; generalize eB_:w7.heap.size=B8 at M ⊢
   have hB_B8:w.heap.size≤B8:=by rw [← eB_]; exact hB_
   clear hB_ eB_
   replace M:Mm w0 ((B8,row .u8 32 (fun _=>0))::(R,[[Value.int .i64 g.role],kck g.out,kck g.inn,[Value.map mc],[Value.map m0],[Value.map m1]].flatten)::(B5,[.int .i64 q.kind,.int .i64 q.role,.int .i64 q.path,.int .i64 q.epo,.int .i64 q.ctr,.slice bp q.body.length bc])::(mbs mc++(mbs m0++(mbs m1++(L0.map Prod.snd++(L1.map Prod.snd++T)))))) w8:=M
   refine skipOpL rfl (storeP (row .u8 32 (gkK g.inn q.epo)) B8 0 23 _ _ rfl rfl rfl (M.thereP mS 0 32 (Nat.le_of_ble_eq_true rfl)) (by kernel_rfl) (row_one .u8 32 (gkK g.inn q.epo))) ?_; simp only [Act.put]; replace M:=M.setAll (row .u8 32 (gkK g.inn q.epo)) (by first | (rw [row32,row32]; done) | (rw [row32]; rfl) | (rw [row32]; done))
   replace hwz:=xnT hwz (Off.size ((Off.refl [B8] _).setAll (b:=B8) mS 0 (row .u8 32 (gkK g.inn q.epo)))); replace OF:=OF.and1 ((Off.refl [B8] _).setAll (b:=B8) mS 0 (row .u8 32 (gkK g.inn q.epo))) (.inr (by omega)); replace PV:=PV.off1' ((Off.refl [B8] _).setAll (b:=B8) mS 0 (row .u8 32 (gkK g.inn q.epo))) (fun ad e h0=>by have:=PVlt ad e h0; omega)
   generalize w8.setCells B8 0 (row .u8 32 (gkK g.inn q.epo))=w9 at M hwz OF PV ⊢; refine xpL (.int .i64 (gkL g.inn q.epo)) ?_; refine xT ?_
   by_cases h3:goL g q=0
   · go_upto_region 4 with fail
     refine wp_region_list ?_; refine xpL (.int .i64 (gkL g.inn q.epo)) ?_; refine xaL (.bool false) (neqI .i64 _ _ _ _ _ _ rfl rfl rfl false (by rw [show gkL g.inn q.epo=0 from h3]; rfl) _) ?_; refine xT ?_; have hnr:=goL_near h3
     have hep:(q.epo=g.inn.e∧g.win q.epo=g.win g.inn.e)∨(q.epo=g.inn.e-1∧g.win q.epo=g.win (g.inn.e-1))∨(q.epo=g.inn.e+1∧g.win q.epo q.path=[]):=by
      rcases Int.lt_trichotomy q.epo g.inn.e with c | c | c
      · exact .inr (.inl ⟨by omega,by rw [show q.epo=g.inn.e-1 by omega]⟩)
      · exact .inl ⟨c,by rw [c]⟩
      · exact .inr (.inr ⟨by omega,hw.off _ _ (.inr c)⟩)
     replace M:=M.swap; replace M:=M.rot3; replace M:=M.rot3
     by_cases h4:wchk (g.win q.epo q.path) q.ctr=0
     · go_upto_region 6 with fail
       refine wp_region_held_drew (S:=fun w'=>Mm w0 ((B8,row .u8 32 (gkK g.inn q.epo))::(B5,[.int .i64 q.kind,.int .i64 q.role,.int .i64 q.path,.int .i64 q.epo,.int .i64 q.ctr,.slice bp q.body.length bc])::(R,[[Value.int .i64 g.role],kck g.out,kck g.inn,[Value.map mc],[Value.map m0],[Value.map m1]].flatten)::(mbs mc++(mbs m0++(mbs m1++(L0.map Prod.snd++(L1.map Prod.snd++T)))))) w') (by kernel_rfl) M.drew ?_
       clear M; intro M; have hdr:=(Below.refl w9.heap.size w9).drew; replace hwz:=xnT hwz hdr.size; replace OF:=OF.below hdr; replace PV:=PV.below hdr (xnR _); clear hdr; generalize w9.drew=w13 at M hwz OF PV ⊢; refine xrH 0 31 rfl (.pointer (some ⟨R,0,none⟩)) (fun _ M=>(by kernel_rfl)) M ?_; refine xrH 1 32 rfl (.pointer (some ⟨B5,3,none⟩)) (fun _ M=>(by kernel_rfl)) M ?_
       refine xrH 2 33 rfl (.int .i64 q.epo) (fun _ M=>load1 3 _ ⟨B5,3,none⟩ _ rfl rfl (fun _=>by kernel_rfl) (M.get (mT _ mS) 3 _ rfl)) M ?_; refine xrH 3 34 rfl (.pointer (some ⟨B5,2,none⟩)) (fun _ M=>(by kernel_rfl)) M ?_; refine xrH 4 35 rfl (.int .i64 q.path) (fun _ M=>load1 3 _ ⟨B5,2,none⟩ _ rfl rfl (fun _=>by kernel_rfl) (M.get (mT _ mS) 2 _ rfl)) M ?_
       refine xrH 6 37 rfl (.pointer (some ⟨B5,4,none⟩)) (fun _ M=>(by kernel_rfl)) M ?_; refine xrH 7 38 rfl (.int .i64 q.ctr) (fun _ M=>load1 3 _ ⟨B5,4,none⟩ _ rfl rfl (fun _=>by kernel_rfl) (M.get (mT _ mS) 4 _ rfl)) M ?_
       have MW0:Mm w0 ((R,[[Value.int .i64 g.role],kck g.out,kck g.inn,[Value.map mc],[Value.map m0],[Value.map m1]].flatten)::(mbs mc++(mbs m0++(mbs m1++(L0.map Prod.snd++(L1.map Prod.snd++((B8,row .u8 32 (gkK g.inn q.epo))::(B5,[.int .i64 q.kind,.int .i64 q.role,.int .i64 q.path,.int .i64 q.epo,.int .i64 q.ctr,.slice bp q.body.length bc])::T))))))) w13:=M.perm (see_perm _ _ _ _ _ _ _ _ _)
       refine callH (i:=5) (some 36) rfl (by kernel_rfl) rfl rfl (fun _=>by kernel_rfl) (gwin_see w0 _ R _ g.role g.out g.inn mc m0 m1 hw.inn q.epo q.path PV.path (g.win g.inn.e) (g.win (g.inn.e-1)) (g.win q.epo) L0 L1 (W0.off OF (fun _ _ h=>by cases h)) (W1.off OF (fun _ _ h=>by cases h)) hep MW0) ?_; rintro e w14 ⟨⟨v,rfl,hSee⟩,l⟩; replace M:=M.call l; replace hwz:=xnT hwz l.size
       replace OF:=OF.below l; replace PV:=PV.below l (xnR _); clear l MW0
       obtain ⟨Bw,Ww,lw,rfl,hWd,MW⟩:=hSee
       refine ⟨_,rfl,M,?_⟩
       simp only [aP,lI,l0,lS]; refine callH (i:=8) (some 39) rfl (by kernel_rfl) rfl rfl (fun _=>by kernel_rfl) (vcheck14_any w0 _ Bw lw _ Ww (hw.win q.epo q.path) hWd q.ctr PV.ctr MW) ?_; rintro e w15 ⟨rfl,l⟩; replace M:=M.call l; replace hwz:=xnT hwz l.size; replace OF:=OF.below l; replace PV:=PV.below l (xnR _); clear l
       refine ⟨_,rfl,M,?_⟩
       simp only [aP,lI,l0,lS]; refine xrH 9 40 rfl (.bool false) (fun _ M=>neqI .i64 _ _ _ _ _ _ rfl rfl rfl false (by rw [h4]; rfl) _) M ?_
       refine wpAnyH_done (by kernel_rfl) ?_ _
       first | show Exit.then _ _ _ _ _ | show Exit.inBlock _ _ _ _ _
       have hk3:=h1; replace hpk:=hpk h1; have hrc:=Rec_of h1 hpk; have hpt:=hrc.1; have hrl2:=hrc.2; go_upto_region 8 with fail
       refine wp_region_held_drew (S:=fun w'=>Mm w0 ((B8,row .u8 32 (gkK g.inn q.epo))::(B5,[.int .i64 q.kind,.int .i64 q.role,.int .i64 q.path,.int .i64 q.epo,.int .i64 q.ctr,.slice bp q.body.length bc])::(R,[[Value.int .i64 g.role],kck g.out,kck g.inn,[Value.map mc],[Value.map m0],[Value.map m1]].flatten)::(mbs mc++(mbs m0++(mbs m1++(L0.map Prod.snd++(L1.map Prod.snd++T)))))) w') (by kernel_rfl) M.drew ?_
       clear M; intro M; have hdr:=(Below.refl w15.heap.size w15).drew; replace hwz:=xnT hwz hdr.size; replace OF:=OF.below hdr; replace PV:=PV.below hdr (xnR _); clear hdr; generalize w15.drew=w16 at M hwz OF PV ⊢
       refine xrH 0 42 rfl (.agg (row .u8 32 (gkK g.inn q.epo)).toArray) (fun _ M=>loadN 23 _ ⟨B8,0,none⟩ (row .u8 32 (gkK g.inn q.epo)) rfl rfl (fun _=>by kernel_rfl) (fun _=>by rw [row32]; kernel_rfl) (M.part mS 0 _ (by rw [List.drop_zero,List.take_length]))) M ?_
       refine xrH 1 43 rfl (.agg #[.int .i64 q.kind,.int .i64 q.role,.int .i64 q.path,.int .i64 q.epo,.int .i64 q.ctr,.slice bp q.body.length bc]) (fun _ M=>loadN 70 _ ⟨B5,0,none⟩ [.int .i64 q.kind,.int .i64 q.role,.int .i64 q.path,.int .i64 q.epo,.int .i64 q.ctr,.slice bp q.body.length bc] rfl rfl (fun _=>by kernel_rfl) (fun _=>by kernel_rfl) (M.rangeAt (mT _ mS))) M ?_
       refine xrH 3 45 rfl (.agg #[.int .i64 q.kind,.int .i64 q.role,.int .i64 q.path,.int .i64 q.epo,.int .i64 q.ctr,.slice bp q.body.length bc]) (fun _ M=>loadN 70 _ ⟨B5,0,none⟩ [.int .i64 q.kind,.int .i64 q.role,.int .i64 q.path,.int .i64 q.epo,.int .i64 q.ctr,.slice bp q.body.length bc] rfl rfl (fun _=>by kernel_rfl) (fun _=>by kernel_rfl) (M.rangeAt (mT _ mS))) M ?_
       refine xrH 5 47 rfl (.pointer (some ⟨B5,5,none⟩)) (fun _ M=>(by kernel_rfl)) M ?_; refine xrH 6 48 rfl (.slice bp q.body.length bc) (fun _ M=>load1 29 _ ⟨B5,5,none⟩ _ rfl rfl (fun _=>by kernel_rfl) (M.get (mT _ mS) 5 _ rfl)) M ?_; refine callH (i:=2) (some 44) rfl (by kernel_rfl) rfl rfl (fun _=>by kernel_rfl) (vnonce_any q bp _ _ (hg.p.mm M) PV) ?_; rintro e w17 ⟨rfl,l⟩
       replace M:=M.call l; replace hwz:=xnT hwz l.size; replace OF:=OF.below l; replace PV:=PV.below l (xnR _); clear l
       refine ⟨_,rfl,M,?_⟩
       simp only [aP,lI,l0,lS]; have hz_:=hwz; refine callH (i:=4) (some 46) rfl (by kernel_rfl) rfl rfl (fun _=>by kernel_rfl) (vhead_any q bp _ _ (hg.p.mm M) PV) ?_; rintro e w18 ⟨⟨v,rfl,hN⟩,l⟩; replace M:=M.call l; replace hwz:=xnT hwz l.size; replace OF:=OF.below l; replace PV:=PV.below l (xnR _); have N_18:=NewF.lower hN hz_; clear l hN hz_
       obtain ⟨p18,c18,rfl,hcc_18,hnn_18,_,_⟩:=id N_18
       refine ⟨_,rfl,M,?_⟩
       simp only [aP,lI,l0,lS]
       refine callH (i:=7) (some 49) rfl (by kernel_rfl) rfl rfl (fun _=>by kernel_rfl) (aopen_new (gkK g.inn q.epo) (bl (pno q)) (gkK_in _ _) (by rw [rno_pno hk3 hpk]; exact rno_in _ hpt) p18 _ c18 (by rw [hdr_phd hk3 hpk,hdr_length]; decide) hcc_18 (bl (phd q)) (by rw [hdr_phd hk3 hpk]; exact (hdr_byts hrl2 hpt).bl) bp q.body.length bc (by have:=PV.max; omega) PV.le (bl q.body) PV.byts.bl _ (hg.mm M).a N_18.src PV.src) ?_
       rintro e w19 ⟨⟨v_,rfl,hN⟩,l⟩; replace M:=M.call l; have hN:=NewF.lower hN hwz; replace hwz:=xnT hwz l.size; replace OF:=OF.below l; replace N_18:=NewF.below N_18 l; replace PV:=PV.below l (xnR _); clear l; clear N_18
       refine ⟨_,rfl,M,?_⟩
       simp only [aP,lI,l0,lS]; refine xrH 8 41 rfl (.tuple #[v_,.int .i64 (aoE (gkK g.inn q.epo) (bl (pno q)) (phd q).length (bl (phd q)) q.body.length (bl q.body))]) (fun _ M=>(by kernel_rfl)) M ?_; refine xrH 9 50 rfl (v_) (fun _ M=>(by kernel_rfl)) M ?_
       refine xrH 10 51 rfl (.int .i64 (aoE (gkK g.inn q.epo) (bl (pno q)) (phd q).length (bl (phd q)) q.body.length (bl q.body))) (fun _ M=>(by kernel_rfl)) M ?_; refine xrH 11 8 rfl (v_) (fun _ M=>(by kernel_rfl)) M ?_; refine xrH 12 7 rfl (.int .i64 (aoE (gkK g.inn q.epo) (bl (pno q)) (phd q).length (bl (phd q)) q.body.length (bl q.body))) (fun _ M=>(by kernel_rfl)) M ?_
       refine wpAnyH_done (by kernel_rfl) ?_ _
       first | show Exit.then _ _ _ _ _ | show Exit.inBlock _ _ _ _ _
       have hae:aoE (gkK g.inn q.epo) (bl (pno q)) (phd q).length (bl (phd q)) q.body.length (bl q.body)=apE (goK g q) (rno q) (hdr q) q.body:=by
        rw [rno_pno hk3 hpk,hdr_phd hk3 hpk]
        rfl
       by_cases h5:apE (goK g q) (rno q) (hdr q) q.body=0
       · go_upto_region 9 with fail
         refine wp_region_list ?_; refine xpL (.int .i64 (aoE (gkK g.inn q.epo) (bl (pno q)) (phd q).length (bl (phd q)) q.body.length (bl q.body))) ?_; refine xaL (.bool false) (neqI .i64 _ _ _ _ _ _ rfl rfl rfl false (by rw [hae,h5]; rfl) _) ?_; refine xT ?_; go_upto_region 11 with fail; refine wp_region_list ?_; refine xpL (v_) ?_; refine xpL (v_) ?_; refine xpL (.int .i64 0) ?_; refine xT ?_
         have hN2:NewL w19 w.heap.size (goT g q) v_:=by
          have e0:=goR_zero h1 h2 hnr h3 h4 h5
          rw [goT_ok e0]
          unfold NewL goX apT
          rw [List.length_map,List.length_range]
          rw [rno_pno hk3 hpk,hdr_phd hk3 hpk] at hN
          exact hN.congr (fun j hj=>(bl_range _ _ j hj).symm)
         have hE:=show Hid _ from (goR_zero h1 h2 hnr h3 h4 h5)
         have hbel:Below w.heap.size w w19:=⟨M.below.os.trans hb0.os.symm,M.below.tape.trans hb0.tape.symm,M.below.output.trans hb0.output.symm,OF.size,fun b hb=>OF.blk b hb (fun h=>by cases h)⟩
         have HS:=show Hid _ from (And.intro hN2 hbel); clear M OF hbel PV hN hN2 hae h4 h5; go_wp2; go_ret2
         first | exact ⟨⟨_,by rw [hE.out]; rfl,HS.out.1⟩,HS.out.2⟩ | exact ⟨⟨by rw [hE.out]; rfl,HS.out.1⟩,HS.out.2⟩
       go_upto_region 9 with fail; refine wp_region_list ?_; refine xpL (.int .i64 (aoE (gkK g.inn q.epo) (bl (pno q)) (phd q).length (bl (phd q)) q.body.length (bl q.body))) ?_; refine xaL (.bool true) (neqI .i64 _ _ _ _ _ _ rfl rfl rfl true (by rw [hae,bne_iff_ne]; exact h5) _) ?_; refine xT ?_; go_upto_region 10 with fail; refine wp_region_list ?_; refine xpL (.slice none 0 0) ?_
       refine xpL (.int .i64 70) ?_; refine xT ?_; clear hN; have hE:=show Hid _ from (goR_forged h1 h2 h3 h4 h5)
       have hbel:Below w.heap.size w w19:=⟨M.below.os.trans hb0.os.symm,M.below.tape.trans hb0.tape.symm,M.below.output.trans hb0.output.symm,OF.size,fun b hb=>OF.blk b hb (fun h=>by cases h)⟩
       have HS:=show Hid _ from hbel; clear M OF hbel PV
       try clear hE_
       try clear h4
       try clear h5
       go_wp2; go_ret2
       have hT:goT g q=[]:=goT_err (by rw [hE.out]; decide)
       rw [hT]
       first | exact ⟨⟨_,by rw [hE.out]; rfl,NewF.nil _ _ _⟩,HS.out⟩ | exact ⟨⟨by rw [hE.out]; rfl,NewF.nil _ _ _⟩,HS.out⟩
     go_upto_region 6 with fail
     refine wp_region_held_drew (S:=fun w'=>Mm w0 ((B8,row .u8 32 (gkK g.inn q.epo))::(B5,[.int .i64 q.kind,.int .i64 q.role,.int .i64 q.path,.int .i64 q.epo,.int .i64 q.ctr,.slice bp q.body.length bc])::(R,[[Value.int .i64 g.role],kck g.out,kck g.inn,[Value.map mc],[Value.map m0],[Value.map m1]].flatten)::(mbs mc++(mbs m0++(mbs m1++(L0.map Prod.snd++(L1.map Prod.snd++T)))))) w') (by kernel_rfl) M.drew ?_
     clear M; intro M; have hdr:=(Below.refl w9.heap.size w9).drew; replace hwz:=xnT hwz hdr.size; replace OF:=OF.below hdr; replace PV:=PV.below hdr (xnR _); clear hdr; generalize w9.drew=w10 at M hwz OF PV ⊢; refine xrH 0 31 rfl (.pointer (some ⟨R,0,none⟩)) (fun _ M=>(by kernel_rfl)) M ?_; refine xrH 1 32 rfl (.pointer (some ⟨B5,3,none⟩)) (fun _ M=>(by kernel_rfl)) M ?_
     refine xrH 2 33 rfl (.int .i64 q.epo) (fun _ M=>load1 3 _ ⟨B5,3,none⟩ _ rfl rfl (fun _=>by kernel_rfl) (M.get (mT _ mS) 3 _ rfl)) M ?_; refine xrH 3 34 rfl (.pointer (some ⟨B5,2,none⟩)) (fun _ M=>(by kernel_rfl)) M ?_; refine xrH 4 35 rfl (.int .i64 q.path) (fun _ M=>load1 3 _ ⟨B5,2,none⟩ _ rfl rfl (fun _=>by kernel_rfl) (M.get (mT _ mS) 2 _ rfl)) M ?_
     refine xrH 6 37 rfl (.pointer (some ⟨B5,4,none⟩)) (fun _ M=>(by kernel_rfl)) M ?_; refine xrH 7 38 rfl (.int .i64 q.ctr) (fun _ M=>load1 3 _ ⟨B5,4,none⟩ _ rfl rfl (fun _=>by kernel_rfl) (M.get (mT _ mS) 4 _ rfl)) M ?_
     have MW0:Mm w0 ((R,[[Value.int .i64 g.role],kck g.out,kck g.inn,[Value.map mc],[Value.map m0],[Value.map m1]].flatten)::(mbs mc++(mbs m0++(mbs m1++(L0.map Prod.snd++(L1.map Prod.snd++((B8,row .u8 32 (gkK g.inn q.epo))::(B5,[.int .i64 q.kind,.int .i64 q.role,.int .i64 q.path,.int .i64 q.epo,.int .i64 q.ctr,.slice bp q.body.length bc])::T))))))) w10:=M.perm (see_perm _ _ _ _ _ _ _ _ _)
     refine callH (i:=5) (some 36) rfl (by kernel_rfl) rfl rfl (fun _=>by kernel_rfl) (gwin_see w0 _ R _ g.role g.out g.inn mc m0 m1 hw.inn q.epo q.path PV.path (g.win g.inn.e) (g.win (g.inn.e-1)) (g.win q.epo) L0 L1 (W0.off OF (fun _ _ h=>by cases h)) (W1.off OF (fun _ _ h=>by cases h)) hep MW0) ?_; rintro e w11 ⟨⟨v,rfl,hSee⟩,l⟩; replace M:=M.call l; replace hwz:=xnT hwz l.size
     replace OF:=OF.below l; replace PV:=PV.below l (xnR _); clear l MW0
     obtain ⟨Bw,Ww,lw,rfl,hWd,MW⟩:=hSee
     refine ⟨_,rfl,M,?_⟩
     simp only [aP,lI,l0,lS]; refine callH (i:=8) (some 39) rfl (by kernel_rfl) rfl rfl (fun _=>by kernel_rfl) (vcheck14_any w0 _ Bw lw _ Ww (hw.win q.epo q.path) hWd q.ctr PV.ctr MW) ?_; rintro e w12 ⟨rfl,l⟩; replace M:=M.call l; replace hwz:=xnT hwz l.size; replace OF:=OF.below l; replace PV:=PV.below l (xnR _); clear l
     refine ⟨_,rfl,M,?_⟩
     simp only [aP,lI,l0,lS]; refine xrH 9 40 rfl (.bool true) (fun _ M=>neqI .i64 _ _ _ _ _ _ rfl rfl rfl true (by rw [bne_iff_ne]; exact h4) _) M ?_
     refine wpAnyH_done (by kernel_rfl) ?_ _
     first | show Exit.then _ _ _ _ _ | show Exit.inBlock _ _ _ _ _
     go_upto_region 7 with fail; refine wp_region_list ?_; refine xpL (.slice none 0 0) ?_; refine xpL (.int .i64 140) ?_; refine xT ?_; have hE:=show Hid _ from (goR_old h1 h2 hnr h3 h4)
     have hbel:Below w.heap.size w w12:=⟨M.below.os.trans hb0.os.symm,M.below.tape.trans hb0.tape.symm,M.below.output.trans hb0.output.symm,OF.size,fun b hb=>OF.blk b hb (fun h=>by cases h)⟩
     have HS:=show Hid _ from hbel; clear M OF hbel PV
     try clear hE_
     try clear h4
     try clear h5
     go_wp2; go_ret2
     have hT:goT g q=[]:=goT_err (by rw [hE.out]; decide)
     rw [hT]
     first | exact ⟨⟨_,by rw [hE.out]; rfl,NewF.nil _ _ _⟩,HS.out⟩ | exact ⟨⟨by rw [hE.out]; rfl,NewF.nil _ _ _⟩,HS.out⟩
   go_upto_region 4 with fail; refine wp_region_list ?_; refine xpL (.int .i64 (gkL g.inn q.epo)) ?_; refine xaL (.bool true) (neqI .i64 _ _ _ _ _ _ rfl rfl rfl true (by rw [bne_iff_ne]; exact h3) _) ?_; refine xT ?_; go_upto_region 5 with fail; refine wp_region_list ?_; refine xpL (.int .i64 (gkL g.inn q.epo)) ?_; refine xpL (.slice none 0 0) ?_; refine xpL (.int .i64 (gkL g.inn q.epo)) ?_
   refine xT ?_; have hE:=show Hid _ from (goR_key h1 h2 h3)
   have hbel:Below w.heap.size w w9:=⟨M.below.os.trans hb0.os.symm,M.below.tape.trans hb0.tape.symm,M.below.output.trans hb0.output.symm,OF.size,fun b hb=>OF.blk b hb (fun h=>by cases h)⟩
   have HS:=show Hid _ from hbel; clear M OF hbel PV
   try clear hE_
   try clear h4
   try clear h5
   go_wp2; go_ret2
   have hT:goT g q=[]:=goT_err (by rw [hE.out]; exact h3)
   rw [hT]
   first | exact ⟨⟨_,by rw [hE.out]; rfl,NewF.nil _ _ _⟩,HS.out⟩ | exact ⟨⟨by rw [hE.out]; rfl,NewF.nil _ _ _⟩,HS.out⟩
 go_upto_region 0 with fail; refine wp_region_list ?_; have hlb:=(Below.refl w.heap.size w).alloc (xnR _) (.cells #[.int .i64 q.kind,.int .i64 q.role,.int .i64 q.path,.int .i64 q.epo,.int .i64 q.ctr,.slice bp q.body.length bc] 70)
 refine actL (w':=w.alloc (.cells #[.int .i64 q.kind,.int .i64 q.role,.int .i64 q.path,.int .i64 q.epo,.int .i64 q.ctr,.slice bp q.body.length bc] 70)) (.pointer (some ⟨w.heap.size,0,none⟩)) rfl (by kernel_rfl) ?_; simp only [aP,lI,l0,lS]; have hB_:=hwz; replace hwz:=xnT hwz hlb.size; replace OF:=OF.below hlb; replace PV:=PV.below hlb (xnR _)
 replace M:=M.box #[.int .i64 q.kind,.int .i64 q.role,.int .i64 q.path,.int .i64 q.epo,.int .i64 q.ctr,.slice bp q.body.length bc] 70 w.heap.size rfl; clear hlb; generalize w.alloc (.cells #[.int .i64 q.kind,.int .i64 q.role,.int .i64 q.path,.int .i64 q.epo,.int .i64 q.ctr,.slice bp q.body.length bc] 70)=w1 at M hwz OF PV ⊢; generalize eB_:w.heap.size=B1 at M ⊢
 have hB_B1:w.heap.size≤B1:=by rw [← eB_]; exact hB_
 clear hB_ eB_
 replace M:Mm w0 ((B1,[.int .i64 q.kind,.int .i64 q.role,.int .i64 q.path,.int .i64 q.epo,.int .i64 q.ctr,.slice bp q.body.length bc])::(R,[[Value.int .i64 g.role],kck g.out,kck g.inn,[Value.map mc],[Value.map m0],[Value.map m1]].flatten)::(mbs mc++(mbs m0++(mbs m1++(L0.map Prod.snd++(L1.map Prod.snd++T)))))) w1:=M
 refine xpL (.slice none 0 0) ?_; refine xpL (.int .i64 0) ?_; refine xT ?_; go_upto_region 1 with fail
 refine wp_region_held_drew (S:=fun w'=>Mm w0 ((B1,[.int .i64 q.kind,.int .i64 q.role,.int .i64 q.path,.int .i64 q.epo,.int .i64 q.ctr,.slice bp q.body.length bc])::(R,[[Value.int .i64 g.role],kck g.out,kck g.inn,[Value.map mc],[Value.map m0],[Value.map m1]].flatten)::(mbs mc++(mbs m0++(mbs m1++(L0.map Prod.snd++(L1.map Prod.snd++T)))))) w') (by kernel_rfl) M.drew ?_
 clear M; intro M; have hdr:=(Below.refl w1.heap.size w1).drew; replace hwz:=xnT hwz hdr.size; replace OF:=OF.below hdr; replace PV:=PV.below hdr (xnR _); clear hdr; generalize w1.drew=w2 at M hwz OF PV ⊢; refine xrH 0 9 rfl (.pointer (some ⟨B1,0,none⟩)) (fun _ M=>(by kernel_rfl)) M ?_
 refine xrH 1 10 rfl (.int .i64 q.kind) (fun _ M=>load1 3 _ ⟨B1,0,none⟩ _ rfl rfl (fun _=>by kernel_rfl) (M.get mS 0 _ rfl)) M ?_; refine xrH 2 11 rfl (.bool true) (fun _ M=>neqI .i64 _ _ _ _ _ _ rfl rfl rfl true (by rw [bne_iff_ne]; exact h1) _) M ?_; refine xrH 3 12 rfl (.bool true) (fun _ M=>(by kernel_rfl)) M ?_
 refine mayH (i:=4) (some 13) rfl false undef undef rfl rfl rfl (fun hc=>by cases hc) (by kernel_rfl) (by kernel_rfl) (by kernel_rfl) (fun _ _ _ h=>h) M ?_; simp only [aP,lI,l0,lS]; refine mayH (i:=5) (some 14) rfl false undef undef rfl rfl rfl (fun hc=>by cases hc) (by kernel_rfl) (by kernel_rfl) (by kernel_rfl) (fun _ _ _ h=>h) M ?_; simp only [aP,lI,l0,lS]
 refine mayH (i:=6) (some 15) rfl false undef undef rfl rfl rfl (fun hc=>by cases hc) (by kernel_rfl) (by kernel_rfl) (by kernel_rfl) (fun _ _ _ h=>h) M ?_; simp only [aP,lI,l0,lS]; refine mayH (i:=7) (some 16) rfl false undef undef rfl rfl rfl (fun hc=>by cases hc) (by kernel_rfl) (by kernel_rfl) (by kernel_rfl) (fun _ _ _ h=>h) M ?_; simp only [aP,lI,l0,lS]
 refine mayH (i:=8) (some 17) rfl false undef undef rfl rfl rfl (fun hc=>by cases hc) (by kernel_rfl) (by kernel_rfl) (by kernel_rfl) (fun _ _ _ h=>h) M ?_; simp only [aP,lI,l0,lS]; refine mayH (i:=9) (some 18) rfl false undef undef rfl rfl rfl (fun hc=>by cases hc) (by kernel_rfl) (by kernel_rfl) (by kernel_rfl) (fun _ _ _ h=>h) M ?_; simp only [aP,lI,l0,lS]
 refine mayH (i:=10) (some 19) rfl false undef undef rfl rfl rfl (fun hc=>by cases hc) (by kernel_rfl) (by kernel_rfl) (by kernel_rfl) (fun _ _ _ h=>h) M ?_; simp only [aP,lI,l0,lS]; refine xrH 11 20 rfl (.bool true) (fun _ M=>(by kernel_rfl)) M ?_
 refine wpAnyH_done (by kernel_rfl) ?_ _
 first | show Exit.then _ _ _ _ _ | show Exit.inBlock _ _ _ _ _
 go_upto_region 2 with fail; refine wp_region_list ?_; refine xpL (.slice none 0 0) ?_; refine xpL (.int .i64 110) ?_; refine xT ?_; have hE:=show Hid _ from (show goR g q=110 from if_pos (.inl h1))
 have hbel:Below w.heap.size w w2:=⟨M.below.os.trans hb0.os.symm,M.below.tape.trans hb0.tape.symm,M.below.output.trans hb0.output.symm,OF.size,fun b hb=>OF.blk b hb (fun h=>by cases h)⟩
 have HS:=show Hid _ from hbel; clear M OF hbel PV
 try clear hE_
 try clear h4
 try clear h5
 go_wp2; go_ret2
 have hT:goT g q=[]:=goT_err (by rw [hE.out]; decide)
 rw [hT]
 first | exact ⟨⟨_,by rw [hE.out]; rfl,NewF.nil _ _ _⟩,HS.out⟩ | exact ⟨⟨by rw [hE.out]; rfl,NewF.nil _ _ _⟩,HS.out⟩
end
end Go.Proofs.YtknodedhcdpbiaaGreatDoor
