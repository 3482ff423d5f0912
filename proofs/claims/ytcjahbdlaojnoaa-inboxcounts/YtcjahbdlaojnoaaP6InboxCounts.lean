/- Texts of Ds Dt Opn Open19, joined. -/
import Derived.Test.YtcjahbdlaojnoaaP5InboxCounts
import Derived.ProofKit
import Derived.LaidMore
import Derived.OpenShut
import Derived.Deep.Strs
import Derived.Stop.Joined
import Derived.Test.YtcjahbdlaojnoaaRows
set_option maxRecDepth 20000
set_option maxHeartbeats 64000000
namespace Go.Proofs.Ytcjahbdlaojnoaa
open Go.RowKit
def lenV:Value→Nat
 | .slice _ n _=>n
 | _=>0
theorem vread19 (w0 w:World) (R:Nat) (l:List (Nat × List Value)) (x:Ibx) (s:Int) (nb:Nat) (sb sc:Option Addr) (cb cc:Nat) (C:Rgs17) (hw:IbxW x) (hdn:x.dn<10000000) (hr:IRel x s nb C) (m:Int) (hm:i64 m) (M0:Mm w0 ((R,[.int .i64 s,.int .i64 ((x.dn:Nat):Int),.slice sb nb cb,.slice sc C.length cc])::(obs sc++(obs sb++l))) w) (W_b:Wnd w sb nb cb (fun j=>x.b (x.dn+j))) (V_c:w.ownsRow 0 44 2 (.slice sc C.length cc) C.length (wrc C)) :
 Calls Try.prog 13 #[.pointer (some ⟨R,0,none⟩),.int .i64 m] w fun e w'=>∃ B sb' cb',e=.returned (.slice (some ⟨B,0,none⟩) (irN x m) (irN x m))∧w.heap.size≤B∧Mm w0 ((R,[.int .i64 s,.int .i64 ((x.dn+irN x m:Nat):Int),.slice sb' (nb-(irN x m)) cb',.slice sc C.length cc])::(B,row .u8 (irN x m) (fun j=>x.b (x.dn+j)))::(obs sc++(obs sb'++l))) w'∧Wnd w' sb' (nb-(irN x m)) cb' (fun j=>x.b (x.dn+irN x m+j))∧w'.ownsRow 0 44 2 (.slice sc C.length cc) C.length (wrc C)∧Off (R::(ob sc++ob sb)) w w':=by
 have M:=M0; clear M0; have hb0:=M.below
 obtain ⟨XS,hXS⟩:∃ X_,X_=(R::(ob sc++ob sb)):=⟨_,rfl⟩
 have hRX:R∈XS:=by rw [hXS]; simp
 have L_c:Lies XS w sc:=fun b_ hb_=>.inl (by rw [hXS]; simp [hb_])
 have L_b:Lies XS w sb:=fun b_ hb_=>.inl (by rw [hXS]; simp [hb_])
 have OF:=Off.refl XS w; have hs2:=hw.s2; have hlc:=hr.len hw; have hnb:=hr.nbs hw; have hrn:=hr.rN hw m; have hdh:=ihr_dn hw; have hhl:=ihr_le x
 have hlim:ilim x<12000000:=by unfold ilim; omega
 unfold i64 at hm
 have hirn:=show Hid _ from (show ((irN x m:Nat):Int)=max 0 (min m (((ihr x:Nat):Int)-((x.dn:Nat):Int))) by unfold irN; omega)
 go_enter Try.func13,Try.ntmps13
 go_upto_region 0 with fail; refine wp_region_list ?_; refine xpL (.slice none 0 0) ?_; refine xT ?_; go_upto_region 1 with fail; have hdr:=(Below.refl w.heap.size w).drew; replace M:=M.drew; replace V_c:=ownsRow_bel V_c hdr; replace W_b:=W_b.bel hdr; replace OF:=OF.below hdr; clear hdr
 refine wp_region_held_drew (S:=fun w'=>Mm w0 [(R,[.int .i64 s,.int .i64 ((x.dn:Nat):Int),.slice sb nb cb,.slice sc C.length cc])] w') (by kernel_rfl) (M.sub _ (List.cons_sublist_cons.2 (List.nil_sublist _))) ?_; intro _; generalize w.drew=w1 at M V_c W_b OF ⊢; refine xrH 0 6 rfl (.int .i64 m) (fun _ hS=>(by kernel_rfl)) (M.sub _ (List.cons_sublist_cons.2 (List.nil_sublist _))) ?_
 refine xrH 1 7 rfl (.pointer (some ⟨R,0,none⟩)) (fun _ hS=>(by kernel_rfl)) (M.sub _ (List.cons_sublist_cons.2 (List.nil_sublist _))) ?_; refine xrH 3 9 rfl (.pointer (some ⟨R,0,none⟩)) (fun _ hS=>(by kernel_rfl)) (M.sub _ (List.cons_sublist_cons.2 (List.nil_sublist _))) ?_
 refine xrH 4 10 rfl (.pointer (some ⟨R,0,none⟩)) (fun _ hS=>(by kernel_rfl)) (M.sub _ (List.cons_sublist_cons.2 (List.nil_sublist _))) ?_; refine xrH 5 11 rfl (.pointer (some ⟨R,1,none⟩)) (fun _ hS=>(by kernel_rfl)) (M.sub _ (List.cons_sublist_cons.2 (List.nil_sublist _))) ?_
 refine xrH 6 12 rfl (.int .i64 ((x.dn:Nat):Int)) (fun _ hS=>load1 3 _ ⟨R,1,none⟩ _ rfl rfl (fun _=>by kernel_rfl) (hS.get mS 1 _ rfl)) (M.sub _ (List.cons_sublist_cons.2 (List.nil_sublist _))) ?_; have key:=vhere19 R sc cc C hr.can hlc _ (M.get mS 3 _ rfl) (NewW.ofOwn V_c)
 rw [hr.here hw] at key
 refine callH (i:=2) (some 8) rfl (by kernel_rfl) rfl rfl (fun _=>by kernel_rfl) key ?_; clear key; rintro e w2 ⟨rfl,l_⟩; replace M:=M.call l_; replace V_c:=ownsRow_bel V_c l_; replace W_b:=W_b.bel l_; replace OF:=OF.below l_; clear l_
 refine ⟨_,rfl,(M.sub _ (List.cons_sublist_cons.2 (List.nil_sublist _))),?_⟩
 simp only [aP,lI,l0,lS]; refine xrH 7 13 rfl (.int .i64 (((ihr x:Nat):Int)-((x.dn:Nat):Int))) (fun _ hS=>subI .i64 _ _ _ _ _ _ _ rfl rfl rfl (by rw [xw6]; omega) _) (M.sub _ (List.cons_sublist_cons.2 (List.nil_sublist _))) ?_
 refine xrH 8 14 rfl (.int .i64 (min m (((ihr x:Nat):Int)-((x.dn:Nat):Int)))) (fun _ hS=>minI .i64 .i64 _ _ _ _ _ _ _ rfl rfl rfl (by split <;> omega) _) (M.sub _ (List.cons_sublist_cons.2 (List.nil_sublist _))) ?_
 refine xrH 9 15 rfl (.int .i64 ((irN x m:Nat):Int)) (fun _ hS=>maxI .i64 .i64 _ _ _ _ _ _ _ rfl rfl rfl (by have h_:=hirn.out; split <;> omega) _) (M.sub _ (List.cons_sublist_cons.2 (List.nil_sublist _))) ?_; have hlb:=(Below.refl w2.heap.size w2).alloc (xnR _) (.cells (row .u8 (irN x m) (fun _=>0)).toArray 5)
 refine onlyH (i:=10) (w':=w2.alloc (.cells (row .u8 (irN x m) (fun _=>0)).toArray 5)) (some 16) rfl (.slice (some ⟨w2.heap.size,0,none⟩) (irN x m) (irN x m)) (by kernel_rfl) rfl rfl (makeOp _ _ _ _ _ _ rfl rfl rfl (made8 (irN x m) (by omega) _)) ((M.call hlb).sub _ (List.cons_sublist_cons.2 (List.nil_sublist _))) ?_; simp only [aP,lI,l0,lS]; have hB_:=OF.size
 replace V_c:=ownsRow_bel V_c hlb; replace W_b:=W_b.bel hlb; replace OF:=OF.below hlb; replace M:=M.box (row .u8 (irN x m) (fun _=>0)).toArray 5 w2.heap.size rfl; clear hlb; generalize w2.alloc (.cells (row .u8 (irN x m) (fun _=>0)).toArray 5)=w3 at M V_c W_b OF ⊢; generalize eB_:w2.heap.size=B3 at M ⊢
 have hB_B3:w.heap.size≤B3:=by rw [← eB_]; exact hB_
 clear hB_ eB_
 replace M:Mm w0 ((B3,row .u8 (irN x m) (fun _=>0))::(R,[.int .i64 s,.int .i64 ((x.dn:Nat):Int),.slice sb nb cb,.slice sc C.length cc])::((obs sc)++((obs sb)++l))) w3:=M
 replace M:=M.swap; refine xrH 11 5 rfl (.slice (some ⟨B3,0,none⟩) (irN x m) (irN x m)) (fun _ hS=>(by kernel_rfl)) (M.sub _ (List.cons_sublist_cons.2 (List.nil_sublist _))) ?_
 refine wpAnyH_done (by kernel_rfl) ?_ _
 first | show Exit.then _ _ _ _ _ | show Exit.inBlock _ _ _ _ _
 go_upto_region 2 with fail; refine wp_region_list ?_; refine xpL (.slice (some ⟨B3,0,none⟩) (irN x m) (irN x m)) ?_; refine xpL (.pointer (some ⟨R,0,none⟩)) ?_; refine xpL (.pointer (some ⟨R,0,none⟩)) ?_; refine xpL (.pointer (some ⟨R,2,none⟩)) ?_; refine xaL (.slice sb nb cb) (load1 28 _ ⟨R,2,none⟩ _ rfl rfl (fun _=>by kernel_rfl) (M.get mS 2 _ rfl)) ?_; replace M:=M.swap
 have hsr:Src w3 sb (irN x m) (fun j=>x.b (x.dn+j)):=fun j_ hj_=>W_b.src j_ (by omega)
 have hth:=M.there mS (irN x m) (row_length ..).symm
 refine actL (w':=w3.setCells B3 0 (row .u8 (irN x m) (fun j=>x.b (x.dn+j)))) (.int .i64 (((irN x m):Nat):Int)) rfl (run_copy_wnd _ _ 28 28 5 rfl Try.underlying28 (by kernel_rfl) B3 (irN x m) (irN x m) nb cb (irN x m) (fun j=>x.b (x.dn+j)) sb rfl rfl (by show (irN x m)=min _ _; omega) hth hsr) ?_
 simp only [aP,lI,l0,lS]; replace M:=M.setAll (row .u8 (irN x m) (fun j=>x.b (x.dn+j))) (by rw [row_length,row_length]); replace V_c:=ownsRow_away V_c ((Off.refl [B3] _).setAll (b:=B3) mS 0 (row .u8 (irN x m) (fun j=>x.b (x.dn+j)))) (fun b_ hb_=>by obtain rfl:=xm1 hb_; exact M.awayB (fun p_ hp_=>by simp [hp_]))
 replace W_b:=W_b.off ((Off.refl [B3] _).setAll (b:=B3) mS 0 (row .u8 (irN x m) (fun j=>x.b (x.dn+j)))) (fun b_ hb_=>by obtain rfl:=xm1 hb_; exact M.awayB (fun p_ hp_=>by simp [hp_])); replace OF:=OF.and1 ((Off.refl [B3] _).setAll (b:=B3) mS 0 (row .u8 (irN x m) (fun j=>x.b (x.dn+j)))) (.inr hB_B3); clear hsr hth
 generalize w3.setCells B3 0 (row .u8 (irN x m) (fun j=>x.b (x.dn+j)))=w4 at M V_c W_b OF ⊢
 replace M:Mm w0 ((B3,row .u8 (irN x m) (fun j=>x.b (x.dn+j)))::(R,[.int .i64 s,.int .i64 ((x.dn:Nat):Int),.slice sb nb cb,.slice sc C.length cc])::((obs sc)++((obs sb)++l))) w4:=M
 replace M:=M.swap; refine xT ?_; go_upto_region 3 with fail; refine wp_region_list ?_; refine xpL (.pointer (some ⟨R,0,none⟩)) ?_; refine xpL (.pointer (some ⟨R,0,none⟩)) ?_; refine xpL (.pointer (some ⟨R,0,none⟩)) ?_; refine xpL (.pointer (some ⟨R,2,none⟩)) ?_; refine xaL (.slice sb nb cb) (load1 28 _ ⟨R,2,none⟩ _ rfl rfl (fun _=>by kernel_rfl) (M.get mS 2 _ rfl)) ?_
 refine xpL (.slice (some ⟨B3,0,none⟩) (irN x m) (irN x m)) ?_; refine readL (.int .i64 (((irN x m):Nat):Int)) rfl (lenS _ 28 5 (some ⟨B3,0,none⟩) (irN x m) (irN x m) rfl Try.underlying28 rfl _) ?_; simp only [aP,lI,l0,lS]
 refine xaL (.slice (slc sb cb (irN x m)) (nb-(irN x m)) (cb-(irN x m))) (cutOp 28 _ _ _ _ _ rfl rfl rfl (slc_run (P:=Try.prog) (t:=28) Try.underlying28 (fun _=>by kernel_rfl) sb nb cb (irN x m) (by omega) _)) ?_; refine xpL (.pointer (some ⟨R,0,none⟩)) ?_; refine xpL (.pointer (some ⟨R,2,none⟩)) ?_
 refine skipOpL rfl (storeAny (.slice (slc sb cb (irN x m)) (nb-(irN x m)) (cb-(irN x m))) R 2 28 _ _ rfl rfl rfl rfl rfl (M.isSome mS 2 (by simp)) (M.free mS 2 (by simp)) (by kernel_rfl)) ?_; simp only [Act.put]; replace M:=M.set 2 (by simp) (.slice (slc sb cb (irN x m)) (nb-(irN x m)) (cb-(irN x m)))
 replace V_c:=ownsRow_away V_c ((Off.refl [R] _).set (b:=R) mS 2 (.slice (slc sb cb (irN x m)) (nb-(irN x m)) (cb-(irN x m)))) (fun b_ hb_=>by obtain rfl:=xm1 hb_; exact M.awayB (fun p_ hp_=>by simp [hp_]))
 replace W_b:=W_b.off ((Off.refl [R] _).set (b:=R) mS 2 (.slice (slc sb cb (irN x m)) (nb-(irN x m)) (cb-(irN x m)))) (fun b_ hb_=>by obtain rfl:=xm1 hb_; exact M.awayB (fun p_ hp_=>by simp [hp_])); replace OF:=OF.and1 ((Off.refl [R] _).set (b:=R) mS 2 (.slice (slc sb cb (irN x m)) (nb-(irN x m)) (cb-(irN x m)))) (.inl hRX)
 generalize w4.setCell ⟨R,2,none⟩ (.slice (slc sb cb (irN x m)) (nb-(irN x m)) (cb-(irN x m)))=w5 at M V_c W_b OF L_c L_b ⊢
 replace M:Mm w0 ((R,[.int .i64 s,.int .i64 ((x.dn:Nat):Int),.slice (slc sb cb (irN x m)) (nb-(irN x m)) (cb-(irN x m)),.slice sc C.length cc])::(B3,row .u8 (irN x m) (fun j=>x.b (x.dn+j)))::((obs sc)++((obs sb)++l))) w5:=M
 refine xT ?_; go_upto_region 4 with fail; refine wp_region_list ?_; refine xpL (.pointer (some ⟨R,0,none⟩)) ?_; refine xpL (.pointer (some ⟨R,0,none⟩)) ?_; refine xpL (.pointer (some ⟨R,1,none⟩)) ?_; refine xaL (.int .i64 ((x.dn:Nat):Int)) (load1 3 _ ⟨R,1,none⟩ _ rfl rfl (fun _=>by kernel_rfl) (M.get mS 1 _ rfl)) ?_; refine xpL (.slice (some ⟨B3,0,none⟩) (irN x m) (irN x m)) ?_
 refine readL (.int .i64 (((irN x m):Nat):Int)) rfl (lenS _ 28 5 (some ⟨B3,0,none⟩) (irN x m) (irN x m) rfl Try.underlying28 rfl _) ?_; simp only [aP,lI,l0,lS]; refine xaL (.int .i64 ((x.dn+irN x m:Nat):Int)) (addI .i64 _ _ _ _ _ _ _ rfl rfl rfl (by rw [xw6]; omega) _) ?_; refine xpL (.pointer (some ⟨R,0,none⟩)) ?_; refine xpL (.pointer (some ⟨R,1,none⟩)) ?_
 refine skipOpL rfl (storeAny (.int .i64 ((x.dn+irN x m:Nat):Int)) R 1 3 _ _ rfl rfl rfl rfl rfl (M.isSome mS 1 (by simp)) (M.free mS 1 (by simp)) (by kernel_rfl)) ?_; simp only [Act.put]; replace M:=M.set 1 (by simp) (.int .i64 ((x.dn+irN x m:Nat):Int))
 replace V_c:=ownsRow_away V_c ((Off.refl [R] _).set (b:=R) mS 1 (.int .i64 ((x.dn+irN x m:Nat):Int))) (fun b_ hb_=>by obtain rfl:=xm1 hb_; exact M.awayB (fun p_ hp_=>by simp [hp_])); replace W_b:=W_b.off ((Off.refl [R] _).set (b:=R) mS 1 (.int .i64 ((x.dn+irN x m:Nat):Int))) (fun b_ hb_=>by obtain rfl:=xm1 hb_; exact M.awayB (fun p_ hp_=>by simp [hp_]))
 replace OF:=OF.and1 ((Off.refl [R] _).set (b:=R) mS 1 (.int .i64 ((x.dn+irN x m:Nat):Int))) (.inl hRX); generalize w5.setCell ⟨R,1,none⟩ (.int .i64 ((x.dn+irN x m:Nat):Int))=w6 at M V_c W_b OF L_c L_b ⊢
 replace M:Mm w0 ((R,[.int .i64 s,.int .i64 ((x.dn+irN x m:Nat):Int),.slice (slc sb cb (irN x m)) (nb-(irN x m)) (cb-(irN x m)),.slice sc C.length cc])::(B3,row .u8 (irN x m) (fun j=>x.b (x.dn+j)))::((obs sc)++((obs sb)++l))) w6:=M
 refine xT ?_; go_upto_region 5 with fail; refine wp_region_list ?_; refine xpL (.slice (some ⟨B3,0,none⟩) (irN x m) (irN x m)) ?_; refine xpL (.slice (some ⟨B3,0,none⟩) (irN x m) (irN x m)) ?_; refine xT ?_
 rw [hXS] at OF
 rw [← slc_obs sb cb (irN x m)] at M
 have W2:=(W_b.cut (m:=(irN x m)) hrn).congr (z:=fun j=>x.b (x.dn+irN x m+j)) (fun j_ _=>by show x.b (x.dn+(irN x m+j_))=_; rw [Nat.add_assoc]); have HS:=show Hid _ from (And.intro hB_B3 (And.intro M (And.intro W2 (And.intro V_c OF)))); clear M W_b W2 V_c OF L_c L_b; go_wp2; go_ret
 first | exact ⟨_,_,_,rfl,HS.out⟩ | exact ⟨rfl,_,_,HS.out⟩ | exact ⟨B3,_,_,rfl,HS.out⟩
theorem vbey19 (w0 w:World) (R:Nat) (l:List (Nat × List Value)) (x:Ibx) (s:Int) (nb:Nat) (sb sc:Option Addr) (cb cc:Nat) (C:Rgs17) (hw:IbxW x) (hdn:x.dn<10000000) (hr:IRel x s nb C) (M0:Mm w0 ((R,[.int .i64 s,.int .i64 ((x.dn:Nat):Int),.slice sb nb cb,.slice sc C.length cc])::(obs sc++(obs sb++l))) w) (V_c:w.ownsRow 0 44 2 (.slice sc C.length cc) C.length (wrc C)) :
 Calls Try.prog 19 #[.pointer (some ⟨R,0,none⟩)] w fun e w'=>∃ sq cq,e=.returned (.slice sq (ibe x).length cq)∧NewW w' w.heap.size (ibe x) (.slice sq (ibe x).length cq)∧Below w.heap.size w w':=by
 have M:=M0; clear M0; have hb0:=M.below; have OF:=Off.refl [] w; have hs2:=hw.s2; have hlc:=hr.len hw; have hnb:=hr.nbs hw
 go_enter Try.func19,Try.ntmps19
 go_upto_region 0 with fail; refine wp_region_list ?_; refine xpL (.slice none 0 0) ?_; refine xT ?_; go_upto_region 1 with fail; refine wp_region_list ?_; refine xpL (.slice none 0 0) ?_; refine xT ?_
 replace M:Mm w0 ((R,[.int .i64 s,.int .i64 ((x.dn:Nat):Int),.slice sb nb cb,.slice sc C.length cc])::((obs sc)++((obs sb)++l))) w:=M
 go_upto_region 2 with fail; refine wp_region_held_drew (S:=fun w'=>Mm w0 ((R,[.int .i64 s,.int .i64 ((x.dn:Nat):Int),.slice sb nb cb,.slice sc C.length cc])::((obs sc)++((obs sb)++l))) w'∧Below w.drew.heap.size w.drew w') (by kernel_rfl) ⟨M.drew,Below.refl _ _⟩ ?_; intro _; replace M:=M.drew; have hdr:=(Below.refl w.heap.size w).drew; replace V_c:=ownsRow_bel V_c hdr
 replace OF:=OF.below hdr; clear hdr; generalize w.drew=w1 at M V_c OF ⊢; refine xrH 0 8 rfl (.pointer (some ⟨R,0,none⟩)) (fun _ ⟨M,_⟩=>(by kernel_rfl)) ⟨M,Below.refl _ _⟩ ?_; refine xrH 1 9 rfl (.pointer (some ⟨R,0,none⟩)) (fun _ ⟨M,_⟩=>(by kernel_rfl)) ⟨M,Below.refl _ _⟩ ?_
 refine xrH 2 10 rfl (.pointer (some ⟨R,3,none⟩)) (fun _ ⟨M,_⟩=>(by kernel_rfl)) ⟨M,Below.refl _ _⟩ ?_; refine xrH 3 11 rfl (.pointer (some ⟨R,0,none⟩)) (fun _ ⟨M,_⟩=>(by kernel_rfl)) ⟨M,Below.refl _ _⟩ ?_; have hlt_:=fun q hq=>(M.rows q hq).2.2; have h0_:=M.below.size
 refine Flt.go (z:=9) (t:=4) (n:=2) (w0:=w1.heap.size) (k:=5) ?_ #[.int .i64 0,.int .i64 0] 44 rfl rfl rfl (fun _ _=>by kernel_rfl) (fun w_=>((Mm.init w_).box #[.int .i64 0,.int .i64 0] 44 w_.heap.size rfl).there mS 2 rfl) (fun _ h=>h.2.size) (fun _ _ h l=>⟨h.1.call l,h.2.trans (l.mono h.2.size)⟩) _ ⟨M,Below.refl _ _⟩
 refine Flt.call 4 12 (fun v=>v=.int .i64 ((x.dn+nb:Nat):Int)) (by kernel_rfl) (by kernel_rfl) rfl rfl rfl (by decide) (by decide) (by intros; simp) (by decide +kernel) (fun _=>by kernel_rfl) (fun w_ h=>(show Calls Try.prog 32 #[.pointer (some ⟨R,0,none⟩)] w_ (fun e w'=>e=.returned (.int .i64 ((x.dn+nb:Nat):Int))∧Below w_.heap.size w_ w') from vend19 R x.dn nb sb cb w_ (h.1.get mS 1 _ rfl) (h.1.get mS 2 _ rfl) (by omega)).mono fun e w'' ⟨he,l⟩=>⟨_,he,rfl,l⟩) ?_
 rintro _ rfl; simp only [aP,lI,l0,lS]
 refine Flt.call 5 13 (fun v=>v=.tuple #[.agg #[.int .i64 (rgF C 0 ((x.dn+nb:Nat):Int)),.int .i64 (rgT C 0 ((x.dn+nb:Nat):Int))],.bool (rgB C 0 ((x.dn+nb:Nat):Int))]) (by kernel_rfl) (by kernel_rfl) rfl rfl rfl (by decide) (by decide) (by intros; simp) (by decide +kernel) (fun _=>by kernel_rfl) (fun w_ h=>(show Calls Try.prog 22 #[.pointer (some ⟨R,3,none⟩),.int .i64 0,.int .i64 ((x.dn+nb:Nat):Int)] w_ (fun e w'=>e=.returned (.tuple #[.agg #[.int .i64 (rgF C 0 ((x.dn+nb:Nat):Int)),.int .i64 (rgT C 0 ((x.dn+nb:Nat):Int))],.bool (rgB C 0 ((x.dn+nb:Nat):Int))])∧Below w_.heap.size w_ w') from vgap_any R 3 sc cc C hr.can hlc 0 ((x.dn+nb:Nat):Int) w_ (h.1.get mS 3 _ rfl) (NewW.ofOwn (ownsRow_bel V_c h.2))).mono fun e w'' ⟨he,l⟩=>⟨_,he,rfl,l⟩) ?_
 rintro _ rfl; simp only [aP,lI,l0,lS]
 refine Flt.read 6 7 (.tuple #[.agg #[.int .i64 (rgF C 0 ((x.dn+nb:Nat):Int)),.int .i64 (rgT C 0 ((x.dn+nb:Nat):Int))],.bool (rgB C 0 ((x.dn+nb:Nat):Int))]) rfl rfl rfl (by decide) (by decide) (by intros; simp) (by decide +kernel) (fun _=>by kernel_rfl) (by kernel_rfl) (by kernel_rfl) (by kernel_rfl) (by kernel_rfl) (by kernel_rfl) (fun _ _ _ h=>h) ?_
 simp only [aP,lI,l0,lS]; refine Flt.read 7 14 (.agg #[.int .i64 (rgF C 0 ((x.dn+nb:Nat):Int)),.int .i64 (rgT C 0 ((x.dn+nb:Nat):Int))]) rfl rfl rfl (by decide) (by decide) (by intros; simp) (by decide +kernel) (fun _=>by kernel_rfl) (by kernel_rfl) (by kernel_rfl) (by kernel_rfl) (by kernel_rfl) (by kernel_rfl) (fun _ _ _ h=>h) ?_; simp only [aP,lI,l0,lS]
 refine Flt.read 8 15 (.bool (rgB C 0 ((x.dn+nb:Nat):Int))) rfl rfl rfl (by decide) (by decide) (by intros; simp) (by decide +kernel) (fun _=>by kernel_rfl) (by kernel_rfl) (by kernel_rfl) (by kernel_rfl) (by kernel_rfl) (by kernel_rfl) (fun _ _ _ h=>h) ?_; simp only [aP,lI,l0,lS]; refine Flt.last (by kernel_rfl) ?_; rintro B2 w2 ⟨M',hbw⟩ hFb; simp only [aP,lI,l0,lS]; clear M
 have M:=M'; clear M'
 have hB_B2:w.heap.size≤B2:=xnT OF.size hFb.lo
 replace V_c:=ownsRow_bel V_c hbw; replace OF:=OF.below hbw; have ML:=Mm.land M hFb hlt_ h0_ [.int .i64 (rgF C 0 ((x.dn+nb:Nat):Int)),.int .i64 (rgT C 0 ((x.dn+nb:Nat):Int))] rfl
 refine doesH (i:=10) none rfl (by kernel_rfl) rfl rfl (storeP [.int .i64 (rgF C 0 ((x.dn+nb:Nat):Int)),.int .i64 (rgT C 0 ((x.dn+nb:Nat):Int))] B2 0 44 _ _ rfl rfl rfl hFb.th (by kernel_rfl) (List.all_eq_true.1 (rfl:([.int .i64 (rgF C 0 ((x.dn+nb:Nat):Int)),.int .i64 (rgT C 0 ((x.dn+nb:Nat):Int))]:List Value).all (fun u=>u.oneCell')=true))) ⟨ML.tail,below_setAll hbw B2 hFb.lo 0 [.int .i64 (rgF C 0 ((x.dn+nb:Nat):Int)),.int .i64 (rgT C 0 ((x.dn+nb:Nat):Int))]⟩ ?_
 simp only [Act.put]; replace hbw:=below_setAll hbw B2 hFb.lo 0 [.int .i64 (rgF C 0 ((x.dn+nb:Nat):Int)),.int .i64 (rgT C 0 ((x.dn+nb:Nat):Int))]; clear M; have M:=ML; clear ML hFb hlt_ h0_
 replace V_c:=ownsRow_away V_c ((Off.refl [B2] _).setAll (b:=B2) mS 0 [.int .i64 (rgF C 0 ((x.dn+nb:Nat):Int)),.int .i64 (rgT C 0 ((x.dn+nb:Nat):Int))]) (fun b_ hb_=>by obtain rfl:=xm1 hb_; exact M.awayB (fun p_ hp_=>by simp [hp_]))
 replace OF:=OF.and1 ((Off.refl [B2] _).setAll (b:=B2) mS 0 [.int .i64 (rgF C 0 ((x.dn+nb:Nat):Int)),.int .i64 (rgT C 0 ((x.dn+nb:Nat):Int))]) (.inr hB_B2); generalize w2.setCells B2 0 [.int .i64 (rgF C 0 ((x.dn+nb:Nat):Int)),.int .i64 (rgT C 0 ((x.dn+nb:Nat):Int))]=w3 at M hbw V_c OF ⊢
 replace M:Mm w0 ((B2,[.int .i64 (rgF C 0 ((x.dn+nb:Nat):Int)),.int .i64 (rgT C 0 ((x.dn+nb:Nat):Int))])::(R,[.int .i64 s,.int .i64 ((x.dn:Nat):Int),.slice sb nb cb,.slice sc C.length cc])::((obs sc)++((obs sb)++l))) w3:=M
 refine xrH 11 5 rfl (.bool (rgB C 0 ((x.dn+nb:Nat):Int))) (fun _ ⟨M,_⟩=>(by kernel_rfl)) ⟨M.tail,hbw⟩ ?_; clear hbw
 refine wpAnyH_done (by kernel_rfl) ?_ _
 first | show Exit.then _ _ _ _ _ | show Exit.inBlock _ _ _ _ _
 have V_r:w3.ownsRow w0.heap.size 44 2 (.slice none 0 0) 0 []:=⟨rfl,.inl ⟨rfl,rfl⟩⟩
 have L_r:Lies [] w none:=Lies.nil [] w
 replace M:Mm w0 ((B2,[.int .i64 (rgF C 0 ((x.dn+nb:Nat):Int)),.int .i64 (rgT C 0 ((x.dn+nb:Nat):Int))])::(R,[.int .i64 s,.int .i64 ((x.dn:Nat):Int),.slice sb nb cb,.slice sc C.length cc])::((obs none)++((obs sc)++((obs sb)++l)))) w3:=M
 replace M:Mm w0 ((B2,[.int .i64 (rgF C 0 ((x.dn+nb:Nat):Int)),.int .i64 (rgT C 0 ((x.dn+nb:Nat):Int))])::(R,[.int .i64 s,.int .i64 ((x.dn:Nat):Int),.slice sb nb cb,.slice sc C.length cc])::((obs none)++((obs sc)++((obs sb)++l)))) w3:=M
 have HI:=show Hid _ from (show Mm w0 ((B2,[.int .i64 (rgF C 0 ((x.dn+nb:Nat):Int)),.int .i64 (rgT C 0 ((x.dn+nb:Nat):Int))])::(R,[.int .i64 s,.int .i64 ((x.dn:Nat):Int),.slice sb nb cb,.slice sc C.length cc])::((obs none)++((obs sc)++((obs sb)++l)))) w3∧w3.ownsRow 0 44 2 (.slice sc C.length cc) C.length (wrc C)∧w3.ownsRow w0.heap.size 44 2 (.slice none (([]:Rgs17).length) 0) (([]:Rgs17).length) (wrc ([]:Rgs17))∧Lies [] w none∧Off [] w w3 from ⟨M,V_c,V_r,L_r,OF⟩)
 clear M V_c V_r L_r OF; have hbe:=show Hid _ from BeI.start hr hw hdn; go_wp2
 go_loopw [3,5] (fun v b_ w'=>∃ (i:Nat) (q_:Int) (L:Rgs17) (sr:Option Addr) (cr:Nat),i≤8∧L.length=i∧Hid (L=(ibr x).take i)∧v=.slice sr L.length cr∧b_=.bool (rgB C q_ ((x.dn+nb:Nat):Int))∧Hid (BeI x C q_ i)∧Mm w0 ((B2,[.int .i64 (rgF C q_ ((x.dn+nb:Nat):Int)),.int .i64 (rgT C q_ ((x.dn+nb:Nat):Int))])::(R,[.int .i64 s,.int .i64 ((x.dn:Nat):Int),.slice sb nb cb,.slice sc C.length cc])::((obs sr)++((obs sc)++((obs sb)++l)))) w'∧w'.ownsRow 0 44 2 (.slice sc C.length cc) C.length (wrc C)∧w'.ownsRow w0.heap.size 44 2 (.slice sr L.length cr) L.length (wrc L)∧Lies [] w sr∧Off [] w w') (fun v _ _=>8-lenV v)
 case atStart=>exact ⟨0,0,[],none,0,Nat.zero_le _,rfl,rfl,rfl,rfl,hbe,HI.out⟩
 case round =>
  clear HI hbe
  obtain ⟨i,q_,L,sr,cr,hi8,hLi,hL,rfl,rfl,hbe,M,V_c,V_r,L_r,OF⟩:=hrel
  cases hb:rgB C q_ ((x.dn+nb:Nat):Int) with
  | true =>
    by_cases hi:i<8
    · go_upto_region 3 with fail
      refine wp_region_list ?_; refine xpL (.bool true) ?_; refine xpL (.bool true) ?_; refine xpL (.slice sr L.length cr) ?_; refine xaL (.int .i64 ((L.length:Nat):Int)) (lenS _ 39 44 sr L.length cr rfl Try.underlying39 rfl _) ?_; refine xaL (.bool true) (lssI .i64 _ _ _ _ _ _ rfl rfl rfl true (decide_eq_true (by omega)) _) ?_; refine xpL (.bool true) ?_; refine xT ?_
      obtain ⟨p,hip,hTp,hnx,hbe2,hqp⟩:=hbe.out.step hr hw hdn hb
      rw [hTp] at M
      replace hTp:=show Hid _ from hTp; replace hnx:=show Hid _ from hnx; replace hbe2:=show Hid _ from hbe2; replace hip:=show Hid _ from hip
      replace M:Mm w0 ((B2,[.int .i64 (rgF C q_ ((x.dn+nb:Nat):Int)),.int .i64 p.1])::(R,[.int .i64 s,.int .i64 ((x.dn:Nat):Int),.slice sb nb cb,.slice sc C.length cc])::((obs sr)++((obs sc)++((obs sb)++l)))) wr:=M
      replace M:=M.swap
      replace M:Mm w0 ((R,[.int .i64 s,.int .i64 ((x.dn:Nat):Int),.slice sb nb cb,.slice sc C.length cc])::(B2,[.int .i64 (rgF C q_ ((x.dn+nb:Nat):Int)),.int .i64 p.1])::((obs sr)++((obs sc)++((obs sb)++l)))) wr:=M
      go_upto_region 4 with fail; refine wp_region_held_drew (S:=fun w'=>Mm w0 ((R,[.int .i64 s,.int .i64 ((x.dn:Nat):Int),.slice sb nb cb,.slice sc C.length cc])::(B2,[.int .i64 (rgF C q_ ((x.dn+nb:Nat):Int)),.int .i64 p.1])::((obs sr)++((obs sc)++((obs sb)++l)))) w'∧Below wr.drew.heap.size wr.drew w') (by kernel_rfl) ⟨M.drew,Below.refl _ _⟩ ?_; intro _
      replace M:=M.drew; have hdr:=(Below.refl wr.heap.size wr).drew; replace V_c:=ownsRow_bel V_c hdr; replace OF:=OF.below hdr; replace V_r:=ownsRow_bel V_r hdr; clear hdr; generalize wr.drew=w4 at M V_c OF V_r ⊢; refine xrH 0 22 rfl (.pointer (some ⟨B2,1,none⟩)) (fun _ ⟨M,_⟩=>(by kernel_rfl)) ⟨M,Below.refl _ _⟩ ?_
      refine xrH 1 23 rfl (.int .i64 p.1) (fun _ ⟨M,_⟩=>load1 3 _ ⟨B2,1,none⟩ _ rfl rfl (fun _=>by kernel_rfl) (M.get (mT _ mS) 1 _ rfl)) ⟨M,Below.refl _ _⟩ ?_; refine xrH 2 24 rfl (.pointer (some ⟨R,0,none⟩)) (fun _ ⟨M,_⟩=>(by kernel_rfl)) ⟨M,Below.refl _ _⟩ ?_; refine xrH 3 25 rfl (.pointer (some ⟨R,0,none⟩)) (fun _ ⟨M,_⟩=>(by kernel_rfl)) ⟨M,Below.refl _ _⟩ ?_
      refine xrH 4 26 rfl (.pointer (some ⟨R,3,none⟩)) (fun _ ⟨M,_⟩=>(by kernel_rfl)) ⟨M,Below.refl _ _⟩ ?_; refine xrH 5 27 rfl (.pointer (some ⟨B2,1,none⟩)) (fun _ ⟨M,_⟩=>(by kernel_rfl)) ⟨M,Below.refl _ _⟩ ?_; refine xrH 6 28 rfl (.int .i64 p.1) (fun _ ⟨M,_⟩=>load1 3 _ ⟨B2,1,none⟩ _ rfl rfl (fun _=>by kernel_rfl) (M.get (mT _ mS) 1 _ rfl)) ⟨M,Below.refl _ _⟩ ?_
      have hlt_:=fun q hq=>(M.rows q hq).2.2; have h0_:=M.below.size
      refine Flt.go (z:=9) (t:=6) (n:=2) (w0:=w4.heap.size) (k:=2) ?_ #[.int .i64 0,.int .i64 0] 44 rfl rfl rfl (fun _ _=>by kernel_rfl) (fun w_=>((Mm.init w_).box #[.int .i64 0,.int .i64 0] 44 w_.heap.size rfl).there mS 2 rfl) (fun _ h=>h.2.size) (fun _ _ h l=>⟨h.1.call l,h.2.trans (l.mono h.2.size)⟩) _ ⟨M,Below.refl _ _⟩
      refine Flt.call 7 29 (fun v=>v=.int .i64 p.2) (by kernel_rfl) (by kernel_rfl) rfl rfl rfl (by decide) (by decide) (by intros; simp) (by decide +kernel) (fun _=>by kernel_rfl) (fun w_ h=>(show Calls Try.prog 33 #[.pointer (some ⟨R,3,none⟩),.int .i64 p.1] w_ (fun e w'=>e=.returned (.int .i64 p.2)∧Below w_.heap.size w_ w') by have key:=vnext_any R 3 sc cc C hr.can hlc p.1 w_ (h.1.get mS 3 _ rfl) (NewW.ofOwn (ownsRow_bel V_c h.2)); rw [hnx.out] at key; exact key).mono fun e w'' ⟨he,l⟩=>⟨_,he,rfl,l⟩) ?_
      rintro _ rfl; simp only [aP,lI,l0,lS]; refine Flt.read 8 30 (.agg #[.int .i64 p.1,.int .i64 p.2]) rfl rfl rfl (by decide) (by decide) (by intros; simp) (by decide +kernel) (fun _=>by kernel_rfl) (by kernel_rfl) (by kernel_rfl) (by kernel_rfl) (by kernel_rfl) (by kernel_rfl) (fun _ _ _ h=>h) ?_; simp only [aP,lI,l0,lS]; refine Flt.last (by kernel_rfl) ?_
      rintro B5 w5 ⟨M',hbw⟩ hFb; simp only [aP,lI,l0,lS]; clear M; have M:=M'; clear M'
      have hB_B5:w.heap.size≤B5:=xnT OF.size hFb.lo
      replace V_c:=ownsRow_bel V_c hbw; replace OF:=OF.below hbw; replace V_r:=ownsRow_bel V_r hbw; have ML:=Mm.land M hFb hlt_ h0_ [.int .i64 p.1,.int .i64 p.2] rfl
      refine doesH (i:=10) none rfl (by kernel_rfl) rfl rfl (storeP [.int .i64 p.1,.int .i64 p.2] B5 0 44 _ _ rfl rfl rfl hFb.th (by kernel_rfl) (List.all_eq_true.1 (rfl:([.int .i64 p.1,.int .i64 p.2]:List Value).all (fun u=>u.oneCell')=true))) ⟨ML.tail,below_setAll hbw B5 hFb.lo 0 [.int .i64 p.1,.int .i64 p.2]⟩ ?_; simp only [Act.put]
      replace hbw:=below_setAll hbw B5 hFb.lo 0 [.int .i64 p.1,.int .i64 p.2]; clear M; have M:=ML; clear ML hFb hlt_ h0_; replace V_c:=ownsRow_away V_c ((Off.refl [B5] _).setAll (b:=B5) mS 0 [.int .i64 p.1,.int .i64 p.2]) (fun b_ hb_=>by obtain rfl:=xm1 hb_; exact M.awayB (fun p_ hp_=>by simp [hp_]))
      replace OF:=OF.and1 ((Off.refl [B5] _).setAll (b:=B5) mS 0 [.int .i64 p.1,.int .i64 p.2]) (.inr hB_B5); replace V_r:=ownsRow_away V_r ((Off.refl [B5] _).setAll (b:=B5) mS 0 [.int .i64 p.1,.int .i64 p.2]) (fun b_ hb_=>by obtain rfl:=xm1 hb_; exact M.awayB (fun p_ hp_=>by simp [hp_])); generalize w5.setCells B5 0 [.int .i64 p.1,.int .i64 p.2]=w6 at M hbw V_c OF V_r ⊢
      replace M:Mm w0 ((B5,[.int .i64 p.1,.int .i64 p.2])::(R,[.int .i64 s,.int .i64 ((x.dn:Nat):Int),.slice sb nb cb,.slice sc C.length cc])::(B2,[.int .i64 (rgF C q_ ((x.dn+nb:Nat):Int)),.int .i64 p.1])::((obs sr)++((obs sc)++((obs sb)++l)))) w6:=M
      clear hbw
      refine wpAnyH_done (by kernel_rfl) ?_ _
      first | show Exit.then _ _ _ _ _ | show Exit.inBlock _ _ _ _ _
      go_upto_region 5 with fail; refine wp_region_list ?_; refine xpL (.slice sr L.length cr) ?_; refine xaL (.agg #[.int .i64 p.1,.int .i64 p.2]) (loadN 44 _ ⟨B5,0,none⟩ [.int .i64 p.1,.int .i64 p.2] rfl rfl (fun _=>by kernel_rfl) (fun _=>by kernel_rfl) (M.rangeAt mS)) ?_; have hlb:=(Below.refl w6.heap.size w6).alloc (xnR _) (.cells #[.int .i64 p.1,.int .i64 p.2] 44)
      have T_7:=World.ownsRow.cells (World.ownsRow_lit (base:=w6.heap.size) (e:=44) (size:=2) w6 #[.int .i64 p.1,.int .i64 p.2] 1 (xnR _) (by unfold maxLen; omega) rfl) (g:=w6.heap.size) rfl; replace V_c:=ownsRow_bel V_c hlb; replace OF:=OF.below hlb; replace V_r:=ownsRow_bel V_r hlb; replace M:=M.call hlb; clear hlb
      refine actL (w':=w6.alloc (.cells #[.int .i64 p.1,.int .i64 p.2] 44)) (.slice (some ⟨w6.heap.size,0,none⟩) 1 1) rfl (by kernel_rfl) ?_; simp only [aP,lI,l0,lS]; generalize w6.alloc (.cells #[.int .i64 p.1,.int .i64 p.2] 44)=w7 at M T_7 V_c OF V_r ⊢; generalize w6.heap.size=bz7 at T_7 ⊢
      obtain ⟨v2,w8,hr,V2,hgr,hg2⟩:=run_append_OwnV (P:=Try.prog) (ty:=39) Try.underlying39 manyW rfl (by decide) V_r ⟨bz7,0,none⟩ 1 1 [.int .i64 (p.1),.int .i64 (p.2)] rfl T_7 (wrc_one [(p.1,p.2)]) (by unfold maxLen; omega) (by omega) (xnT hb0.size OF.size)
      have Mp:=M.perm (pull0 ([(B5,[.int .i64 p.1,.int .i64 p.2]),(R,[.int .i64 s,.int .i64 ((x.dn:Nat):Int),.slice sb nb cb,.slice sc C.length cc]),(B2,[.int .i64 (rgF C q_ ((x.dn+nb:Nat):Int)),.int .i64 p.1])]:List (Nat × List Value)) (obs sr) ((obs sc)++((obs sb)++l))); have ho:=Off.grown (Off.refl (ob sr) w7) hgr (fun b_ hb_=>.inl ((ob_own _ _ _ b_).1 hb_))
      replace V_c:=ownsRow_away V_c ho (Mp.awayO (fun p_ hp_=>by simp [hp_]))
      obtain ⟨sv8,cv8,rfl,_,_⟩:=row_form16 V2
      have L2:=L_r.grown hg2 OF.size; replace OF:=OF.grown hgr (fun b_ hb_=>L_r b_ ((ob_own _ _ _ b_).1 hb_))
      have M':=Mp.rowApp V_r hgr V2 hg2 (xnR _)
      clear M Mp ho hgr hg2 V_r L_r; have L_r:=L2; clear L2
      have M:Mm w0 ((B5,[.int .i64 p.1,.int .i64 p.2])::(R,[.int .i64 s,.int .i64 ((x.dn:Nat):Int),.slice sb nb cb,.slice sc C.length cc])::(B2,[.int .i64 (rgF C q_ ((x.dn+nb:Nat):Int)),.int .i64 p.1])::((obs sv8)++((obs sc)++((obs sb)++l)))) w8:=M'.perm (pull0 ([(B5,[.int .i64 p.1,.int .i64 p.2]),(R,[.int .i64 s,.int .i64 ((x.dn:Nat):Int),.slice sb nb cb,.slice sc C.length cc]),(B2,[.int .i64 (rgF C q_ ((x.dn+nb:Nat):Int)),.int .i64 p.1])]:List (Nat × List Value)) (obs sv8) ((obs sc)++((obs sb)++l))).symm
      clear M'; refine xaL (_) (appendOp _ _ 39 _ _ _ rfl rfl rfl hr) ?_; clear hr
      rw [show L.length+1=(L++[(p.1,p.2)]).length by simp] at V2 ⊢
      rw [show wrc L++[.int .i64 (p.1),.int .i64 (p.2)]=wrc (L++[(p.1,p.2)]) from (wrc_two L (p.1,p.2)).symm] at V2
      replace V2:w8.ownsRow w0.heap.size 44 2 (.slice sv8 ((L++[(p.1,p.2)]).length) cv8) ((L++[(p.1,p.2)]).length) (wrc (L++[(p.1,p.2)])):=V2
      have V_r:=V2; clear V2; clear T_7; refine xpL (.slice sv8 ((L++[(p.1,p.2)]).length) cv8) ?_; refine xT ?_; go_upto_region 6 with fail; have hdr:=(Below.refl w8.heap.size w8).drew; replace M:=M.drew; replace V_c:=ownsRow_bel V_c hdr; replace OF:=OF.below hdr; replace V_r:=ownsRow_bel V_r hdr; clear hdr
      refine wp_region_C (S:=fun w'=>Mm w0 [(B5,[.int .i64 p.1,.int .i64 p.2]),(R,[.int .i64 s,.int .i64 ((x.dn:Nat):Int),.slice sb nb cb,.slice sc C.length cc]),(B2,[.int .i64 (rgF C q_ ((x.dn+nb:Nat):Int)),.int .i64 p.1])] w') 11 (by kernel_rfl) (M.sub _ (List.cons_sublist_cons.2 (List.cons_sublist_cons.2 (List.cons_sublist_cons.2 (List.nil_sublist _))))) ?_; intro _
      generalize w8.drew=w9 at M V_c OF V_r ⊢; refine readC (i:=0) (some 36) rfl (.pointer (some ⟨R,0,none⟩)) rfl rfl (by kernel_rfl) rfl (fun _ hS=>(by kernel_rfl)) (by kernel_rfl) (by kernel_rfl) (by kernel_rfl) (by kernel_rfl) (fun _ _ _ h=>h) (M.sub _ (List.cons_sublist_cons.2 (List.cons_sublist_cons.2 (List.cons_sublist_cons.2 (List.nil_sublist _))))) ?_; simp only [aP,lI,l0,lS]
      refine readC (i:=1) (some 37) rfl (.pointer (some ⟨R,0,none⟩)) rfl rfl (by kernel_rfl) rfl (fun _ hS=>(by kernel_rfl)) (by kernel_rfl) (by kernel_rfl) (by kernel_rfl) (by kernel_rfl) (fun _ _ _ h=>h) (M.sub _ (List.cons_sublist_cons.2 (List.cons_sublist_cons.2 (List.cons_sublist_cons.2 (List.nil_sublist _))))) ?_; simp only [aP,lI,l0,lS]
      refine readC (i:=2) (some 38) rfl (.pointer (some ⟨R,3,none⟩)) rfl rfl (by kernel_rfl) rfl (fun _ hS=>(by kernel_rfl)) (by kernel_rfl) (by kernel_rfl) (by kernel_rfl) (by kernel_rfl) (fun _ _ _ h=>h) (M.sub _ (List.cons_sublist_cons.2 (List.cons_sublist_cons.2 (List.cons_sublist_cons.2 (List.nil_sublist _))))) ?_; simp only [aP,lI,l0,lS]
      refine readC (i:=3) (some 39) rfl (.pointer (some ⟨B5,1,none⟩)) rfl rfl (by kernel_rfl) rfl (fun _ hS=>(by kernel_rfl)) (by kernel_rfl) (by kernel_rfl) (by kernel_rfl) (by kernel_rfl) (fun _ _ _ h=>h) (M.sub _ (List.cons_sublist_cons.2 (List.cons_sublist_cons.2 (List.cons_sublist_cons.2 (List.nil_sublist _))))) ?_; simp only [aP,lI,l0,lS]
      refine readC (i:=4) (some 40) rfl (.int .i64 p.2) rfl rfl (by kernel_rfl) rfl (fun _ hS=>load1 3 _ ⟨B5,1,none⟩ _ rfl rfl (fun _=>by kernel_rfl) (hS.get mS 1 _ rfl)) (by kernel_rfl) (by kernel_rfl) (by kernel_rfl) (by kernel_rfl) (fun _ _ _ h=>h) (M.sub _ (List.cons_sublist_cons.2 (List.cons_sublist_cons.2 (List.cons_sublist_cons.2 (List.nil_sublist _))))) ?_
      simp only [aP,lI,l0,lS]; refine readC (i:=5) (some 41) rfl (.pointer (some ⟨R,0,none⟩)) rfl rfl (by kernel_rfl) rfl (fun _ hS=>(by kernel_rfl)) (by kernel_rfl) (by kernel_rfl) (by kernel_rfl) (by kernel_rfl) (fun _ _ _ h=>h) (M.sub _ (List.cons_sublist_cons.2 (List.cons_sublist_cons.2 (List.cons_sublist_cons.2 (List.nil_sublist _))))) ?_; simp only [aP,lI,l0,lS]
      have key:=vend19 R x.dn nb sb cb _ (M.get (mT _ mS) 1 _ rfl) (M.get (mT _ mS) 2 _ rfl) (by omega); refine callMC (i:=6) (some 42) rfl (by kernel_rfl) rfl rfl (fun _=>by kernel_rfl) key ?_; clear key; rintro e w10 ⟨rfl,l_⟩; replace M:=M.call l_; replace V_c:=ownsRow_bel V_c l_; replace OF:=OF.below l_; replace V_r:=ownsRow_bel V_r l_; clear l_
      refine ⟨_,rfl,(M.sub _ (List.cons_sublist_cons.2 (List.cons_sublist_cons.2 (List.cons_sublist_cons.2 (List.nil_sublist _))))),?_⟩
      simp only [aP,lI,l0,lS]; have key:=vgap_any R 3 sc cc C hr.can hlc p.2 ((x.dn+nb:Nat):Int) _ (M.get (mT _ mS) 3 _ rfl) (NewW.ofOwn V_c); refine callMC (i:=7) (some 43) rfl (by kernel_rfl) rfl rfl (fun _=>by kernel_rfl) key ?_; clear key; rintro e w11 ⟨rfl,l_⟩; replace M:=M.call l_; replace V_c:=ownsRow_bel V_c l_; replace OF:=OF.below l_
      replace V_r:=ownsRow_bel V_r l_; clear l_
      refine ⟨_,rfl,(M.sub _ (List.cons_sublist_cons.2 (List.cons_sublist_cons.2 (List.cons_sublist_cons.2 (List.nil_sublist _))))),?_⟩
      simp only [aP,lI,l0,lS]
      refine readC (i:=8) (some 35) rfl (.tuple #[.agg #[.int .i64 (rgF C p.2 ((x.dn+nb:Nat):Int)),.int .i64 (rgT C p.2 ((x.dn+nb:Nat):Int))],.bool (rgB C p.2 ((x.dn+nb:Nat):Int))]) rfl rfl (by kernel_rfl) rfl (fun _ hS=>(by kernel_rfl)) (by kernel_rfl) (by kernel_rfl) (by kernel_rfl) (by kernel_rfl) (fun _ _ _ h=>h) (M.sub _ (List.cons_sublist_cons.2 (List.cons_sublist_cons.2 (List.cons_sublist_cons.2 (List.nil_sublist _))))) ?_
      simp only [aP,lI,l0,lS]
      refine readC (i:=9) (some 44) rfl (.agg #[.int .i64 (rgF C p.2 ((x.dn+nb:Nat):Int)),.int .i64 (rgT C p.2 ((x.dn+nb:Nat):Int))]) rfl rfl (by kernel_rfl) rfl (fun _ hS=>(by kernel_rfl)) (by kernel_rfl) (by kernel_rfl) (by kernel_rfl) (by kernel_rfl) (fun _ _ _ h=>h) (M.sub _ (List.cons_sublist_cons.2 (List.cons_sublist_cons.2 (List.cons_sublist_cons.2 (List.nil_sublist _))))) ?_
      simp only [aP,lI,l0,lS]; refine xqC 10 45 rfl (.bool (rgB C p.2 ((x.dn+nb:Nat):Int))) (fun _=>(by kernel_rfl)) (M.sub _ (List.cons_sublist_cons.2 (List.cons_sublist_cons.2 (List.cons_sublist_cons.2 (List.nil_sublist _))))) ?_; replace M:=M.rot3
      refine skipC (S2:=fun _=>True) none rfl (by kernel_rfl) rfl rfl (storeP [.int .i64 (rgF C p.2 ((x.dn+nb:Nat):Int)),.int .i64 (rgT C p.2 ((x.dn+nb:Nat):Int))] B2 0 44 _ _ rfl rfl rfl (M.thereP mS 0 2 (Nat.le_of_ble_eq_true rfl)) (by kernel_rfl) (List.all_eq_true.1 (rfl:([.int .i64 (rgF C p.2 ((x.dn+nb:Nat):Int)),.int .i64 (rgT C p.2 ((x.dn+nb:Nat):Int))]:List Value).all (fun u=>u.oneCell')=true))) (by kernel_rfl) ?_
      simp only [Act.put]; replace M:=M.setPart [.int .i64 (rgF C p.2 ((x.dn+nb:Nat):Int)),.int .i64 (rgT C p.2 ((x.dn+nb:Nat):Int))] 0 (Nat.le_of_ble_eq_true rfl)
      replace V_c:=ownsRow_away V_c ((Off.refl [B2] _).setAll (b:=B2) mS 0 [.int .i64 (rgF C p.2 ((x.dn+nb:Nat):Int)),.int .i64 (rgT C p.2 ((x.dn+nb:Nat):Int))]) (fun b_ hb_=>by obtain rfl:=xm1 hb_; exact M.awayB (fun p_ hp_=>by simp [hp_]))
      replace OF:=OF.and1 ((Off.refl [B2] _).setAll (b:=B2) mS 0 [.int .i64 (rgF C p.2 ((x.dn+nb:Nat):Int)),.int .i64 (rgT C p.2 ((x.dn+nb:Nat):Int))]) (.inr hB_B2)
      replace V_r:=ownsRow_away V_r ((Off.refl [B2] _).setAll (b:=B2) mS 0 [.int .i64 (rgF C p.2 ((x.dn+nb:Nat):Int)),.int .i64 (rgT C p.2 ((x.dn+nb:Nat):Int))]) (fun b_ hb_=>by obtain rfl:=xm1 hb_; exact M.awayB (fun p_ hp_=>by simp [hp_]))
      generalize w11.setCells B2 0 [.int .i64 (rgF C p.2 ((x.dn+nb:Nat):Int)),.int .i64 (rgT C p.2 ((x.dn+nb:Nat):Int))]=w12 at M V_c OF V_r ⊢
      replace M:Mm w0 ((B2,[.int .i64 (rgF C p.2 ((x.dn+nb:Nat):Int)),.int .i64 (rgT C p.2 ((x.dn+nb:Nat):Int))])::(B5,[.int .i64 p.1,.int .i64 p.2])::(R,[.int .i64 s,.int .i64 ((x.dn:Nat):Int),.slice sb nb cb,.slice sc C.length cc])::((obs sv8)++((obs sc)++((obs sb)++l)))) w12:=M
      refine xrH 12 5 rfl (.bool (rgB C p.2 ((x.dn+nb:Nat):Int))) (fun _ _=>(by kernel_rfl)) trivial ?_
      refine wpAnyH_done (by kernel_rfl) ?_ _
      first | show Exit.then _ _ _ _ _ | show Exit.inBlock _ _ _ _ _
      replace M:=M.rot3; replace M:=M.swap
      replace M:Mm w0 ((B2,[.int .i64 (rgF C p.2 ((x.dn+nb:Nat):Int)),.int .i64 (rgT C p.2 ((x.dn+nb:Nat):Int))])::(R,[.int .i64 s,.int .i64 ((x.dn:Nat):Int),.slice sb nb cb,.slice sc C.length cc])::((obs sv8)++((obs sc)++((obs sb)++l)))) w12:=M.sub _ (List.cons_sublist_cons.2 (List.cons_sublist_cons.2 (List.Sublist.cons _ ((List.Sublist.refl _).append ((List.Sublist.refl _).append ((List.Sublist.refl _).append (List.Sublist.refl _)))))))
      replace M:Mm w0 ((B2,[.int .i64 (rgF C p.2 ((x.dn+nb:Nat):Int)),.int .i64 (rgT C p.2 ((x.dn+nb:Nat):Int))])::(R,[.int .i64 s,.int .i64 ((x.dn:Nat):Int),.slice sb nb cb,.slice sc C.length cc])::((obs sv8)++((obs sc)++((obs sb)++l)))) w12:=M
      have hL2:=show Hid _ from (show L++[(p.1,p.2)]=(ibr x).take (i+1) by rw [hL.out,List.take_add_one,hip.out]; rfl)
      have HS:=show Hid _ from (show Mm w0 ((B2,[.int .i64 (rgF C p.2 ((x.dn+nb:Nat):Int)),.int .i64 (rgT C p.2 ((x.dn+nb:Nat):Int))])::(R,[.int .i64 s,.int .i64 ((x.dn:Nat):Int),.slice sb nb cb,.slice sc C.length cc])::((obs sv8)++((obs sc)++((obs sb)++l)))) w12∧w12.ownsRow 0 44 2 (.slice sc C.length cc) C.length (wrc C)∧w12.ownsRow w0.heap.size 44 2 (.slice sv8 ((L++[(p.1,p.2)]).length) cv8) ((L++[(p.1,p.2)]).length) (wrc (L++[(p.1,p.2)]))∧Lies [] w sv8∧Off [] w w12 from ⟨M,V_c,V_r,L_r,OF⟩)
      clear M V_c V_r L_r OF; go_wp2
      go_roundw
      case rel=>exact ⟨i+1,p.2,L++[(p.1,p.2)],sv8,cv8,by omega,by rw [List.length_append,List.length_singleton]; omega,hL2,rfl,rfl,hbe2,HS.out⟩
      case measure=>simp only [lenV,List.length_append,List.length_singleton]; omega
    · go_upto_region 3 with fail
      refine wp_region_list ?_; refine xpL (.bool true) ?_; refine xpL (.bool true) ?_; refine xpL (.slice sr L.length cr) ?_; refine xaL (.int .i64 ((L.length:Nat):Int)) (lenS _ 39 44 sr L.length cr rfl Try.underlying39 rfl _) ?_; refine xaL (.bool false) (lssI .i64 _ _ _ _ _ _ rfl rfl rfl false (decide_eq_false (by omega)) _) ?_; refine xpL (.bool false) ?_; refine xT ?_
      go_upto_region 7 with fail; refine wp_region_list ?_; refine xpL (.slice sr L.length cr) ?_; refine xpL (.slice sr L.length cr) ?_; refine xT ?_; have hE:=show Hid _ from (show ibe x=L from by rw [hL.out,show i=8 by omega]; rfl); have hN:=(NewW.ofOwn19 (rl:=L) V_r).upL L_r
      have hbel:Below w.heap.size w wr:=⟨M.below.os.trans hb0.os.symm,M.below.tape.trans hb0.tape.symm,M.below.output.trans hb0.output.symm,OF.size,fun b hb=>OF.blk b hb (fun h=>by cases h)⟩
      have HS:=show Hid _ from (And.intro hN hbel); clear M V_c V_r L_r OF hN hbel; go_wp2; go_ret
      rw [hE.out]
      first | exact ⟨sr,cr,rfl,HS.out⟩ | exact ⟨rfl,sr,cr,HS.out⟩
  | false =>
    go_upto_region 3 with fail; refine wp_region_list ?_; refine xpL (.bool false) ?_; refine xpL (.bool false) ?_
    with_reducible refine skipL ?_ ?_
    · rfl
    simp only [aP,lI,l0,lS]
    with_reducible refine skipL ?_ ?_
    · rfl
    simp only [aP,lI,l0,lS]
    with_reducible refine skipL ?_ ?_
    · rfl
    simp only [aP,lI,l0,lS]; refine xpL (.bool false) ?_; refine xT ?_; go_upto_region 7 with fail; refine wp_region_list ?_; refine xpL (.slice sr L.length cr) ?_; refine xpL (.slice sr L.length cr) ?_; refine xT ?_
    have hE:=show Hid _ from (show ibe x=L from by rw [hL.out]; unfold ibe; rw [hbe.out.stop hr hw hdn hb,List.take_length,List.take_of_length_le (by have h_:=hbe.out.stop hr hw hdn hb; omega)]); have hN:=(NewW.ofOwn19 (rl:=L) V_r).upL L_r
    have hbel:Below w.heap.size w wr:=⟨M.below.os.trans hb0.os.symm,M.below.tape.trans hb0.tape.symm,M.below.output.trans hb0.output.symm,OF.size,fun b hb=>OF.blk b hb (fun h=>by cases h)⟩
    have HS:=show Hid _ from (And.intro hN hbel); clear M V_c V_r L_r OF hN hbel; go_wp2; go_ret
    rw [hE.out]
    first | exact ⟨sr,cr,rfl,HS.out⟩ | exact ⟨rfl,sr,cr,HS.out⟩
def icl (x:Ibx) (s:Int) (nb:Nat) (sb:Option Addr) (cb:Nat) (sc:Option Addr) (cc:Nat) (C:Rgs17):List Value:=[.int .i64 s,.int .i64 ((x.dn:Nat):Int),.slice sb nb cb,.slice sc C.length cc]
def PI19:InI:=fun w v x bs=>∃ R s nb sb cb sc cc C,v=.pointer (some ⟨R,0,none⟩)∧bs=(R,icl x s nb sb cb sc cc C)::(obs sc++obs sb)∧IRel x s nb C∧Wnd w sb nb cb (fun j=>x.b (x.dn+j))∧w.ownsRow 0 44 2 (.slice sc C.length cc) C.length (wrc C)
theorem pi_app (R:Nat) (c:List Value) (a b l:List (Nat × List Value)):((R,c)::(a++b))++l=(R,c)::(a++(b++l)):=by rw [List.cons_append,List.append_assoc]
theorem pi_fst (R:Nat) (c:List Value) (sc sb:Option Addr):((R,c)::(obs sc++obs sb)).map Prod.fst=R::(ob sc++ob sb):=by
 rw [List.map_cons,List.map_append,obs_fst,obs_fst]
theorem PI19.off {w w':World} {v:Value} {x:Ibx} {bs:List (Nat × List Value)} {X:List Nat} (hI:PI19 w v x bs) (f:Off X w w') (hX:∀ b∈X,b∉bs.map Prod.fst):PI19 w' v x bs:=by
 obtain ⟨R,s,nb,sb,cb,sc,cc,C,rfl,rfl,hr,W_b,V_c⟩:=hI
 rw [pi_fst] at hX
 exact ⟨R,s,nb,sb,cb,sc,cc,C,rfl,rfl,hr,W_b.off f (fun b hb hm=>hX b hb (by simp [hm])),ownsRow_away V_c f (fun b hb hm=>hX b hb (by simp [hm]))⟩
theorem vin_any:InOK PI19 where
 ptr:=fun _ _ _ _ h=>let ⟨R,_,_,_,_,_,_,_,e,_⟩:=h; ⟨R,e⟩
 off:=fun _ _ _ _ _ _ h f hX=>h.off f hX
 new:=fun w0 w l n _ M=>Calls.mono (vnewi19 w0 w l n M) fun e w' ⟨B,h1,h2,h3⟩=>⟨_,_,h1,⟨B,n,0,none,0,none,0,[],rfl,rfl,IRel.new n,Wnd.nil w' _,World.ownsRow_nil w' 0 44 2⟩,h2,h3⟩
 tak:=fun w0 w v x bs l p sp cap b hw hdn hp hbl hbc hbn hbb hI M hs=>by
  obtain ⟨R,s,nb,sb,cb,sc,cc,C,rfl,rfl,hr,W_b,V_c⟩:=hI
  rw [pi_app] at M
  rw [pi_fst] at hs
  exact Calls.mono (vtake19 w0 w R l x s nb sb sc cb cc C hw hdn hr p hp b sp cap hbl hbc hbn hbb hs M W_b V_c) fun e w' ⟨sb',cb',nb',sc',cc',C',h1,hr',M2,W2,V2,o2⟩=>⟨(R,icl (itk x p b) s nb' sb' cb' sc' cc' C')::(obs sc'++obs sb'),h1,⟨R,s,nb',sb',cb',sc',cc',C',rfl,rfl,hr',W2,V2⟩,by rw [pi_app]; exact M2,by rw [pi_fst]; exact o2⟩
 red:=fun w0 w v x bs l m hw hdn hm hI M=>by
  obtain ⟨R,s,nb,sb,cb,sc,cc,C,rfl,rfl,hr,W_b,V_c⟩:=hI
  rw [pi_app] at M
  refine Calls.mono (vread19 w0 w R l x s nb sb sc cb cc C hw hdn hr m hm M W_b V_c) fun e w' ⟨B,sb',cb',h1,hB,M2,W2,V2,o2⟩=>?_; have hs2:=hw.s2; have hnb:=hr.nbs hw; have hrn:=hr.rN hw m; have hl:=irB_len x m; have hQ:=(M2.swap).wnd (by unfold maxLen; omega)
  have hN:NewF w' w.heap.size (irB x m).length (bl (irB x m)) (.slice (some ⟨B,0,none⟩) (irB x m).length (irN x m)):=by
   rw [hl]
   exact (hQ.newF (base:=w.heap.size) (fun b hb=>by rw [xm1 hb]; exact hB)).congr fun j hj=>(irB_bl hj).symm
  refine ⟨some ⟨B,0,none⟩,irN x m,(R,icl (irx x m) s (nb-irN x m) sb' cb' sc cc C)::(obs sc++obs sb'),by rw [hl]; exact h1,hN,by rw [hl]; exact hQ.wrt,⟨R,s,nb-irN x m,sb',cb',sc,cc,C,rfl,rfl,hr.read hw m,W2,V2⟩,?_,by rw [pi_fst]; exact o2⟩
  rw [pi_app]
  have M3:=(M2.swap).untell
  refine M3.perm ((List.Perm.swap _ _ _).trans (List.Perm.cons _ ?_))
  have:=(pull0 (obs sc++obs sb') (obs (some ⟨B,0,none⟩)) l).symm
  rw [List.append_assoc,List.append_assoc] at this
  exact this
 her:=fun w0 w v x bs l hw hdn hI M=>by
  obtain ⟨R,s,nb,sb,cb,sc,cc,C,rfl,rfl,hr,W_b,V_c⟩:=hI
  have h:=vhere19 R sc cc C hr.can (hr.len hw) w (M.get mS 3 _ rfl) (NewW.ofOwn V_c)
  rw [hr.here hw] at h
  exact h
 bey:=fun w0 w v x bs l hw hdn hI M=>by
  obtain ⟨R,s,nb,sb,cb,sc,cc,C,rfl,rfl,hr,W_b,V_c⟩:=hI
  rw [pi_app] at M
  exact vbey19 w0 w R l x s nb sb sc cb cc C hw hdn hr M V_c
 lim:=fun w0 w v x bs l hw hdn hI M=>by
  obtain ⟨R,s,nb,sb,cb,sc,cc,C,rfl,rfl,hr,W_b,V_c⟩:=hI
  have h:=vlim19 R s x.dn w (M.get mS 0 _ rfl) (M.get mS 1 _ rfl) (by omega)
  rw [show ((x.dn:Nat):Int)+min (max s 1) 1048576=((ilim x:Nat):Int) by have:=hr.size; unfold ilim; omega] at h
  exact h
 don:=fun w0 w v x bs l _ _ hI M=>by
  obtain ⟨R,s,nb,sb,cb,sc,cc,C,rfl,rfl,hr,W_b,V_c⟩:=hI
  exact vdone19 R x.dn w (M.get mS 1 _ rfl)
 hld:=fun w0 w v x bs l hw hdn hI M=>by
  obtain ⟨R,s,nb,sb,cb,sc,cc,C,rfl,rfl,hr,W_b,V_c⟩:=hI
  have h:=vheld19 R x.dn sc cc C hr.can (hr.len hw) w (M.get mS 1 _ rfl) (M.get mS 3 _ rfl) (by omega) (NewW.ofOwn V_c)
  rw [hr.held hw] at h
  exact h
section
open Go.ChangeShapes Go.WideShapes Go.ChangeAt Go.WideMaps Go.WideElems Go.RowKit
section
variable {H:Type} {enc:TypeId × Value→H} {P:Program} {w:World} {base:Nat} {sp:Nat→Bool} {held:Bool}
end
theorem wf_u8 {n:Int}:(Lit.int .u8 n).wf=true↔0≤n∧n<256:=by
 simp [Lit.wf,IntKind.min,IntKind.max,IntKind.signed,IntKind.bits]
 omega
theorem wf_i64 {n:Int}:(Lit.int .i64 n).wf=true↔-9223372036854775808≤n∧n≤9223372036854775807:=by
 simp [Lit.wf,IntKind.min,IntKind.max,IntKind.signed,IntKind.bits]
end
section
open Go.ChangeShapes Go.WideShapes Go.ChangeAt Go.WideMaps Go.WideElems Go.RowKit
theorem own:ownKnob Try.prog.godebug=none:=by kernel_rfl
theorem cellsByte:Try.prog.cellsOf 5=1:=by kernel_rfl
theorem laidOut:laidOutB Try.prog=true:=by kernel_rfl
structure Fit (H:Type) (Q:TypeId→DataW H→Prop) (m:Nat):Prop where
 ints:∀ a b,Q 37 (.slice a b)→a.length≤m
 bytes:∀ a b,Q 28 (.slice a b)→a.length≤m
 rowOp:∀ a b,Q 22 (.slice a b)→a.length≤m∧∀ d∈a,Q 30 d
 elOp:∀ l,Q 30 (.agg l)→(∀ d,l[2]?=some d→Q 28 d)
section
variable {H:Type} {enc:TypeId × Value→H} {W:World} {Q:TypeId→DataW H→Prop} {m:Nat}
theorem field_of {fs:Array Field} {l:List (TypeId × Nat)} (h:fs.toList.map (fun f=>(f.type,f.offset))=l) (i:Nat) (t:TypeId) (o:Nat) (hi:l[i]?=some (t,o)):∃ f,fs[i]?=some f∧f.type=t∧f.offset=o:=by
 rw [← h,List.getElem?_map] at hi
 obtain ⟨f,h1,h2⟩:=Option.map_eq_some_iff.1 hi
 injection h2 with h2 h3
 exact ⟨f,by simpa using h1,h2,h3⟩
theorem open_octets (F:Fit H Q m) {fuel:Nat} {cs:List Value} {x:DataW H × List MemPlace} (h:DataW.trod enc Try.prog W 0 (fun _=>true) true fuel 28 cs=some x) (hq:Q 28 x.1) :
 ∃ (sp:Option Addr) (cap:Nat) (bs:List Int),cs=[.slice sp bs.length cap]∧Src W sp bs.length (bl bs)∧bs.length≤cap∧(sp=none→cap=0)∧bs.length≤m∧Byts bs:=by
 rcases open_ints Try.underlying28 Try.underlying5 cellsByte h with ⟨rfl,rfl⟩ | ⟨ad,len,cap,zs,rfl,_,hle,hmax,hall,rfl,hcell,hwf⟩
 · exact ⟨none,0,[],rfl,fun j hj=>absurd hj (xnZ j),xnR _,fun _=>rfl,Nat.zero_le _,fun x hx=>(by cases hx)⟩
 · simp only [if_true] at hall
   have hm:=F.bytes _ _ hq
   simp only [lits,List.length_map,List.length_take] at hm
   have hl:(zs.take len).length=len:=by rw [List.length_take]; omega
   refine ⟨some ad,cap,zs.take len,by rw [hl],fun j hj=>⟨ad,rfl,?_⟩,by rw [hl]; exact hle,fun e=>(by cases e),by rw [hl]; omega,fun y hy=>wf_u8.1 (hwf y (List.mem_of_mem_take hy))⟩
   rw [hl] at hj
   rw [bl_take _ _ _ hj]
   exact hcell j (by omega)
theorem i64_of {n:Int} (h:(Lit.int .i64 n).wf=true):i64 n:=by have:=wf_i64.1 h; unfold i64; omega
theorem fieldsOp:(Try.prog.fieldsOf 30).toList.map (fun f=>(f.type,f.offset))=[(3,0),(3,1),(28,2)]:=by kernel_rfl
theorem open_Op (F:Fit H Q m) {fuel:Nat} {cs:List Value} {x:DataW H × List MemPlace} (h:DataW.trod enc Try.prog W 0 (fun _=>true) true fuel 30 cs=some x) (hq:Q 30 x.1) :
 ∃ (v:Opv) (bp:Option Addr) (bc:Nat),cs=Opc v bp bc∧OpV W m v bp bc:=by
 obtain ⟨xs,n,_,hx,hl,hlen,hf⟩:=DataW.trod_struct (fs:=Try.prog.fieldsOf 30) (by kernel_rfl) h
 have hn:Try.prog.cellsOf 30=3:=by kernel_rfl
 have hc0:Try.prog.cellsOf 28=1:=by kernel_rfl
 have hc1:Try.prog.cellsOf 3=1:=by kernel_rfl
 have hs:xs.length=3:=by rw [hlen]; kernel_rfl
 rw [hn] at hl
 rw [hx] at hq
 have hq2:=F.elOp _ hq
 match cs,hl with
 | [c0,c1,c2],_ =>
   obtain ⟨f0,e0,t0,o0⟩:=field_of fieldsOp 0 3 0 rfl
   have g0:=hf 0 f0 e0
   rw [t0,o0,hc1,List.getElem?_eq_getElem (by omega)] at g0
   obtain ⟨f1,e1,t1,o1⟩:=field_of fieldsOp 1 3 1 rfl
   have g1:=hf 1 f1 e1
   rw [t1,o1,hc1,List.getElem?_eq_getElem (by omega)] at g1
   obtain ⟨f2,e2,t2,o2⟩:=field_of fieldsOp 2 28 2 rfl
   have g2:=hf 2 f2 e2
   rw [t2,o2,hc0,List.getElem?_eq_getElem (by omega)] at g2
   obtain ⟨x_k,q0,_,w0⟩:=DataW.trod_int Try.underlying3 g0
   obtain ⟨x_n,q1,_,w1⟩:=DataW.trod_int Try.underlying3 g1
   obtain ⟨bp,bc,x_b,q2,b21,b22,b23,b24,b25⟩:=open_octets F g2 (hq2 _ (by rw [List.getElem?_map,List.getElem?_eq_getElem (show 2<xs.length by omega)]; rfl))
   simp at q0 q1 q2
   exact ⟨⟨x_k,x_n,x_b⟩,bp,bc,by rw [q0,q1,q2]; rfl,⟨i64_of w0,i64_of w1,b21,b22,b23,b24,b25⟩⟩
theorem open_Ops (F:Fit H Q m) {fuel:Nat} {cs:List Value} {x:DataW H × List MemPlace} (h:DataW.trod enc Try.prog W 0 (fun _=>true) true fuel 22 cs=some x) (hq:Q 22 x.1) :
 ∃ (sp:Option Addr) (cap:Nat) (l:List Opv),cs=[.slice sp l.length cap]∧OpsIn W m sp l∧l.length≤cap∧(sp=none→cap=0)∧l.length≤m:=by
 rcases DataW.trod_slice Try.underlying22 h with ⟨rfl,rfl⟩ | ⟨a,len,cap,elems,rest,n,_,rfl,rfl,hb,hl,hm,hlen,hel,_,_⟩
 · exact ⟨none,0,[],rfl,fun j v hv=>(by simp at hv),xnR _,fun _=>rfl,Nat.zero_le _⟩
 · have hc:Try.prog.cellsOf 30=3:=by kernel_rfl
   have hq2:=F.rowOp _ _ hq
   rw [List.length_map] at hq2
   have key:∀ k,k≤len→∃ l:List Opv,l.length=k∧∀ j v,l[j]?=some v→∃ ad bp bc,(some a:Option Addr)=some ad∧(∀ k x,(Opc v bp bc)[k]?=some x→W.cell? ((ad.add (j*3)).add k)=some x)∧OpV W m v bp bc:=by
    intro k
    induction k with
    | zero=>exact fun _=>⟨[],rfl,fun j f hj=>by simp at hj⟩
    | succ k ih =>
      intro hk
      obtain ⟨l,h1,h2⟩:=ih (by omega)
      have h3:=hel k (by omega)
      rw [hc,List.getElem?_eq_getElem (by omega)] at h3
      obtain ⟨cs,h4,h5⟩:=Option.bind_eq_some_iff.1 h3
      obtain ⟨v,bp,bc,rfl,hv⟩:=open_Op F h5 (hq2.2 _ (List.mem_map_of_mem (List.getElem_mem (by omega))))
      obtain ⟨_,_,h6⟩:=World.cells?_some h4
      refine ⟨l++[v],by rw [List.length_append,h1]; rfl,fun j g hj=>?_⟩
      by_cases hjk:j<l.length
      · rw [List.getElem?_append_left hjk] at hj
        exact h2 j g hj
      · rw [List.getElem?_append_right (by omega)] at hj
        have hj0:j=k:=by
         rcases Nat.lt_or_ge (j-l.length) 1 with h' | h'
         · omega
         · rw [List.getElem?_eq_none (by simpa using h')] at hj; cases hj
        subst hj0
        rw [h1,Nat.sub_self] at hj
        injection hj with hj
        subst hj
        refine ⟨a,bp,bc,rfl,fun i v hiv=>?_,hv⟩
        have hi:i<3:=by
         rcases Nat.lt_or_ge i 3 with h' | h'
         · exact h'
         · rw [List.getElem?_eq_none (by exact h')] at hiv; cases hiv
        rw [h6 i hi]
        exact hiv
   obtain ⟨l,h1,h2⟩:=key len (xnR _)
   exact ⟨some a,cap,l,by rw [h1],h2,by omega,fun e=>(by cases e),by omega⟩
end
def Wok {H:Type} (t:TypeId) (d:DataW H):Prop:=∀ n∈d.weights Try.prog t,n≤reachBytes
theorem weights_all {H:Type} {P:Program} {e:TypeId} {d:DataW H} {n:Nat} (hn:n∈d.weights P e):∀ {l:List (DataW H)},d∈l→n∈DataW.weightsAll P e l
 | x::l,h=>by
   simp only [DataW.weightsAll,List.mem_append]
   rcases xc1 h with rfl | h
   · exact .inl hn
   · exact .inr (weights_all hn h)
theorem fitWok (H:Type):Fit H Wok 140737488351232 where
 ints a b h:=by
  have h1:=h ((a.length+b.length)*Try.prog.bytesOf 3) (by simp only [DataW.weights,Try.underlying37]; exact mS)
  rw [show Try.prog.bytesOf 3=8 by kernel_rfl] at h1
  simp only [reachBytes] at h1
  omega
 bytes a b h:=by
  have h1:=h ((a.length+b.length)*Try.prog.bytesOf 5) (by simp only [DataW.weights,Try.underlying28]; exact mS)
  rw [show Try.prog.bytesOf 5=1 by kernel_rfl] at h1
  simp only [reachBytes] at h1
  omega
 rowOp a b h:=by
  have h1:=h ((a.length+b.length)*Try.prog.bytesOf 30) (by simp only [DataW.weights,Try.underlying22]; exact mS)
  rw [show Try.prog.bytesOf 30=40 by kernel_rfl] at h1
  simp only [reachBytes] at h1
  refine ⟨by omega,fun d hd n hn=>h n ?_⟩
  simp only [DataW.weights,Try.underlying22]
  exact mT _ (List.mem_append_left _ (weights_all hn hd))
 elOp l h:=by
  have hu:Try.prog.underlying 30=some (.struct (Try.prog.fieldsOf 30)):=by kernel_rfl
  have ht:(Try.prog.fieldsOf 30).toList.map (·.type)=[3,3,28]:=by kernel_rfl
  have e:∀ n∈DataW.weightsEach Try.prog [3,3,28] l,n≤reachBytes:=fun n hn=>h n (by simp only [DataW.weights,hu,ht]; exact hn)
  exact fun d hd n hn=>e n (DataW.weights_mem_each (j:=2) rfl hd n hn)
section
variable {H:Type} {enc:TypeId × Value→H} {W:World} {Q:TypeId→DataW H→Prop} {m:Nat}
theorem again {t:TypeId} (hr:Try.prog.readableRec t=true) (hrow:t<Try.prog.types.size) {v:Value} {d:DataW H} {p:List MemPlace} (h:DataW.Trod enc Try.prog W 0 (fun _=>true) true t v d p) (W':World) (hb:Below W.heap.size W W'):DataW.Trod enc Try.prog W' 0 (fun b=>decide (b<W.heap.size)) true t v d p :=
 hb.trod laidOut hr hrow h (by obtain ⟨fuel,hf⟩:=h; exact fun x hx=>DataW.trod_lt _ _ _ _ hf x hx)
theorem arg_Ops (F:Fit H Q m) {r:Reach} {b0:Nat} {v:Value} {d:DataW H} {p:List MemPlace} (hv:Value.okWide Try.prog W r b0 22 v) (h:DataW.Trod enc Try.prog W 0 (fun _=>true) true 22 v d p) (hq:Q 22 d) :
 ∃ (sp:Option Addr) (cap:Nat) (l:List Opv),v=.slice sp l.length cap∧OpsIn W m sp l∧l.length≤cap∧(sp=none→cap=0)∧l.length≤m:=by
 obtain ⟨sp,len,cap,rfl⟩:=okWide_slice Try.underlying22 hv
 obtain ⟨fuel,hf⟩:=h
 obtain ⟨sp',cap',l,h1,h2⟩:=open_Ops F hf hq
 simp [Value.cells] at h1
 obtain ⟨rfl,rfl,rfl⟩:=h1
 exact ⟨_,_,l,rfl,h2⟩
end
end
end Go.Proofs.Ytcjahbdlaojnoaa
