/- Texts of Nn Opn Open18, joined. -/
import Derived.Test.YtpdpfdelglgfnaaP11OutboxPlays
import Derived.Test.YtpdpfdelglgfnaaP12OutboxPlays
import Derived.ProofKit
import Derived.LaidMore
import Derived.OpenShut
import Derived.Deep.Strs
import Derived.Stop.Joined
import Derived.Test.YtpdpfdelglgfnaaRows
set_option maxRecDepth 20000
set_option maxHeartbeats 64000000
namespace Go.Proofs.Ytpdpfdelglgfnaa
open Go.RowKit
theorem one_cell18 {w:World} {B:Nat} {v:Value} (h:w.cell? ⟨B,0,none⟩=some v):∀ j u,[v][j]?=some u→w.cell? ((⟨B,0,none⟩:Addr).add j)=some u:=fun j u hu=>by
 rcases j with _ | j
 · obtain rfl:=Option.some.inj hu
   exact h
 · cases hu
theorem vclo18 (w0 w:World) (R:Nat) (T:List (Nat × List Value)) (kb nb st:Nat) (s lim:Int) (sb sg sa:Option Addr) (cb cg ca:Nat) (G A:Rgs17) (bf:Nat→Int) (hkn:kb+nb<4000000) (hlg:G.length<1000000) (hla:A.length<1000000) (M0:Mm w0 ((R,[.int .i64 ((kb:Nat):Int),.slice sb nb cb,.int .i64 s,.int .i64 lim,.int .i64 ((st:Nat):Int),.slice sg G.length cg,.slice sa A.length ca])::T) w) (W_b:Wnd w sb nb cb bf) (N_g:NewW w 0 G (.slice sg G.length cg)) (N_a:NewW w 0 A (.slice sa A.length ca)) :
 Calls Try.prog 21 #[.pointer (some ⟨R,0,none⟩)] w fun e w'=>∃ C,e=.returned (.pointer (some ⟨C,0,none⟩))∧∃ sb' cb' sg' cg' sa' ca',Mm w0 ((C,[.int .i64 ((kb:Nat):Int),.slice sb' nb cb',.int .i64 s,.int .i64 lim,.int .i64 ((st:Nat):Int),.slice sg' G.length cg',.slice sa' A.length ca'])::(obs sg'++(obs sa'++(obs sb'++((R,[.int .i64 ((kb:Nat):Int),.slice sb nb cb,.int .i64 s,.int .i64 lim,.int .i64 ((st:Nat):Int),.slice sg G.length cg,.slice sa A.length ca])::T))))) w'∧Wnd w' sb' nb cb' bf∧w'.ownsRow 0 49 2 (.slice sg' G.length cg') G.length (wrc G)∧w'.ownsRow 0 49 2 (.slice sa' A.length ca') A.length (wrc A)∧Below w.heap.size w w':=by
 have hall:=M0.rangeAt mS; have h0:=M0.get mS 0 _ rfl; have h1:=M0.get mS 1 _ rfl; have h2:=M0.get mS 2 _ rfl; have h3:=M0.get mS 3 _ rfl; have h4:=M0.get mS 4 _ rfl; have h5:=M0.get mS 5 _ rfl; have h6:=M0.get mS 6 _ rfl
 obtain ⟨T2,hT2⟩:∃ T_,T_=(R,[.int .i64 ((kb:Nat):Int),.slice sb nb cb,.int .i64 s,.int .i64 lim,.int .i64 ((st:Nat):Int),.slice sg G.length cg,.slice sa A.length ca])::T:=⟨_,rfl⟩
 rw [← hT2] at M0
 have M:=M0; clear M0; have hB:=Below.refl w.heap.size w
 go_enter Try.func21,Try.ntmps21
 go_upto_region 0 with fail; refine wp_region_list ?_; refine xpL (.pointer none) ?_; refine xT ?_; go_upto_region 1 with fail; refine wp_region_list ?_; refine xpL (.pointer (some ⟨R,0,none⟩)) ?_; refine xpL (.pointer (some ⟨R,0,none⟩)) ?_
 refine xaL (.agg #[.int .i64 ((kb:Nat):Int),.slice sb nb cb,.int .i64 s,.int .i64 lim,.int .i64 ((st:Nat):Int),.slice sg G.length cg,.slice sa A.length ca]) (loadN 57 _ ⟨R,0,none⟩ [.int .i64 ((kb:Nat):Int),.slice sb nb cb,.int .i64 s,.int .i64 lim,.int .i64 ((st:Nat):Int),.slice sg G.length cg,.slice sa A.length ca] rfl rfl (fun _=>by kernel_rfl) (fun _=>by kernel_rfl) (fun j_ u_ hu_=>cellT hB (hall j_ u_ hu_))) ?_
 have hlb:=(Below.refl w.heap.size w).alloc (xnR _) (.cells #[.int .i64 0,.slice none 0 0,.int .i64 0,.int .i64 0,.int .i64 0,.slice none 0 0,.slice none 0 0] 57); refine actL (w':=w.alloc (.cells #[.int .i64 0,.slice none 0 0,.int .i64 0,.int .i64 0,.int .i64 0,.slice none 0 0,.slice none 0 0] 57)) (.pointer (some ⟨w.heap.size,0,none⟩)) rfl (by kernel_rfl) ?_
 simp only [aP,lI,l0,lS]; have hB_:=hB.size; replace hB:=hB.trans (hlb.mono hB.size); replace M:=M.box #[.int .i64 0,.slice none 0 0,.int .i64 0,.int .i64 0,.int .i64 0,.slice none 0 0,.slice none 0 0] 57 w.heap.size rfl; clear hlb; generalize w.alloc (.cells #[.int .i64 0,.slice none 0 0,.int .i64 0,.int .i64 0,.int .i64 0,.slice none 0 0,.slice none 0 0] 57)=w1 at M hB ⊢
 generalize eB_:w.heap.size=B1 at M ⊢
 have hB_B1:w.heap.size≤B1:=by rw [← eB_]; exact hB_
 clear hB_ eB_
 replace M:Mm w0 ((B1,[.int .i64 0,.slice none 0 0,.int .i64 0,.int .i64 0,.int .i64 0,.slice none 0 0,.slice none 0 0])::T2) w1:=M
 refine skipOpL rfl (storeP [.int .i64 ((kb:Nat):Int),.slice sb nb cb,.int .i64 s,.int .i64 lim,.int .i64 ((st:Nat):Int),.slice sg G.length cg,.slice sa A.length ca] B1 0 57 _ _ rfl rfl rfl (M.thereP mS 0 7 (Nat.le_of_ble_eq_true rfl)) (by kernel_rfl) (List.all_eq_true.1 (rfl:([.int .i64 ((kb:Nat):Int),.slice sb nb cb,.int .i64 s,.int .i64 lim,.int .i64 ((st:Nat):Int),.slice sg G.length cg,.slice sa A.length ca]:List Value).all (fun u=>u.oneCell')=true))) ?_
 simp only [Act.put]; replace M:=M.setPart [.int .i64 ((kb:Nat):Int),.slice sb nb cb,.int .i64 s,.int .i64 lim,.int .i64 ((st:Nat):Int),.slice sg G.length cg,.slice sa A.length ca] 0 (Nat.le_of_ble_eq_true rfl)
 replace hB:=below_setAll hB B1 hB_B1 0 [.int .i64 ((kb:Nat):Int),.slice sb nb cb,.int .i64 s,.int .i64 lim,.int .i64 ((st:Nat):Int),.slice sg G.length cg,.slice sa A.length ca]; generalize w1.setCells B1 0 [.int .i64 ((kb:Nat):Int),.slice sb nb cb,.int .i64 s,.int .i64 lim,.int .i64 ((st:Nat):Int),.slice sg G.length cg,.slice sa A.length ca]=w2 at M hB ⊢
 replace M:Mm w0 ((B1,[.int .i64 ((kb:Nat):Int),.slice sb nb cb,.int .i64 s,.int .i64 lim,.int .i64 ((st:Nat):Int),.slice sg G.length cg,.slice sa A.length ca])::T2) w2:=M
 refine xT ?_; go_upto_region 2 with fail; have hdr:=(Below.refl w2.heap.size w2).drew; replace M:=M.drew; replace hB:=hB.trans (hdr.mono hB.size); clear hdr; refine wp_region_C (S:=fun w'=>Below w.heap.size w w') 15 (by kernel_rfl) hB ?_; intro _; generalize w2.drew=w3 at M hB ⊢
 refine readC (i:=0) (some 7) rfl (.pointer (some ⟨R,0,none⟩)) rfl rfl (by kernel_rfl) rfl (fun _ hS=>(by kernel_rfl)) (by kernel_rfl) (by kernel_rfl) (by kernel_rfl) (by kernel_rfl) (fun _ _ _ h=>h) hB ?_; simp only [aP,lI,l0,lS]
 refine readC (i:=1) (some 8) rfl (.pointer (some ⟨R,0,none⟩)) rfl rfl (by kernel_rfl) rfl (fun _ hS=>(by kernel_rfl)) (by kernel_rfl) (by kernel_rfl) (by kernel_rfl) (by kernel_rfl) (fun _ _ _ h=>h) hB ?_; simp only [aP,lI,l0,lS]
 refine readC (i:=2) (some 9) rfl (.pointer (some ⟨R,0,none⟩)) rfl rfl (by kernel_rfl) rfl (fun _ hS=>(by kernel_rfl)) (by kernel_rfl) (by kernel_rfl) (by kernel_rfl) (by kernel_rfl) (fun _ _ _ h=>h) hB ?_; simp only [aP,lI,l0,lS]
 refine readC (i:=3) (some 10) rfl (.pointer (some ⟨R,0,none⟩)) rfl rfl (by kernel_rfl) rfl (fun _ hS=>(by kernel_rfl)) (by kernel_rfl) (by kernel_rfl) (by kernel_rfl) (by kernel_rfl) (fun _ _ _ h=>h) hB ?_; simp only [aP,lI,l0,lS]
 refine readC (i:=4) (some 11) rfl (.pointer (some ⟨R,0,none⟩)) rfl rfl (by kernel_rfl) rfl (fun _ hS=>(by kernel_rfl)) (by kernel_rfl) (by kernel_rfl) (by kernel_rfl) (by kernel_rfl) (fun _ _ _ h=>h) hB ?_; simp only [aP,lI,l0,lS]
 refine readC (i:=5) (some 12) rfl (.pointer (some ⟨R,0,none⟩)) rfl rfl (by kernel_rfl) rfl (fun _ hS=>(by kernel_rfl)) (by kernel_rfl) (by kernel_rfl) (by kernel_rfl) (by kernel_rfl) (fun _ _ _ h=>h) hB ?_; simp only [aP,lI,l0,lS]
 refine readC (i:=6) (some 13) rfl (.pointer (some ⟨R,0,none⟩)) rfl rfl (by kernel_rfl) rfl (fun _ hS=>(by kernel_rfl)) (by kernel_rfl) (by kernel_rfl) (by kernel_rfl) (by kernel_rfl) (fun _ _ _ h=>h) hB ?_; simp only [aP,lI,l0,lS]
 refine readC (i:=7) (some 14) rfl (.int .i64 ((kb:Nat):Int)) rfl rfl (by kernel_rfl) rfl (fun _ hS=>load1 3 _ ⟨R,0,none⟩ _ rfl rfl (fun _=>by kernel_rfl) (cellT hS h0)) (by kernel_rfl) (by kernel_rfl) (by kernel_rfl) (by kernel_rfl) (fun _ _ _ h=>h) hB ?_; simp only [aP,lI,l0,lS]
 refine readC (i:=8) (some 15) rfl (.pointer (some ⟨R,0,none⟩)) rfl rfl (by kernel_rfl) rfl (fun _ hS=>(by kernel_rfl)) (by kernel_rfl) (by kernel_rfl) (by kernel_rfl) (by kernel_rfl) (fun _ _ _ h=>h) hB ?_; simp only [aP,lI,l0,lS]
 refine readC (i:=9) (some 16) rfl (.pointer (some ⟨R,0,none⟩)) rfl rfl (by kernel_rfl) rfl (fun _ hS=>(by kernel_rfl)) (by kernel_rfl) (by kernel_rfl) (by kernel_rfl) (by kernel_rfl) (fun _ _ _ h=>h) hB ?_; simp only [aP,lI,l0,lS]
 refine readC (i:=10) (some 17) rfl (.pointer (some ⟨R,0,none⟩)) rfl rfl (by kernel_rfl) rfl (fun _ hS=>(by kernel_rfl)) (by kernel_rfl) (by kernel_rfl) (by kernel_rfl) (by kernel_rfl) (fun _ _ _ h=>h) hB ?_; simp only [aP,lI,l0,lS]; have key:=vend18 R kb nb sb cb _ (cellT hB h0) (cellT hB h1) hkn
 refine callMC (i:=11) (some 18) rfl (by kernel_rfl) rfl rfl (fun _=>by kernel_rfl) key ?_; clear key; rintro e w4 ⟨rfl,l_⟩; replace M:=M.call l_; replace hB:=hB.trans (l_.mono hB.size); clear l_
 refine ⟨_,rfl,hB,?_⟩
 simp only [aP,lI,l0,lS]; have key:=vpiece18 R kb nb sb cb bf kb (kb+nb) _ (cellT hB h0) (cellT hB h1) (W_b.bel hB) (xnR _) (by omega) (xnR _) hkn
 rw [show kb+nb-kb=nb by omega] at key
 refine callMC (i:=12) (some 19) rfl (by kernel_rfl) rfl rfl (fun _=>by kernel_rfl) key ?_; clear key; rintro e w5 ⟨Bp,rfl,hBp,W_q,l_⟩; replace W_q:=W_q.congr (z:=bf) (fun j_ _=>by show bf (kb-kb+j_)=bf j_; rw [show kb-kb+j_=j_ by omega])
 have M':=M.newO (sp:=some ⟨Bp,0,none⟩) l_ (fun x_ hx_=>by obtain rfl:=xm1 hx_; exact ⟨hBp,W_q.lt _ mS⟩)
 replace hB:=hB.trans (l_.mono hB.size); clear l_ M hBp
 have M:Mm w0 ((B1,[.int .i64 ((kb:Nat):Int),.slice sb nb cb,.int .i64 s,.int .i64 lim,.int .i64 ((st:Nat):Int),.slice sg G.length cg,.slice sa A.length ca])::((obs (some ⟨Bp,0,none⟩))++T2)) w5:=M'.perm (pull0 ([(B1,[.int .i64 ((kb:Nat):Int),.slice sb nb cb,.int .i64 s,.int .i64 lim,.int .i64 ((st:Nat):Int),.slice sg G.length cg,.slice sa A.length ca])]:List (Nat × List Value)) (obs (some ⟨Bp,0,none⟩)) T2).symm
 clear M'
 refine ⟨_,rfl,hB,?_⟩
 simp only [aP,lI,l0,lS]; refine xqC 13 20 rfl (.pointer (some ⟨B1,0,none⟩)) (fun _=>(by kernel_rfl)) hB ?_; refine readC (i:=14) (some 21) rfl (.pointer (some ⟨B1,1,none⟩)) rfl rfl (by kernel_rfl) rfl (fun _ hS=>(by kernel_rfl)) (by kernel_rfl) (by kernel_rfl) (by kernel_rfl) (by kernel_rfl) (fun _ _ _ h=>h) hB ?_; simp only [aP,lI,l0,lS]
 refine skipC (S2:=fun _=>True) none rfl (by kernel_rfl) rfl rfl (storeAny (.slice (some ⟨Bp,0,none⟩) nb nb) B1 1 28 _ _ rfl rfl rfl rfl rfl (M.isSome mS 1 (by simp)) (M.free mS 1 (by simp)) (by kernel_rfl)) (by kernel_rfl) ?_; simp only [Act.put]; replace M:=M.set 1 (by simp) (.slice (some ⟨Bp,0,none⟩) nb nb); replace hB:=below_setAll hB B1 hB_B1 1 [.slice (some ⟨Bp,0,none⟩) nb nb]
 replace W_q:=W_q.off ((Off.refl [B1] _).set (b:=B1) mS 1 (.slice (some ⟨Bp,0,none⟩) nb nb)) (fun b_ hb_=>by obtain rfl:=xm1 hb_; exact M.awayB (fun p_ hp_=>by simp [hp_]))
 replace hB:Below w.heap.size w (w5.setCell ⟨B1,1,none⟩ (.slice (some ⟨Bp,0,none⟩) nb nb)):=hB
 generalize w5.setCell ⟨B1,1,none⟩ (.slice (some ⟨Bp,0,none⟩) nb nb)=w6 at M hB W_q ⊢
 replace M:Mm w0 ((B1,[.int .i64 ((kb:Nat):Int),.slice (some ⟨Bp,0,none⟩) nb nb,.int .i64 s,.int .i64 lim,.int .i64 ((st:Nat):Int),.slice sg G.length cg,.slice sa A.length ca])::((obs (some ⟨Bp,0,none⟩))++T2)) w6:=M
 refine wpAnyH_done (by kernel_rfl) ?_ _
 first | show Exit.then _ _ _ _ _ | show Exit.inBlock _ _ _ _ _
 go_upto_region 3 with fail; have hdr:=(Below.refl w6.heap.size w6).drew; replace M:=M.drew; replace hB:=hB.trans (hdr.mono hB.size); replace W_q:=W_q.bel hdr; clear hdr; refine wp_region_held_drew (S:=fun w'=>Below w.heap.size w w') (by kernel_rfl) hB ?_; intro _; generalize w6.drew=w7 at M hB W_q ⊢
 refine xrH 0 22 rfl (.pointer (some ⟨R,0,none⟩)) (fun _ hS=>(by kernel_rfl)) hB ?_; refine xrH 1 23 rfl (.pointer (some ⟨R,0,none⟩)) (fun _ hS=>(by kernel_rfl)) hB ?_; refine xrH 2 24 rfl (.pointer (some ⟨R,5,none⟩)) (fun _ hS=>(by kernel_rfl)) hB ?_; refine xrH 6 28 rfl (.pointer (some ⟨R,0,none⟩)) (fun _ hS=>(by kernel_rfl)) hB ?_
 refine xrH 7 29 rfl (.pointer (some ⟨R,0,none⟩)) (fun _ hS=>(by kernel_rfl)) hB ?_; refine xrH 8 30 rfl (.pointer (some ⟨R,6,none⟩)) (fun _ hS=>(by kernel_rfl)) hB ?_; have key:=vclone_any17 w0 _ R 5 sg cg G _ hlg M (cellT hB h5) (NewW.below N_g hB); refine callH (i:=3) (some 25) rfl (by kernel_rfl) rfl rfl (fun _=>by kernel_rfl) key ?_; clear key
 rintro e w8 ⟨Eg,sg',cg',rfl,M',V_g,l_⟩; replace hB:=hB.trans (l_.mono hB.size); replace W_q:=W_q.bel l_; clear l_ M
 have M:Mm w0 ((Eg,[.slice sg' G.length cg'])::(B1,[.int .i64 ((kb:Nat):Int),.slice (some ⟨Bp,0,none⟩) nb nb,.int .i64 s,.int .i64 lim,.int .i64 ((st:Nat):Int),.slice sg G.length cg,.slice sa A.length ca])::((obs sg')++((obs (some ⟨Bp,0,none⟩))++T2))) w8:=M'.perm (List.Perm.cons _ List.perm_middle)
 clear M'
 refine ⟨_,rfl,hB,?_⟩
 simp only [aP,lI,l0,lS]; refine wpAnyH_more (S':=fun w'=>Below w.heap.size w w'∧w'.cell? ⟨Eg,0,none⟩=some (.slice sg' G.length cg')) (fun _ h_=>h_.1) _ _ _ _ ?_; refine xrH 4 26 rfl (.pointer (some ⟨Eg,0,none⟩)) (fun _ hS=>(by kernel_rfl)) ⟨hB,M.get mS 0 _ rfl⟩ ?_
 refine xrH 5 27 rfl (.agg #[.slice sg' G.length cg']) (fun _ hS=>loadN 55 _ ⟨Eg,0,none⟩ [.slice sg' G.length cg'] rfl rfl (fun _=>by kernel_rfl) (fun _=>by kernel_rfl) (one_cell18 hS.2)) ⟨hB,M.get mS 0 _ rfl⟩ ?_; have key:=vclone_any17 w0 _ R 6 sa ca A _ hla M (cellT hB h6) (NewW.below N_a hB); refine callH (i:=9) (some 31) rfl (by kernel_rfl) rfl rfl (fun _=>by kernel_rfl) key ?_
 clear key; rintro e w9 ⟨Ea,sa',ca',rfl,M',V_a,l_⟩; replace hB:=hB.trans (l_.mono hB.size); replace W_q:=W_q.bel l_; replace V_g:=ownsRow_bel V_g l_; clear l_ M
 have M:Mm w0 ((Ea,[.slice sa' A.length ca'])::(Eg,[.slice sg' G.length cg'])::(B1,[.int .i64 ((kb:Nat):Int),.slice (some ⟨Bp,0,none⟩) nb nb,.int .i64 s,.int .i64 lim,.int .i64 ((st:Nat):Int),.slice sg G.length cg,.slice sa A.length ca])::((obs sa')++((obs sg')++((obs (some ⟨Bp,0,none⟩))++T2)))) w9:=M'.perm (List.Perm.cons _ (List.perm_middle.trans (List.Perm.cons _ List.perm_middle)))
 clear M'
 refine ⟨_,rfl,⟨hB,M.get (mT _ mS) 0 _ rfl⟩,?_⟩
 simp only [aP,lI,l0,lS]; refine wpAnyH_more (S':=fun w'=>Below w.heap.size w w'∧w'.cell? ⟨Eg,0,none⟩=some (.slice sg' G.length cg')∧w'.cell? ⟨Ea,0,none⟩=some (.slice sa' A.length ca')) (fun _ h_=>⟨h_.1,h_.2.1⟩) _ _ _ _ ?_; refine xrH 10 32 rfl (.pointer (some ⟨Ea,0,none⟩)) (fun _ hS=>(by kernel_rfl)) ⟨hB,M.get (mT _ mS) 0 _ rfl,M.get mS 0 _ rfl⟩ ?_
 refine xrH 11 33 rfl (.agg #[.slice sa' A.length ca']) (fun _ hS=>loadN 55 _ ⟨Ea,0,none⟩ [.slice sa' A.length ca'] rfl rfl (fun _=>by kernel_rfl) (fun _=>by kernel_rfl) (one_cell18 hS.2.2)) ⟨hB,M.get (mT _ mS) 0 _ rfl,M.get mS 0 _ rfl⟩ ?_; refine xrH 12 34 rfl (.pointer (some ⟨B1,5,none⟩)) (fun _ hS=>(by kernel_rfl)) ⟨hB,M.get (mT _ mS) 0 _ rfl,M.get mS 0 _ rfl⟩ ?_
 replace M:=M.rot3; have hth_:=M.thereP mS 5 1 (Nat.le_of_ble_eq_true rfl); replace M:=M.setPart [.slice sg' G.length cg'] 5 (Nat.le_of_ble_eq_true rfl); replace hB:=below_setAll hB B1 hB_B1 5 [.slice sg' G.length cg']
 replace W_q:=W_q.off ((Off.refl [B1] _).setAll (b:=B1) mS 5 [.slice sg' G.length cg']) (fun b_ hb_=>by obtain rfl:=xm1 hb_; exact M.awayB (fun p_ hp_=>by simp [hp_])); replace V_g:=ownsRow_away V_g ((Off.refl [B1] _).setAll (b:=B1) mS 5 [.slice sg' G.length cg']) (fun b_ hb_=>by obtain rfl:=xm1 hb_; exact M.awayB (fun p_ hp_=>by simp [hp_]))
 replace V_a:=ownsRow_away V_a ((Off.refl [B1] _).setAll (b:=B1) mS 5 [.slice sg' G.length cg']) (fun b_ hb_=>by obtain rfl:=xm1 hb_; exact M.awayB (fun p_ hp_=>by simp [hp_]))
 replace M:Mm w0 ((B1,[.int .i64 ((kb:Nat):Int),.slice (some ⟨Bp,0,none⟩) nb nb,.int .i64 s,.int .i64 lim,.int .i64 ((st:Nat):Int),.slice sg' G.length cg',.slice sa A.length ca])::(Ea,[.slice sa' A.length ca'])::(Eg,[.slice sg' G.length cg'])::((obs sa')++((obs sg')++((obs (some ⟨Bp,0,none⟩))++T2)))) (w9.setCells B1 5 [.slice sg' G.length cg']):=M
 refine doesH (i:=13) none rfl (by kernel_rfl) rfl rfl (storeP [.slice sg' G.length cg'] B1 5 55 _ _ rfl rfl rfl hth_ (by kernel_rfl) (List.all_eq_true.1 (rfl:([.slice sg' G.length cg']:List Value).all (fun u=>u.oneCell')=true))) ⟨hB,M.get (mI 2 rfl) 0 _ rfl,M.get (mT _ mS) 0 _ rfl⟩ ?_; simp only [Act.put]; clear hth_
 generalize w9.setCells B1 5 [.slice sg' G.length cg']=w10 at M hB W_q V_g V_a ⊢
 replace M:Mm w0 ((B1,[.int .i64 ((kb:Nat):Int),.slice (some ⟨Bp,0,none⟩) nb nb,.int .i64 s,.int .i64 lim,.int .i64 ((st:Nat):Int),.slice sg' G.length cg',.slice sa A.length ca])::(Ea,[.slice sa' A.length ca'])::(Eg,[.slice sg' G.length cg'])::((obs sa')++((obs sg')++((obs (some ⟨Bp,0,none⟩))++T2)))) w10:=M
 refine xrH 14 35 rfl (.pointer (some ⟨B1,6,none⟩)) (fun _ hS=>(by kernel_rfl)) ⟨hB,M.get (mI 2 rfl) 0 _ rfl,M.get (mT _ mS) 0 _ rfl⟩ ?_; have hth_:=M.thereP mS 6 1 (Nat.le_of_ble_eq_true rfl); replace M:=M.setPart [.slice sa' A.length ca'] 6 (Nat.le_of_ble_eq_true rfl); replace hB:=below_setAll hB B1 hB_B1 6 [.slice sa' A.length ca']
 replace W_q:=W_q.off ((Off.refl [B1] _).setAll (b:=B1) mS 6 [.slice sa' A.length ca']) (fun b_ hb_=>by obtain rfl:=xm1 hb_; exact M.awayB (fun p_ hp_=>by simp [hp_])); replace V_g:=ownsRow_away V_g ((Off.refl [B1] _).setAll (b:=B1) mS 6 [.slice sa' A.length ca']) (fun b_ hb_=>by obtain rfl:=xm1 hb_; exact M.awayB (fun p_ hp_=>by simp [hp_]))
 replace V_a:=ownsRow_away V_a ((Off.refl [B1] _).setAll (b:=B1) mS 6 [.slice sa' A.length ca']) (fun b_ hb_=>by obtain rfl:=xm1 hb_; exact M.awayB (fun p_ hp_=>by simp [hp_]))
 replace M:Mm w0 ((B1,[.int .i64 ((kb:Nat):Int),.slice (some ⟨Bp,0,none⟩) nb nb,.int .i64 s,.int .i64 lim,.int .i64 ((st:Nat):Int),.slice sg' G.length cg',.slice sa' A.length ca'])::(Ea,[.slice sa' A.length ca'])::(Eg,[.slice sg' G.length cg'])::((obs sa')++((obs sg')++((obs (some ⟨Bp,0,none⟩))++T2)))) (w10.setCells B1 6 [.slice sa' A.length ca']):=M
 refine doesH (i:=15) none rfl (by kernel_rfl) rfl rfl (storeP [.slice sa' A.length ca'] B1 6 55 _ _ rfl rfl rfl hth_ (by kernel_rfl) (List.all_eq_true.1 (rfl:([.slice sa' A.length ca']:List Value).all (fun u=>u.oneCell')=true))) ⟨hB,M.get (mI 2 rfl) 0 _ rfl,M.get (mT _ mS) 0 _ rfl⟩ ?_; simp only [Act.put]; clear hth_
 generalize w10.setCells B1 6 [.slice sa' A.length ca']=w11 at M hB W_q V_g V_a ⊢
 replace M:Mm w0 ((B1,[.int .i64 ((kb:Nat):Int),.slice (some ⟨Bp,0,none⟩) nb nb,.int .i64 s,.int .i64 lim,.int .i64 ((st:Nat):Int),.slice sg' G.length cg',.slice sa' A.length ca'])::(Ea,[.slice sa' A.length ca'])::(Eg,[.slice sg' G.length cg'])::((obs sa')++((obs sg')++((obs (some ⟨Bp,0,none⟩))++T2)))) w11:=M
 refine wpAnyH_done (by kernel_rfl) ?_ _
 first | show Exit.then _ _ _ _ _ | show Exit.inBlock _ _ _ _ _
 go_upto_region 4 with fail; refine wp_region_list ?_; refine xpL (.pointer (some ⟨B1,0,none⟩)) ?_; refine xT ?_
 replace M:Mm w0 ((B1,[.int .i64 ((kb:Nat):Int),.slice (some ⟨Bp,0,none⟩) nb nb,.int .i64 s,.int .i64 lim,.int .i64 ((st:Nat):Int),.slice sg' G.length cg',.slice sa' A.length ca'])::((obs sa')++((obs sg')++((obs (some ⟨Bp,0,none⟩))++T2)))) w11:=M.sub _ (List.cons_sublist_cons.2 (List.Sublist.cons _ (List.Sublist.cons _ ((List.Sublist.refl _).append ((List.Sublist.refl _).append ((List.Sublist.refl _).append (List.Sublist.refl _)))))))
 replace M:=M.perm (List.Perm.cons _ (pull0 (obs sa') (obs sg') ((obs (some ⟨Bp,0,none⟩))++T2)))
 rw [hT2] at M
 have HS:=show Hid _ from (And.intro M (And.intro W_q (And.intro V_g (And.intro V_a hB)))); clear M W_q V_g V_a hB; go_wp2; go_ret
 first | exact ⟨_,rfl,_,_,_,_,_,_,HS.out⟩ | exact ⟨rfl,_,_,_,_,_,_,HS.out⟩
def pcl (o:Obx) (s:Int) (sb:Option Addr) (cb:Nat) (sg:Option Addr) (cg:Nat) (sa:Option Addr) (ca:Nat) (G A:Rgs17):List Value:=[.int .i64 ((obase o:Nat):Int),.slice sb (o.b.length-obase o) cb,.int .i64 s,.int .i64 o.lim,.int .i64 ((o.sent:Nat):Int),.slice sg G.length cg,.slice sa A.length ca]
def PO18:OutI:=fun w v o bs=>∃ R s sb cb sg cg sa ca G A,v=.pointer (some ⟨R,0,none⟩)∧bs=(R,pcl o s sb cb sg cg sa ca G A)::(obs sg++(obs sa++obs sb))∧ORel o s G A∧Wnd w sb (o.b.length-obase o) cb (fun j=>bl o.b (obase o+j))∧w.ownsRow 0 49 2 (.slice sg G.length cg) G.length (wrc G)∧w.ownsRow 0 49 2 (.slice sa A.length ca) A.length (wrc A)
theorem po_app (R:Nat) (c:List Value) (a b d l:List (Nat × List Value)):((R,c)::(a++(b++d)))++l=(R,c)::(a++(b++(d++l))):=by rw [List.cons_append,List.append_assoc,List.append_assoc]
theorem po_fst (R:Nat) (c:List Value) (sg sa sb:Option Addr):((R,c)::(obs sg++(obs sa++obs sb))).map Prod.fst=R::(ob sg++(ob sa++ob sb)):=by
 rw [List.map_cons,List.map_append,List.map_append,obs_fst,obs_fst,obs_fst]
theorem PO18.off {w w':World} {v:Value} {o:Obx} {bs:List (Nat × List Value)} {X:List Nat} (hI:PO18 w v o bs) (f:Off X w w') (hX:∀ b∈X,b∉bs.map Prod.fst):PO18 w' v o bs:=by
 obtain ⟨R,s,sb,cb,sg,cg,sa,ca,G,A,rfl,rfl,hr,W_b,V_g,V_a⟩:=hI
 rw [po_fst] at hX
 exact ⟨R,s,sb,cb,sg,cg,sa,ca,G,A,rfl,rfl,hr,W_b.off f (fun b hb hm=>hX b hb (by simp [hm])),ownsRow_away V_g f (fun b hb hm=>hX b hb (by simp [hm])),ownsRow_away V_a f (fun b hb hm=>hX b hb (by simp [hm]))⟩
theorem pcl_owr {o:Obx} (hw:ObxW o) (b:List Int) (s:Int) (sb:Option Addr) (cb:Nat) (sg:Option Addr) (cg:Nat) (sa:Option Addr) (ca:Nat) (G A:Rgs17):pcl (owr o b) s sb cb sg cg sa ca G A=[.int .i64 ((obase o:Nat):Int),.slice sb (o.b.length-obase o+owN o b.length) cb,.int .i64 s,.int .i64 o.lim,.int .i64 ((o.sent:Nat):Int),.slice sg G.length cg,.slice sa A.length ca]:=by
 have h1:=obase_le o
 unfold pcl
 rw [obase_owr hw b,owr_len,show o.b.length+owN o b.length-obase o=o.b.length-obase o+owN o b.length by omega]
 rfl
theorem vout_any:OutOK PO18 where
 ptr:=fun _ _ _ _ h=>let ⟨R,_,_,_,_,_,_,_,_,_,e,_⟩:=h; ⟨R,e⟩
 off:=fun _ _ _ _ _ _ h f hX=>h.off f hX
 new:=fun w0 w l n _ M=>Calls.mono (vnewo18 w0 w l n M) fun e w' ⟨B,h1,h2,h3⟩=>⟨_,_,h1,⟨B,n,none,0,none,0,none,0,[],[],rfl,rfl,ORel.new n,Wnd.nil w' _,World.ownsRow_nil w' 0 49 2,World.ownsRow_nil w' 0 49 2⟩,h2,h3⟩
 wrt:=fun w0 w v o bs l sp cap b hw hln hbl hbc hbn _ hI M hs=>by
  obtain ⟨R,s,sb,cb,sg,cg,sa,ca,G,A,rfl,rfl,hr,W_b,V_g,V_a⟩:=hI
  rw [po_app] at M
  have hkb:=obase_le o; refine Calls.mono (vwrite18 w0 w R l (obase o) (o.b.length-obase o) o.sent s o.lim sb sg sa cb cg ca G A _ b sp cap (by omega) hbl hbc hbn (owN o b.length) (hr.room hw b.length) M W_b V_g V_a hs.1) fun e w' ⟨sb',cb',h1,M2,W2,Vg2,Va2,o2⟩=>?_
  rw [← pcl_owr hw b s sb' cb' sg cg sa ca G A] at M2
  have hl:=owr_len o b; have hk:=obase_owr hw b
  rw [show o.b.length-obase o+owN o b.length=(owr o b).b.length-obase (owr o b) by omega] at W2
  refine ⟨_,h1,⟨R,s,sb',cb',sg,cg,sa,ca,G,A,rfl,rfl,hr.wr b,W2.congr fun j hj=>?_,Vg2,Va2⟩,by rw [po_app]; exact M2,by rw [po_fst]; exact o2⟩
  rw [hk]
  rw [hk] at hj
  rw [← owr_bl o b (obase o+j) (by omega)]
  unfold app
  by_cases c:j<o.b.length-obase o
  · rw [if_pos c,if_pos (by omega)]
  · rw [if_neg c,if_neg (by omega),show obase o+j-o.b.length=j-(o.b.length-obase o) by omega]
 alw:=fun w0 w v o bs l n hw hln _ hI M=>by
  obtain ⟨R,s,sb,cb,sg,cg,sa,ca,G,A,rfl,rfl,hr,W_b,V_g,V_a⟩:=hI
  rw [po_app] at M
  refine Calls.mono (vallow18 w0 w R (obs sg++(obs sa++(obs sb++l))) (obase o) (o.b.length-obase o) o.sent s o.lim sb sg sa cb cg ca G A n M) fun e w' ⟨h1,M2,o2⟩=>?_
  have aw:∀ b∈[R],b∉ob sg∧b∉ob sa∧b∉ob sb:=fun b hb=>by
   obtain rfl:=xm1 hb
   exact ⟨M.awayB (fun p hp=>by simp [hp]),M.awayB (fun p hp=>by simp [hp]),M.awayB (fun p hp=>by simp [hp])⟩
  exact ⟨(R,pcl (oal o n) s sb cb sg cg sa ca G A)::(obs sg++(obs sa++obs sb)),h1,⟨R,s,sb,cb,sg,cg,sa,ca,G,A,rfl,rfl,hr.al n,W_b.off o2 (fun b hb=>(aw b hb).2.2),ownsRow_away V_g o2 (fun b hb=>(aw b hb).1),ownsRow_away V_a o2 (fun b hb=>(aw b hb).2.1)⟩,by rw [po_app]; exact M2,o2.mono (fun b hb=>by rw [po_fst]; rw [xm1 hb]; exact mS)⟩
 nxt:=fun w0 w v o bs l n hw hln hn hI M=>by
  obtain ⟨R,s,sb,cb,sg,cg,sa,ca,G,A,rfl,rfl,hr,W_b,V_g,V_a⟩:=hI
  rw [po_app] at M
  refine Calls.mono (vnextO18 w0 w R l o s sb sg sa cb cg ca G A hw hln hr n hn M W_b V_g V_a) fun e w' ⟨sq,cq,h1,h2,h3,sg',cg',G',hr',M2,W2,Vg2,Va2,o2⟩=>?_
  obtain ⟨e1,e2,_⟩:=onx_same o n
  have e3:=obase_onx o n
  have ep:pcl (onx o n) s sb cb sg' cg' sa ca G' A=[.int .i64 ((obase o:Nat):Int),.slice sb (o.b.length-obase o) cb,.int .i64 s,.int .i64 o.lim,.int .i64 (((onx o n).sent:Nat):Int),.slice sg' G'.length cg',.slice sa A.length ca]:=by unfold pcl; rw [e1,e2,e3]
  refine ⟨sq,cq,(R,pcl (onx o n) s sb cb sg' cg' sa ca G' A)::(obs sg'++(obs sa++obs sb)),h1,h2,h3,⟨R,s,sb,cb,sg',cg',sa,ca,G',A,rfl,rfl,hr',by rw [e1,e3]; exact W2,Vg2,Va2⟩,?_,by rw [po_fst]; exact o2⟩
  rw [po_app,ep]
  refine M2.perm (List.Perm.cons _ ?_)
  have:=(pull0 (obs sg'++(obs sa++obs sb)) (obs sq) l).symm
  rw [List.append_assoc,List.append_assoc,List.append_assoc,List.append_assoc] at this
  exact this
 lst:=fun w0 w v o bs l p n hw hln hp hn hI M=>by
  obtain ⟨R,s,sb,cb,sg,cg,sa,ca,G,A,rfl,rfl,hr,W_b,V_g,V_a⟩:=hI
  rw [po_app] at M
  exact Calls.mono (vlost18 w0 w R l o s sb sg sa cb cg ca G A hw hln hr p n hp hn M W_b V_g V_a) fun e w' ⟨sg',cg',G',h1,hr',M2,W2,Vg2,Va2,o2⟩=>⟨(R,pcl (olo o p n) s sb cb sg' cg' sa ca G' A)::(obs sg'++(obs sa++obs sb)),h1,⟨R,s,sb,cb,sg',cg',sa,ca,G',A,rfl,rfl,hr',W2,Vg2,Va2⟩,by rw [po_app]; exact M2,by rw [po_fst]; exact o2⟩
 ack:=fun w0 w v o bs l p L sl cl hw hln hp hL _ hN hA hI M=>by
  obtain ⟨R,s,sb,cb,sg,cg,sa,ca,G,A,rfl,rfl,hr,W_b,V_g,V_a⟩:=hI
  rw [po_app] at M
  rw [po_fst] at hA
  exact Calls.mono (vack18 w0 w R l o s sb sg sa cb cg ca G A hw hln hr p L sl cl hL (fun b hb hne=>hb.elim (fun h=>hA b h hne) (fun h=>hN.away h hne)) hN M W_b V_g V_a) fun e w' ⟨sb',cb',sg',cg',sa',ca',G',A',h1,hr',M2,W2,Vg2,Va2,o2⟩=>⟨(R,pcl (oac o p L) s sb' cb' sg' cg' sa' ca' G' A')::(obs sg'++(obs sa'++obs sb')),h1,⟨R,s,sb',cb',sg',cg',sa',ca',G',A',rfl,rfl,hr',W2,Vg2,Va2⟩,by rw [po_app]; exact M2,by rw [po_fst]; exact o2⟩
 bas:=fun w0 w v o bs l _ _ hI M=>by
  obtain ⟨R,s,sb,cb,sg,cg,sa,ca,G,A,rfl,rfl,hr,W_b,V_g,V_a⟩:=hI
  exact vbase18 R (obase o) w (M.get mS 0 _ rfl)
 end_:=fun w0 w v o bs l hw hln hI M=>by
  obtain ⟨R,s,sb,cb,sg,cg,sa,ca,G,A,rfl,rfl,hr,W_b,V_g,V_a⟩:=hI
  have hkb:=obase_le o; have h:=vendx18 R (obase o) (o.b.length-obase o) sb cb w (M.get mS 0 _ rfl) (M.get mS 1 _ rfl) (by omega)
  rw [show obase o+(o.b.length-obase o)=o.b.length by omega] at h
  exact h
 snt:=fun w0 w v o bs l _ _ hI M=>by
  obtain ⟨R,s,sb,cb,sg,cg,sa,ca,G,A,rfl,rfl,hr,W_b,V_g,V_a⟩:=hI
  exact vsent18 R o.sent w (M.get mS 4 _ rfl)
 idl:=fun w0 w v o bs l hw hln hI M=>by
  obtain ⟨R,s,sb,cb,sg,cg,sa,ca,G,A,rfl,rfl,hr,W_b,V_g,V_a⟩:=hI
  have hkb:=obase_le o; have h:=vidle18 R (obase o) (o.b.length-obase o) sb cb w (M.get mS 0 _ rfl) (M.get mS 1 _ rfl) (by omega)
  rw [show decide (o.b.length-obase o=0)=oid o from decide_eq_decide.2 (by omega)] at h
  exact h
 blk:=fun w0 w v o bs l hw hln hI M=>by
  obtain ⟨R,s,sb,cb,sg,cg,sa,ca,G,A,rfl,rfl,hr,W_b,V_g,V_a⟩:=hI
  have hkb:=obase_le o; have h:=vblk18 R (obase o) (o.b.length-obase o) o.sent o.lim sb sg cb cg G hr.cg (hr.lenG hw hln) w (M.get mS 0 _ rfl) (M.get mS 1 _ rfl) (M.get mS 3 _ rfl) (M.get mS 4 _ rfl) (M.get mS 5 _ rfl) (by omega) (NewW.ofOwn V_g)
  have e:(!rgB G 0 ((o.sent:Nat):Int)&&(decide ((obase o+(o.b.length-obase o):Nat)>o.sent)&&decide (((o.sent:Nat):Int)≥o.lim)))=obl o:=by
   rw [hr.cov hw hln]
   unfold obl
   rw [Bool.eq_iff_iff,xbA,xbA,Bool.not_eq_true',decide_eq_false_iff_not,decide_eq_true_eq,decide_eq_true_eq,decide_eq_true_eq]
   omega
  rw [e] at h
  exact h
theorem vocl_any:OutCl PO18:=fun w0 w v o bs l hw hln hI M=>by
 obtain ⟨R,s,sb,cb,sg,cg,sa,ca,G,A,rfl,rfl,hr,W_b,V_g,V_a⟩:=hI
 rw [po_app] at M
 have hkb:=obase_le o
 refine Calls.mono (vclo18 w0 w R (obs sg++(obs sa++(obs sb++l))) (obase o) (o.b.length-obase o) o.sent s o.lim sb sg sa cb cg ca G A _ (by omega) (hr.lenG hw hln) (hr.lenA hw hln) M W_b (NewW.ofOwn V_g) (NewW.ofOwn V_a)) fun e w' ⟨C,h1,sb',cb',sg',cg',sa',ca',M2,W2,Vg2,Va2,l2⟩=>⟨_,(C,pcl o s sb' cb' sg' cg' sa' ca' G A)::(obs sg'++(obs sa'++obs sb')),h1,⟨C,s,sb',cb',sg',cg',sa',ca',G,A,rfl,rfl,hr,W2,Vg2,Va2⟩,?_,l2⟩
 rw [po_app,po_app]
 exact M2
section
open Go.ChangeShapes Go.WideShapes Go.ChangeAt Go.WideMaps Go.WideElems Go.RowKit
section
variable {H:Type} {enc:TypeId × Value→H} {P:Program} {w:World} {base:Nat} {sp:Nat→Bool} {held:Bool}
end
theorem wf_u8 {n:Int}:(Lit.int .u8 n).wf=true↔0≤n∧n<256:=by
 simp [Lit.wf,IntKind.min,IntKind.max,IntKind.signed,IntKind.bits]
 omega
theorem wf_i64 {n:Int}:(Lit.int .i64 n).wf=true↔-9223372036854775808≤n∧n≤9223372036854775807:=by
 simp [Lit.wf,IntKind.min,IntKind.max,IntKind.signed,IntKind.bits]
end
section
open Go.ChangeShapes Go.WideShapes Go.ChangeAt Go.WideMaps Go.WideElems Go.RowKit
theorem own:ownKnob Try.prog.godebug=none:=by kernel_rfl
theorem cellsByte:Try.prog.cellsOf 5=1:=by kernel_rfl
theorem laidOut:laidOutB Try.prog=true:=by kernel_rfl
structure Fit (H:Type) (Q:TypeId→DataW H→Prop) (m:Nat):Prop where
 ints:∀ a b,Q 47 (.slice a b)→a.length≤m
 bytes:∀ a b,Q 28 (.slice a b)→a.length≤m
 rowOp:∀ a b,Q 22 (.slice a b)→a.length≤m∧∀ d∈a,Q 31 d
 elOp:∀ l,Q 31 (.agg l)→(∀ d,l[3]?=some d→Q 28 d)
section
variable {H:Type} {enc:TypeId × Value→H} {W:World} {Q:TypeId→DataW H→Prop} {m:Nat}
theorem field_of {fs:Array Field} {l:List (TypeId × Nat)} (h:fs.toList.map (fun f=>(f.type,f.offset))=l) (i:Nat) (t:TypeId) (o:Nat) (hi:l[i]?=some (t,o)):∃ f,fs[i]?=some f∧f.type=t∧f.offset=o:=by
 rw [← h,List.getElem?_map] at hi
 obtain ⟨f,h1,h2⟩:=Option.map_eq_some_iff.1 hi
 injection h2 with h2 h3
 exact ⟨f,by simpa using h1,h2,h3⟩
theorem open_octets (F:Fit H Q m) {fuel:Nat} {cs:List Value} {x:DataW H × List MemPlace} (h:DataW.trod enc Try.prog W 0 (fun _=>true) true fuel 28 cs=some x) (hq:Q 28 x.1) :
 ∃ (sp:Option Addr) (cap:Nat) (bs:List Int),cs=[.slice sp bs.length cap]∧Src W sp bs.length (bl bs)∧bs.length≤cap∧(sp=none→cap=0)∧bs.length≤m∧Byts bs:=by
 rcases open_ints Try.underlying28 Try.underlying5 cellsByte h with ⟨rfl,rfl⟩ | ⟨ad,len,cap,zs,rfl,_,hle,hmax,hall,rfl,hcell,hwf⟩
 · exact ⟨none,0,[],rfl,fun j hj=>absurd hj (xnZ j),xnR _,fun _=>rfl,Nat.zero_le _,fun x hx=>(by cases hx)⟩
 · simp only [if_true] at hall
   have hm:=F.bytes _ _ hq
   simp only [lits,List.length_map,List.length_take] at hm
   have hl:(zs.take len).length=len:=by rw [List.length_take]; omega
   refine ⟨some ad,cap,zs.take len,by rw [hl],fun j hj=>⟨ad,rfl,?_⟩,by rw [hl]; exact hle,fun e=>(by cases e),by rw [hl]; omega,fun y hy=>wf_u8.1 (hwf y (List.mem_of_mem_take hy))⟩
   rw [hl] at hj
   rw [bl_take _ _ _ hj]
   exact hcell j (by omega)
theorem i64_of {n:Int} (h:(Lit.int .i64 n).wf=true):i64 n:=by have:=wf_i64.1 h; unfold i64; omega
theorem fieldsRange:(Try.prog.fieldsOf 49).toList.map (fun f=>(f.type,f.offset))=[(3,0),(3,1)]:=by kernel_rfl
theorem open_range {fuel:Nat} {cs:List Value} {x:DataW H × List MemPlace} (h:DataW.trod enc Try.prog W 0 (fun _=>true) true fuel 49 cs=some x):∃ a b:Int,cs=[.int .i64 a,.int .i64 b]∧i64 a∧i64 b:=by
 obtain ⟨xs,n,_,_,hl,hlen,hf⟩:=DataW.trod_struct (fs:=Try.prog.fieldsOf 49) (by kernel_rfl) h
 have h13:Try.prog.cellsOf 49=2:=by kernel_rfl
 have hc1:Try.prog.cellsOf 3=1:=by kernel_rfl
 have hs:xs.length=2:=by rw [hlen]; kernel_rfl
 rw [h13] at hl
 match cs,hl with
 | [c0,c1],_ =>
   obtain ⟨f0,e0,t0,o0⟩:=field_of fieldsRange 0 3 0 rfl
   obtain ⟨f1,e1,t1,o1⟩:=field_of fieldsRange 1 3 1 rfl
   have g0:=hf 0 f0 e0; have g1:=hf 1 f1 e1
   rw [t0,o0,hc1,List.getElem?_eq_getElem (by omega)] at g0
   rw [t1,o1,hc1,List.getElem?_eq_getElem (by omega)] at g1
   obtain ⟨a,q0,_,w0⟩:=DataW.trod_int Try.underlying3 g0
   obtain ⟨b,q1,_,w1⟩:=DataW.trod_int Try.underlying3 g1
   simp at q0 q1
   exact ⟨a,b,by rw [q0,q1],i64_of w0,i64_of w1⟩
theorem open_rngs {fuel:Nat} {cs:List Value} {x:DataW H × List MemPlace} (h:DataW.trod enc Try.prog W 0 (fun _=>true) true fuel 29 cs=some x) :
 ∃ (sp:Option Addr) (cap:Nat) (l:List (Int × Int)),cs=[.slice sp l.length cap]∧RgW W l (.slice sp l.length cap)∧∀ x∈l,i64 x.1∧i64 x.2:=by
 rcases DataW.trod_slice Try.underlying29 h with ⟨rfl,rfl⟩ | ⟨a,len,cap,elems,rest,n,_,rfl,rfl,hb,hl,hm,hlen,hel,_,_⟩
 · exact ⟨none,0,[],rfl,RgW.nil0 _,fun x hx=>(by cases hx)⟩
 · have hc:Try.prog.cellsOf 49=2:=by kernel_rfl
   have key:∀ k,k≤len→∃ l:List (Int × Int),l.length=k∧(∀ j u,(wrc l)[j]?=some u→W.cell? (a.add j)=some u)∧∀ x∈l,i64 x.1∧i64 x.2:=by
    intro k
    induction k with
    | zero=>exact fun _=>⟨[],rfl,fun j u hj=>(by cases hj),fun x hx=>(by cases hx)⟩
    | succ k ih =>
      intro hk
      obtain ⟨l,h1,h2,h2b⟩:=ih (by omega)
      have h3:=hel k (by omega)
      rw [hc,List.getElem?_eq_getElem (by omega)] at h3
      obtain ⟨cs,h4,h5⟩:=Option.bind_eq_some_iff.1 h3
      obtain ⟨u,v,rfl,hu,hv⟩:=open_range h5
      obtain ⟨_,_,h6⟩:=World.cells?_some h4
      refine ⟨l++[(u,v)],by rw [List.length_append,h1]; rfl,fun j g hj=>?_,fun x hx=>?_⟩
      · rw [nwrc_app] at hj
        by_cases hjk:j<(wrc l).length
        · rw [List.getElem?_append_left hjk] at hj
          exact h2 j g hj
        · rw [List.getElem?_append_right (by omega),wrc_len,h1] at hj
          rw [wrc_len,h1] at hjk
          have h7:j-k*2<2:=by
           rcases Nat.lt_or_ge (j-k*2) 2 with h' | h'
           · exact h'
           · rw [List.getElem?_eq_none (by exact h')] at hj; cases hj
          have h8:=h6 (j-k*2) h7
          rw [Addr.add_add,show k*2+(j-k*2)=j by omega] at h8
          rw [h8]
          exact hj
      · rcases List.mem_append.1 hx with hx | hx
        · exact h2b x hx
        · obtain rfl:=xm1 hx
          exact ⟨hu,hv⟩
   obtain ⟨l,h1,h2,h3⟩:=key len (xnR _)
   exact ⟨some a,cap,l,by rw [h1],⟨some a,cap,rfl,by omega,fun e=>(by cases e),fun j u hu=>⟨a,rfl,h2 j u hu⟩⟩,h3⟩
theorem fieldsOp:(Try.prog.fieldsOf 31).toList.map (fun f=>(f.type,f.offset))=[(3,0),(3,1),(3,2),(28,3),(29,4)]:=by kernel_rfl
theorem open_Op (F:Fit H Q m) {fuel:Nat} {cs:List Value} {x:DataW H × List MemPlace} (h:DataW.trod enc Try.prog W 0 (fun _=>true) true fuel 31 cs=some x) (hq:Q 31 x.1) :
 ∃ (v:Opv) (bp:Option Addr) (bc:Nat) (rp:Option Addr) (rc:Nat),cs=Opc v bp bc rp rc∧OpV W m v bp bc rp rc:=by
 obtain ⟨xs,n,_,hx,hl,hlen,hf⟩:=DataW.trod_struct (fs:=Try.prog.fieldsOf 31) (by kernel_rfl) h
 have hn:Try.prog.cellsOf 31=5:=by kernel_rfl
 have hc0:Try.prog.cellsOf 28=1:=by kernel_rfl
 have hc1:Try.prog.cellsOf 3=1:=by kernel_rfl
 have hc2:Try.prog.cellsOf 29=1:=by kernel_rfl
 have hs:xs.length=5:=by rw [hlen]; kernel_rfl
 rw [hn] at hl
 rw [hx] at hq
 have hq2:=F.elOp _ hq
 match cs,hl with
 | [c0,c1,c2,c3,c4],_ =>
   obtain ⟨f0,e0,t0,o0⟩:=field_of fieldsOp 0 3 0 rfl
   have g0:=hf 0 f0 e0
   rw [t0,o0,hc1,List.getElem?_eq_getElem (by omega)] at g0
   obtain ⟨f1,e1,t1,o1⟩:=field_of fieldsOp 1 3 1 rfl
   have g1:=hf 1 f1 e1
   rw [t1,o1,hc1,List.getElem?_eq_getElem (by omega)] at g1
   obtain ⟨f2,e2,t2,o2⟩:=field_of fieldsOp 2 3 2 rfl
   have g2:=hf 2 f2 e2
   rw [t2,o2,hc1,List.getElem?_eq_getElem (by omega)] at g2
   obtain ⟨f3,e3,t3,o3⟩:=field_of fieldsOp 3 28 3 rfl
   have g3:=hf 3 f3 e3
   rw [t3,o3,hc0,List.getElem?_eq_getElem (by omega)] at g3
   obtain ⟨f4,e4,t4,o4⟩:=field_of fieldsOp 4 29 4 rfl
   have g4:=hf 4 f4 e4
   rw [t4,o4,hc2,List.getElem?_eq_getElem (by omega)] at g4
   obtain ⟨x_k,q0,_,w0⟩:=DataW.trod_int Try.underlying3 g0
   obtain ⟨x_n,q1,_,w1⟩:=DataW.trod_int Try.underlying3 g1
   obtain ⟨x_m,q2,_,w2⟩:=DataW.trod_int Try.underlying3 g2
   obtain ⟨bp,bc,x_b,q3,b31,b32,b33,b34,b35⟩:=open_octets F g3 (hq2 _ (by rw [List.getElem?_map,List.getElem?_eq_getElem (show 3<xs.length by omega)]; rfl))
   obtain ⟨rp,rc,x_r,q4,b41,b42⟩:=open_rngs g4
   simp at q0 q1 q2 q3 q4
   exact ⟨⟨x_k,x_n,x_m,x_b,x_r⟩,bp,bc,rp,rc,by rw [q0,q1,q2,q3,q4]; rfl,⟨i64_of w0,i64_of w1,i64_of w2,b31,b32,b33,b34,b35,b41,b42⟩⟩
theorem open_Ops (F:Fit H Q m) {fuel:Nat} {cs:List Value} {x:DataW H × List MemPlace} (h:DataW.trod enc Try.prog W 0 (fun _=>true) true fuel 22 cs=some x) (hq:Q 22 x.1) :
 ∃ (sp:Option Addr) (cap:Nat) (l:List Opv),cs=[.slice sp l.length cap]∧OpsIn W m sp l∧l.length≤cap∧(sp=none→cap=0)∧l.length≤m:=by
 rcases DataW.trod_slice Try.underlying22 h with ⟨rfl,rfl⟩ | ⟨a,len,cap,elems,rest,n,_,rfl,rfl,hb,hl,hm,hlen,hel,_,_⟩
 · exact ⟨none,0,[],rfl,fun j v hv=>(by simp at hv),xnR _,fun _=>rfl,Nat.zero_le _⟩
 · have hc:Try.prog.cellsOf 31=5:=by kernel_rfl
   have hq2:=F.rowOp _ _ hq
   rw [List.length_map] at hq2
   have key:∀ k,k≤len→∃ l:List Opv,l.length=k∧∀ j v,l[j]?=some v→∃ ad bp bc rp rc,(some a:Option Addr)=some ad∧(∀ k x,(Opc v bp bc rp rc)[k]?=some x→W.cell? ((ad.add (j*5)).add k)=some x)∧OpV W m v bp bc rp rc:=by
    intro k
    induction k with
    | zero=>exact fun _=>⟨[],rfl,fun j f hj=>by simp at hj⟩
    | succ k ih =>
      intro hk
      obtain ⟨l,h1,h2⟩:=ih (by omega)
      have h3:=hel k (by omega)
      rw [hc,List.getElem?_eq_getElem (by omega)] at h3
      obtain ⟨cs,h4,h5⟩:=Option.bind_eq_some_iff.1 h3
      obtain ⟨v,bp,bc,rp,rc,rfl,hv⟩:=open_Op F h5 (hq2.2 _ (List.mem_map_of_mem (List.getElem_mem (by omega))))
      obtain ⟨_,_,h6⟩:=World.cells?_some h4
      refine ⟨l++[v],by rw [List.length_append,h1]; rfl,fun j g hj=>?_⟩
      by_cases hjk:j<l.length
      · rw [List.getElem?_append_left hjk] at hj
        exact h2 j g hj
      · rw [List.getElem?_append_right (by omega)] at hj
        have hj0:j=k:=by
         rcases Nat.lt_or_ge (j-l.length) 1 with h' | h'
         · omega
         · rw [List.getElem?_eq_none (by simpa using h')] at hj; cases hj
        subst hj0
        rw [h1,Nat.sub_self] at hj
        injection hj with hj
        subst hj
        refine ⟨a,bp,bc,rp,rc,rfl,fun i v hiv=>?_,hv⟩
        have hi:i<5:=by
         rcases Nat.lt_or_ge i 5 with h' | h'
         · exact h'
         · rw [List.getElem?_eq_none (by exact h')] at hiv; cases hiv
        rw [h6 i hi]
        exact hiv
   obtain ⟨l,h1,h2⟩:=key len (xnR _)
   exact ⟨some a,cap,l,by rw [h1],h2,by omega,fun e=>(by cases e),by omega⟩
end
def Wok {H:Type} (t:TypeId) (d:DataW H):Prop:=∀ n∈d.weights Try.prog t,n≤reachBytes
theorem weights_all {H:Type} {P:Program} {e:TypeId} {d:DataW H} {n:Nat} (hn:n∈d.weights P e):∀ {l:List (DataW H)},d∈l→n∈DataW.weightsAll P e l
 | x::l,h=>by
   simp only [DataW.weightsAll,List.mem_append]
   rcases xc1 h with rfl | h
   · exact .inl hn
   · exact .inr (weights_all hn h)
theorem fitWok (H:Type):Fit H Wok 140737488351232 where
 ints a b h:=by
  have h1:=h ((a.length+b.length)*Try.prog.bytesOf 3) (by simp only [DataW.weights,Try.underlying47]; exact mS)
  rw [show Try.prog.bytesOf 3=8 by kernel_rfl] at h1
  simp only [reachBytes] at h1
  omega
 bytes a b h:=by
  have h1:=h ((a.length+b.length)*Try.prog.bytesOf 5) (by simp only [DataW.weights,Try.underlying28]; exact mS)
  rw [show Try.prog.bytesOf 5=1 by kernel_rfl] at h1
  simp only [reachBytes] at h1
  omega
 rowOp a b h:=by
  have h1:=h ((a.length+b.length)*Try.prog.bytesOf 31) (by simp only [DataW.weights,Try.underlying22]; exact mS)
  rw [show Try.prog.bytesOf 31=72 by kernel_rfl] at h1
  simp only [reachBytes] at h1
  refine ⟨by omega,fun d hd n hn=>h n ?_⟩
  simp only [DataW.weights,Try.underlying22]
  exact mT _ (List.mem_append_left _ (weights_all hn hd))
 elOp l h:=by
  have hu:Try.prog.underlying 31=some (.struct (Try.prog.fieldsOf 31)):=by kernel_rfl
  have ht:(Try.prog.fieldsOf 31).toList.map (·.type)=[3,3,3,28,29]:=by kernel_rfl
  have e:∀ n∈DataW.weightsEach Try.prog [3,3,3,28,29] l,n≤reachBytes:=fun n hn=>h n (by simp only [DataW.weights,hu,ht]; exact hn)
  exact fun d hd n hn=>e n (DataW.weights_mem_each (j:=3) rfl hd n hn)
section
variable {H:Type} {enc:TypeId × Value→H} {W:World} {Q:TypeId→DataW H→Prop} {m:Nat}
theorem again {t:TypeId} (hr:Try.prog.readableRec t=true) (hrow:t<Try.prog.types.size) {v:Value} {d:DataW H} {p:List MemPlace} (h:DataW.Trod enc Try.prog W 0 (fun _=>true) true t v d p) (W':World) (hb:Below W.heap.size W W'):DataW.Trod enc Try.prog W' 0 (fun b=>decide (b<W.heap.size)) true t v d p :=
 hb.trod laidOut hr hrow h (by obtain ⟨fuel,hf⟩:=h; exact fun x hx=>DataW.trod_lt _ _ _ _ hf x hx)
theorem arg_Ops (F:Fit H Q m) {r:Reach} {b0:Nat} {v:Value} {d:DataW H} {p:List MemPlace} (hv:Value.okWide Try.prog W r b0 22 v) (h:DataW.Trod enc Try.prog W 0 (fun _=>true) true 22 v d p) (hq:Q 22 d) :
 ∃ (sp:Option Addr) (cap:Nat) (l:List Opv),v=.slice sp l.length cap∧OpsIn W m sp l∧l.length≤cap∧(sp=none→cap=0)∧l.length≤m:=by
 obtain ⟨sp,len,cap,rfl⟩:=okWide_slice Try.underlying22 hv
 obtain ⟨fuel,hf⟩:=h
 obtain ⟨sp',cap',l,h1,h2⟩:=open_Ops F hf hq
 simp [Value.cells] at h1
 obtain ⟨rfl,rfl,rfl⟩:=h1
 exact ⟨_,_,l,rfl,h2⟩
end
end
end Go.Proofs.Ytpdpfdelglgfnaa
