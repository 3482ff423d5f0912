/- Texts of Tw Dq Dr De, joined. -/
import Derived.Test.YtcjahbdlaojnoaaP4InboxBounds
set_option maxRecDepth 20000
set_option maxHeartbeats 64000000
namespace Go.Proofs.Ytcjahbdlaojnoaa
open Go.RowKit
theorem vnext_any (R ro:Nat) (sp:Option Addr) (cap:Nat) (L:Rgs17) (hc:Can L) (hln:L.length<1000000) (n:Int) (w:World) (hR:w.cell? ⟨R,ro,none⟩=some (.slice sp L.length cap)) (N:NewW w 0 L (.slice sp L.length cap)) :
 Calls Try.prog 33 #[.pointer (some ⟨R,ro,none⟩),.int .i64 n] w fun e w'=>e=.returned (.int .i64 (rnxt L n))∧Below w.heap.size w w':=by
 have M:=Mm.init w
 go_enter Try.func33,Try.ntmps33
 go_upto_region 0 with fail; refine wp_region_list ?_; refine actL (w':=w.alloc (.cells #[.int .i64 n] 3)) (.pointer (some ⟨w.heap.size,0,none⟩)) rfl (by kernel_rfl) ?_; simp only [aP,lI,l0,lS]
 have hB_B1:w.heap.size≤w.heap.size:=M.below.size
 replace M:=M.box #[.int .i64 n] 3 w.heap.size rfl; generalize w.alloc (.cells #[.int .i64 n] 3)=w1 at M  ⊢; generalize eB:w.heap.size=B1 at M hB_B1  ⊢
 have hE_B1:w.heap.size≤B1:=Nat.le_of_eq eB
 have hF_B1:B1≤w.heap.size:=Nat.le_of_eq eB.symm
 clear eB
 replace M:Mm w ((B1,[.int .i64 n])::([]:List (Nat × List Value))) w1:=M
 refine xpL (.int .i64 0) ?_; refine xT ?_; go_upto_region 1 with fail; refine wp_region_list ?_; refine xaL (.int .i64 n) (load1 3 _ ⟨B1,0,none⟩ _ rfl rfl (fun _=>by kernel_rfl) (M.get mS 0 _ rfl)) ?_; refine xaL (.int .i64 (max n 0)) (maxI .i64 .i64 _ _ _ _ _ _ _ rfl rfl rfl (by split <;> omega) _) ?_
 refine skipOpL rfl (storeAny (.int .i64 (max n 0)) B1 0 3 _ _ rfl rfl rfl rfl rfl (M.isSome mS 0 (by simp)) (M.free mS 0 (by simp)) (by kernel_rfl)) ?_; simp only [Act.put]; replace M:=M.set 0 (by simp) (.int .i64 (max n 0)); generalize w1.setCell ⟨B1,0,none⟩ (.int .i64 (max n 0))=w2 at M  ⊢
 replace M:Mm w ((B1,[.int .i64 (max n 0)])::([]:List (Nat × List Value))) w2:=M
 refine xT ?_; go_upto_region 2 with fail; refine wp_region_list ?_; refine xpL (.pointer (some ⟨R,ro,none⟩)) ?_; refine xpL (.func (.func 42) #[] #[.pointer (some ⟨B1,0,none⟩)]) ?_
 have key:=vfirst_any 42 B1 R ro (fun x=>decide (x.2>max n 0)) sp cap L hln (hc.mono fun x y _ _ _ h=>by simp only [decide_eq_true_eq] at h ⊢; omega) _ ⟨by simp,fun w' l x=>vc_next x B1 _ w' (cellT l (M.get mS 0 _ rfl))⟩ (cellT M.below hR) (NewW.below N M.below); refine xcL key ?_; clear key; rintro e w3 ⟨i,rfl,hA,l⟩; replace M:=M.call l; clear l; refine xeL ?_
 refine xpL (.int .i64 ((i:Nat):Int)) ?_; refine xT ?_
 by_cases hi:i<L.length
 · obtain ⟨p,hp⟩:∃ p,L[i]?=some p:=⟨_,List.getElem?_eq_getElem (by omega)⟩
   obtain ⟨adr,hadr,_,_⟩:=NewW.at N hp
   have NA:=N
   rw [hadr] at NA
   have hRA:=hR
   rw [hadr] at hRA
   clear hadr
   by_cases hle:p.1≤max n 0
   · go_upto_region 3 with fail
     refine wp_region_held_drew (S:=fun w'=>Mm w ((B1,[.int .i64 (max n 0)])::([]:List (Nat × List Value))) w') (by kernel_rfl) M.drew ?_; intro _; replace M:=M.drew; have hdr:=(Below.refl w3.heap.size w3).drew; clear hdr; generalize w3.drew=w5 at M  ⊢; refine xrH 0 11 rfl (.int .i64 ((i:Nat):Int)) (fun _ hS=>(by kernel_rfl)) M ?_
     refine xrH 1 12 rfl (.pointer (some ⟨R,ro,none⟩)) (fun _ hS=>(by kernel_rfl)) M ?_; refine xrH 2 13 rfl (.pointer (some ⟨R,ro,none⟩)) (fun _ hS=>(by kernel_rfl)) M ?_; refine xrH 3 14 rfl (.pointer (some ⟨R,ro,none⟩)) (fun _ hS=>(by kernel_rfl)) M ?_
     refine xrH 4 15 rfl (.slice (some adr) L.length cap) (fun _ hS=>load1 39 _ ⟨R,ro,none⟩ _ rfl rfl (fun _=>by kernel_rfl) (cellT hS.below hRA)) M ?_; refine xrH 5 16 rfl (.int .i64 ((L.length:Nat):Int)) (fun _ hS=>lenS _ 39 44 (some adr) L.length cap rfl Try.underlying39 rfl _) M ?_
     refine xrH 6 17 rfl (.bool true) (fun _ hS=>lssI .i64 _ _ _ _ _ _ rfl rfl rfl true (decide_eq_true (by omega)) _) M ?_; refine xrH 7 18 rfl (.bool true) (fun _ hS=>(by kernel_rfl)) M ?_; refine xrH 8 19 rfl (.pointer (some ⟨R,ro,none⟩)) (fun _ hS=>(by kernel_rfl)) M ?_; refine xrH 9 20 rfl (.pointer (some ⟨R,ro,none⟩)) (fun _ hS=>(by kernel_rfl)) M ?_
     refine xrH 10 21 rfl (.pointer (some ⟨R,ro,none⟩)) (fun _ hS=>(by kernel_rfl)) M ?_; refine xrH 11 22 rfl (.slice (some adr) L.length cap) (fun _ hS=>load1 39 _ ⟨R,ro,none⟩ _ rfl rfl (fun _=>by kernel_rfl) (cellT hS.below hRA)) M ?_; refine xrH 12 23 rfl (.int .i64 ((i:Nat):Int)) (fun _ hS=>(by kernel_rfl)) M ?_
     refine xrH 13 24 rfl (.pointer (some (adr.add (i*2)))) (fun _ hS=>idxR2 adr _ _ i hi _ _ rfl rfl rfl _) M ?_; refine xrH 14 25 rfl (.pointer (some ((adr.add (i*2)).add 0))) (fun _ hS=>(by kernel_rfl)) M ?_; refine xrH 15 26 rfl (.int .i64 p.1) (fun _ hS=>load1 3 _ ((adr.add (i*2)).add 0) _ rfl rfl (fun _=>by kernel_rfl) (NewW.rng (NewW.below NA hS.below) hp 0 _ rfl)) M ?_
     refine xrH 16 27 rfl (.int .i64 (max n 0)) (fun _ hS=>load1 3 _ ⟨B1,0,none⟩ _ rfl rfl (fun _=>by kernel_rfl) (hS.get mS 0 _ rfl)) M ?_; refine xrH 17 28 rfl (.bool true) (fun _ hS=>leqI .i64 _ _ _ _ _ _ rfl rfl rfl true (decide_eq_true (by omega)) _) M ?_; refine xrH 18 29 rfl (.bool true) (fun _ hS=>(by kernel_rfl)) M ?_
     refine wpAnyH_done (by kernel_rfl) ?_ _
     first | show Exit.then _ _ _ _ _ | show Exit.inBlock _ _ _ _ _
     go_upto_region 4 with fail; refine wp_region_list ?_; refine xpL (.pointer (some ⟨R,ro,none⟩)) ?_; refine xpL (.pointer (some ⟨R,ro,none⟩)) ?_; refine xpL (.pointer (some ⟨R,ro,none⟩)) ?_; refine xaL (.slice (some adr) L.length cap) (load1 39 _ ⟨R,ro,none⟩ _ rfl rfl (fun _=>by kernel_rfl) (cellT M.below hRA)) ?_; refine xpL (.int .i64 ((i:Nat):Int)) ?_
     refine readL (.pointer (some (adr.add (i*2)))) rfl (idxR2 adr _ _ i hi _ _ rfl rfl rfl _) ?_; simp only [aP,lI,l0,lS]; refine xpL (.pointer (some ((adr.add (i*2)).add 1))) ?_; refine xaL (.int .i64 p.2) (load1 3 _ ((adr.add (i*2)).add 1) _ rfl rfl (fun _=>by kernel_rfl) (NewW.rng (NewW.below NA M.below) hp 1 _ rfl)) ?_; refine xpL (.int .i64 p.2) ?_; refine xT ?_
     have hE:=show Hid _ from (show rnxt L n=_ from nx_hit hA hp (by omega)); have hbel:=M.below; clear M hA; go_wp2; go_ret
     exact ⟨by rw [hE.out]; try rfl,hbel⟩
   · go_upto_region 3 with fail
     refine wp_region_held_drew (S:=fun w'=>Mm w ((B1,[.int .i64 (max n 0)])::([]:List (Nat × List Value))) w') (by kernel_rfl) M.drew ?_; intro _; replace M:=M.drew; have hdr:=(Below.refl w3.heap.size w3).drew; clear hdr; generalize w3.drew=w6 at M  ⊢; refine xrH 0 11 rfl (.int .i64 ((i:Nat):Int)) (fun _ hS=>(by kernel_rfl)) M ?_
     refine xrH 1 12 rfl (.pointer (some ⟨R,ro,none⟩)) (fun _ hS=>(by kernel_rfl)) M ?_; refine xrH 2 13 rfl (.pointer (some ⟨R,ro,none⟩)) (fun _ hS=>(by kernel_rfl)) M ?_; refine xrH 3 14 rfl (.pointer (some ⟨R,ro,none⟩)) (fun _ hS=>(by kernel_rfl)) M ?_
     refine xrH 4 15 rfl (.slice (some adr) L.length cap) (fun _ hS=>load1 39 _ ⟨R,ro,none⟩ _ rfl rfl (fun _=>by kernel_rfl) (cellT hS.below hRA)) M ?_; refine xrH 5 16 rfl (.int .i64 ((L.length:Nat):Int)) (fun _ hS=>lenS _ 39 44 (some adr) L.length cap rfl Try.underlying39 rfl _) M ?_
     refine xrH 6 17 rfl (.bool true) (fun _ hS=>lssI .i64 _ _ _ _ _ _ rfl rfl rfl true (decide_eq_true (by omega)) _) M ?_; refine xrH 7 18 rfl (.bool true) (fun _ hS=>(by kernel_rfl)) M ?_; refine xrH 8 19 rfl (.pointer (some ⟨R,ro,none⟩)) (fun _ hS=>(by kernel_rfl)) M ?_; refine xrH 9 20 rfl (.pointer (some ⟨R,ro,none⟩)) (fun _ hS=>(by kernel_rfl)) M ?_
     refine xrH 10 21 rfl (.pointer (some ⟨R,ro,none⟩)) (fun _ hS=>(by kernel_rfl)) M ?_; refine xrH 11 22 rfl (.slice (some adr) L.length cap) (fun _ hS=>load1 39 _ ⟨R,ro,none⟩ _ rfl rfl (fun _=>by kernel_rfl) (cellT hS.below hRA)) M ?_; refine xrH 12 23 rfl (.int .i64 ((i:Nat):Int)) (fun _ hS=>(by kernel_rfl)) M ?_
     refine xrH 13 24 rfl (.pointer (some (adr.add (i*2)))) (fun _ hS=>idxR2 adr _ _ i hi _ _ rfl rfl rfl _) M ?_; refine xrH 14 25 rfl (.pointer (some ((adr.add (i*2)).add 0))) (fun _ hS=>(by kernel_rfl)) M ?_; refine xrH 15 26 rfl (.int .i64 p.1) (fun _ hS=>load1 3 _ ((adr.add (i*2)).add 0) _ rfl rfl (fun _=>by kernel_rfl) (NewW.rng (NewW.below NA hS.below) hp 0 _ rfl)) M ?_
     refine xrH 16 27 rfl (.int .i64 (max n 0)) (fun _ hS=>load1 3 _ ⟨B1,0,none⟩ _ rfl rfl (fun _=>by kernel_rfl) (hS.get mS 0 _ rfl)) M ?_; refine xrH 17 28 rfl (.bool false) (fun _ hS=>leqI .i64 _ _ _ _ _ _ rfl rfl rfl false (decide_eq_false (by omega)) _) M ?_; refine xrH 18 29 rfl (.bool false) (fun _ hS=>(by kernel_rfl)) M ?_
     refine wpAnyH_done (by kernel_rfl) ?_ _
     first | show Exit.then _ _ _ _ _ | show Exit.inBlock _ _ _ _ _
     go_upto_region 5 with fail; refine wp_region_list ?_; refine xaL (.int .i64 (max n 0)) (load1 3 _ ⟨B1,0,none⟩ _ rfl rfl (fun _=>by kernel_rfl) (M.get mS 0 _ rfl)) ?_; refine xpL (.int .i64 (max n 0)) ?_; refine xT ?_; have hE:=show Hid _ from (show rnxt L n=_ from nx_miss hc hA hp (by omega)); have hbel:=M.below; clear M hA; go_wp2; go_ret
     exact ⟨by rw [hE.out]; try rfl,hbel⟩
 · go_upto_region 3 with fail
   refine wp_region_held_drew (S:=fun w'=>Mm w ((B1,[.int .i64 (max n 0)])::([]:List (Nat × List Value))) w') (by kernel_rfl) M.drew ?_; intro _; replace M:=M.drew; have hdr:=(Below.refl w3.heap.size w3).drew; clear hdr; generalize w3.drew=w4 at M  ⊢; refine xrH 0 11 rfl (.int .i64 ((i:Nat):Int)) (fun _ hS=>(by kernel_rfl)) M ?_
   refine xrH 1 12 rfl (.pointer (some ⟨R,ro,none⟩)) (fun _ hS=>(by kernel_rfl)) M ?_; refine xrH 2 13 rfl (.pointer (some ⟨R,ro,none⟩)) (fun _ hS=>(by kernel_rfl)) M ?_; refine xrH 3 14 rfl (.pointer (some ⟨R,ro,none⟩)) (fun _ hS=>(by kernel_rfl)) M ?_
   refine xrH 4 15 rfl (.slice sp L.length cap) (fun _ hS=>load1 39 _ ⟨R,ro,none⟩ _ rfl rfl (fun _=>by kernel_rfl) (cellT hS.below hR)) M ?_; refine xrH 5 16 rfl (.int .i64 ((L.length:Nat):Int)) (fun _ hS=>lenS _ 39 44 sp L.length cap rfl Try.underlying39 rfl _) M ?_
   refine xrH 6 17 rfl (.bool false) (fun _ hS=>lssI .i64 _ _ _ _ _ _ rfl rfl rfl false (decide_eq_false (by omega)) _) M ?_; refine xrH 7 18 rfl (.bool false) (fun _ hS=>(by kernel_rfl)) M ?_; refine mayH (i:=8) (some 19) rfl false undef undef rfl rfl rfl (fun hc=>by cases hc) (by kernel_rfl) (by kernel_rfl) (by kernel_rfl) (fun _ _ _ h=>h) M ?_; simp only [aP,lI,l0,lS]
   refine mayH (i:=9) (some 20) rfl false undef undef rfl rfl rfl (fun hc=>by cases hc) (by kernel_rfl) (by kernel_rfl) (by kernel_rfl) (fun _ _ _ h=>h) M ?_; simp only [aP,lI,l0,lS]; refine mayH (i:=10) (some 21) rfl false undef undef rfl rfl rfl (fun hc=>by cases hc) (by kernel_rfl) (by kernel_rfl) (by kernel_rfl) (fun _ _ _ h=>h) M ?_; simp only [aP,lI,l0,lS]
   refine mayH (i:=11) (some 22) rfl false undef undef rfl rfl rfl (fun hc=>by cases hc) (by kernel_rfl) (by kernel_rfl) (by kernel_rfl) (fun _ _ _ h=>h) M ?_; simp only [aP,lI,l0,lS]; refine mayH (i:=12) (some 23) rfl false undef undef rfl rfl rfl (fun hc=>by cases hc) (by kernel_rfl) (by kernel_rfl) (by kernel_rfl) (fun _ _ _ h=>h) M ?_; simp only [aP,lI,l0,lS]
   refine mayH (i:=13) (some 24) rfl false undef undef rfl rfl rfl (fun hc=>by cases hc) (by kernel_rfl) (by kernel_rfl) (by kernel_rfl) (fun _ _ _ h=>h) M ?_; simp only [aP,lI,l0,lS]; refine mayH (i:=14) (some 25) rfl false undef undef rfl rfl rfl (fun hc=>by cases hc) (by kernel_rfl) (by kernel_rfl) (by kernel_rfl) (fun _ _ _ h=>h) M ?_; simp only [aP,lI,l0,lS]
   refine mayH (i:=15) (some 26) rfl false undef undef rfl rfl rfl (fun hc=>by cases hc) (by kernel_rfl) (by kernel_rfl) (by kernel_rfl) (fun _ _ _ h=>h) M ?_; simp only [aP,lI,l0,lS]; refine mayH (i:=16) (some 27) rfl false undef undef rfl rfl rfl (fun hc=>by cases hc) (by kernel_rfl) (by kernel_rfl) (by kernel_rfl) (fun _ _ _ h=>h) M ?_; simp only [aP,lI,l0,lS]
   refine mayH (i:=17) (some 28) rfl false undef undef rfl rfl rfl (fun hc=>by cases hc) (by kernel_rfl) (by kernel_rfl) (by kernel_rfl) (fun _ _ _ h=>h) M ?_; simp only [aP,lI,l0,lS]; refine xrH 18 29 rfl (.bool false) (fun _ hS=>(by kernel_rfl)) M ?_
   refine wpAnyH_done (by kernel_rfl) ?_ _
   first | show Exit.then _ _ _ _ _ | show Exit.inBlock _ _ _ _ _
   go_upto_region 5 with fail; refine wp_region_list ?_; refine xaL (.int .i64 (max n 0)) (load1 3 _ ⟨B1,0,none⟩ _ rfl rfl (fun _=>by kernel_rfl) (M.get mS 0 _ rfl)) ?_; refine xpL (.int .i64 (max n 0)) ?_; refine xT ?_; have hE:=show Hid _ from (show rnxt L n=_ from nx_end hA (by omega)); have hbel:=M.below; clear M hA; go_wp2; go_ret
   exact ⟨by rw [hE.out]; try rfl,hbel⟩
theorem vgap_any (R ro:Nat) (sp:Option Addr) (cap:Nat) (L:Rgs17) (hc:Can L) (hln:L.length<1000000) (f t:Int) (w:World) (hR:w.cell? ⟨R,ro,none⟩=some (.slice sp L.length cap)) (N:NewW w 0 L (.slice sp L.length cap)) :
 Calls Try.prog 22 #[.pointer (some ⟨R,ro,none⟩),.int .i64 f,.int .i64 t] w fun e w'=>e=.returned (.tuple #[.agg #[.int .i64 (rgF L f t),.int .i64 (rgT L f t)],.bool (rgB L f t)])∧Below w.heap.size w w':=by
 have M:=Mm.init w
 go_enter Try.func22,Try.ntmps22
 go_upto_region 0 with fail; refine wp_region_list ?_; refine actL (w':=w.alloc (.cells #[.int .i64 0,.int .i64 0] 44)) (.pointer (some ⟨w.heap.size,0,none⟩)) rfl (by kernel_rfl) ?_; simp only [aP,lI,l0,lS]
 have hB_B1:w.heap.size≤w.heap.size:=M.below.size
 replace M:=M.box #[.int .i64 0,.int .i64 0] 44 w.heap.size rfl; generalize w.alloc (.cells #[.int .i64 0,.int .i64 0] 44)=w1 at M  ⊢; generalize eB:w.heap.size=B1 at M hB_B1  ⊢
 have hE_B1:w.heap.size≤B1:=Nat.le_of_eq eB
 have hF_B1:B1≤w.heap.size:=Nat.le_of_eq eB.symm
 clear eB
 replace M:Mm w ((B1,[.int .i64 0,.int .i64 0])::([]:List (Nat × List Value))) w1:=M
 refine xpL (.bool false) ?_; refine xT ?_; go_upto_region 1 with fail; refine wp_region_list ?_; refine xpL (.int .i64 f) ?_; refine xpL (.int .i64 t) ?_; have key:=vwith_any f t w1; refine xcL key ?_; clear key; rintro e w2 ⟨rfl,l⟩; replace M:=M.call l; clear l; refine xeL ?_
 refine actL (w':=w2.alloc (.cells #[.int .i64 0,.int .i64 0] 44)) (.pointer (some ⟨w2.heap.size,0,none⟩)) rfl (by kernel_rfl) ?_; simp only [aP,lI,l0,lS]
 have hB_B3:w.heap.size≤w2.heap.size:=M.below.size
 replace M:=M.box #[.int .i64 0,.int .i64 0] 44 w2.heap.size rfl; generalize w2.alloc (.cells #[.int .i64 0,.int .i64 0] 44)=w3 at M  ⊢; generalize eB:w2.heap.size=B3 at M hB_B3  ⊢
 have hE_B3:w2.heap.size≤B3:=Nat.le_of_eq eB
 have hF_B3:B3≤w2.heap.size:=Nat.le_of_eq eB.symm
 clear eB
 replace M:Mm w ((B3,[.int .i64 0,.int .i64 0])::(B1,[.int .i64 0,.int .i64 0])::([]:List (Nat × List Value))) w3:=M
 refine skipOpL rfl (storeP [.int .i64 (rlo f),.int .i64 (rhi t)] B3 0 44 _ _ rfl rfl rfl (M.thereP mS 0 2 (Nat.le_of_ble_eq_true rfl)) (by kernel_rfl) (List.all_eq_true.1 (rfl:([.int .i64 (rlo f),.int .i64 (rhi t)]:List Value).all (fun u=>u.oneCell')=true))) ?_; simp only [Act.put]; replace M:=M.setPart [.int .i64 (rlo f),.int .i64 (rhi t)] 0 (Nat.le_of_ble_eq_true rfl)
 generalize w3.setCells B3 0 [.int .i64 (rlo f),.int .i64 (rhi t)]=w4 at M  ⊢
 replace M:Mm w ((B3,[.int .i64 (rlo f),.int .i64 (rhi t)])::(B1,[.int .i64 0,.int .i64 0])::([]:List (Nat × List Value))) w4:=M
 refine xT ?_; go_upto_region 2 with fail; refine wp_region_list ?_; refine xpL (.pointer (some ⟨R,ro,none⟩)) ?_; refine xpL (.pointer (some ⟨B3,0,none⟩)) ?_; refine xaL (.int .i64 (rlo f)) (load1 3 _ ⟨B3,0,none⟩ _ rfl rfl (fun _=>by kernel_rfl) (M.get mS 0 _ rfl)) ?_; have key:=vnext_any R ro sp cap L hc hln (rlo f) _ (cellT M.below hR) (NewW.below N M.below)
 rw [rnxt_lo] at key
 refine xcL key ?_; clear key; rintro e w5 ⟨rfl,l⟩; replace M:=M.call l; clear l; refine xeL ?_; refine xpL (.pointer (some ⟨B3,0,none⟩)) ?_; refine skipOpL rfl (storeAny (.int .i64 (rnx L (rlo f))) B3 0 3 _ _ rfl rfl rfl rfl rfl (M.isSome mS 0 (by simp)) (M.free mS 0 (by simp)) (by kernel_rfl)) ?_; simp only [Act.put]; replace M:=M.set 0 (by simp) (.int .i64 (rnx L (rlo f)))
 generalize w5.setCell ⟨B3,0,none⟩ (.int .i64 (rnx L (rlo f)))=w6 at M  ⊢
 replace M:Mm w ((B3,[.int .i64 (rnx L (rlo f)),.int .i64 (rhi t)])::(B1,[.int .i64 0,.int .i64 0])::([]:List (Nat × List Value))) w6:=M
 refine xT ?_
 by_cases hge:rhi t≤rnx L (rlo f)
 · go_upto_region 3 with fail
   refine wp_region_list ?_; refine xaL (.agg #[.int .i64 (rnx L (rlo f)),.int .i64 (rhi t)]) (loadN 44 _ ⟨B3,0,none⟩ [.int .i64 (rnx L (rlo f)),.int .i64 (rhi t)] rfl rfl (fun _=>by kernel_rfl) (fun _=>by kernel_rfl) (M.rangeAt mS)) ?_; have key:=vempty_any (rnx L (rlo f)) (rhi t) w6
   rw [show decide (rnx L (rlo f)≥rhi t)=true from decide_eq_true (by omega)] at key
   refine xcL key ?_; clear key; rintro e w7 ⟨rfl,l_⟩; replace M:=M.call l_; clear l_; refine xeL ?_; refine xT ?_; go_upto_region 4 with fail; refine wp_region_list ?_; refine xpL (.agg #[.int .i64 0,.int .i64 0]) ?_; replace M:=M.swap
   refine skipOpL rfl (storeP [.int .i64 0,.int .i64 0] B1 0 44 _ _ rfl rfl rfl (M.thereP mS 0 2 (Nat.le_of_ble_eq_true rfl)) (by kernel_rfl) (List.all_eq_true.1 (rfl:([.int .i64 0,.int .i64 0]:List Value).all (fun u=>u.oneCell')=true))) ?_; simp only [Act.put]; replace M:=M.setPart [.int .i64 0,.int .i64 0] 0 (Nat.le_of_ble_eq_true rfl)
   generalize w7.setCells B1 0 [.int .i64 0,.int .i64 0]=w8 at M  ⊢
   replace M:Mm w ((B1,[.int .i64 0,.int .i64 0])::(B3,[.int .i64 (rnx L (rlo f)),.int .i64 (rhi t)])::([]:List (Nat × List Value))) w8:=M
   refine xpL (.bool false) ?_; refine xT ?_; have hbel:=M.below; have hcs:=M.rangeAt mS; clear M; go_wp2
   obtain ⟨e1,e2,e3⟩:=rg_nil hge
   exact bodyPost_ret (v:=.tuple #[.agg #[.int .i64 0,.int .i64 0],.bool false]) (results_row_tmp (cs:=[.int .i64 0,.int .i64 0]) Try.results22 rfl rfl (rangeT hcs) Try.underlying44 rfl (by kernel_rfl)) rfl ⟨by rw [e1,e2,e3],hbel⟩
 · go_upto_region 3 with fail
   refine wp_region_list ?_; refine xaL (.agg #[.int .i64 (rnx L (rlo f)),.int .i64 (rhi t)]) (loadN 44 _ ⟨B3,0,none⟩ [.int .i64 (rnx L (rlo f)),.int .i64 (rhi t)] rfl rfl (fun _=>by kernel_rfl) (fun _=>by kernel_rfl) (M.rangeAt mS)) ?_; have key:=vempty_any (rnx L (rlo f)) (rhi t) w6
   rw [show decide (rnx L (rlo f)≥rhi t)=false from decide_eq_false (by omega)] at key
   refine xcL key ?_; clear key; rintro e w9 ⟨rfl,l_⟩; replace M:=M.call l_; clear l_; refine xeL ?_; refine xT ?_; go_upto_region 5 with fail; refine wp_region_list ?_; refine xpL (.pointer (some ⟨R,ro,none⟩)) ?_; refine xpL (.func (.func 37) #[] #[.pointer (some ⟨B3,0,none⟩)]) ?_
   have key:=vfirst_any 37 B3 R ro (fun x=>decide (x.1>rnx L (rlo f))) sp cap L hln (hc.mono fun x y _ _ _ h=>by simp only [decide_eq_true_eq] at h ⊢; omega) _ ⟨by simp,fun w' l x=>vc_gap x B3 _ w' (cellT l (M.get mS 0 _ rfl))⟩ (cellT M.below hR) (NewW.below N M.below); refine xcL key ?_; clear key; rintro e w10 ⟨i,rfl,hA,l⟩; replace M:=M.call l; clear l; refine xeL ?_
   refine xpL (.int .i64 ((i:Nat):Int)) ?_; refine xT ?_
   by_cases hi:i<L.length
   · obtain ⟨p,hp⟩:∃ p,L[i]?=some p:=⟨_,List.getElem?_eq_getElem (by omega)⟩
     obtain ⟨adr,hadr,_,_⟩:=NewW.at N hp
     have NA:=N
     rw [hadr] at NA
     have hRA:=hR
     rw [hadr] at hRA
     clear hadr; go_upto_region 6 with fail; refine wp_region_list ?_; refine xpL (.int .i64 ((i:Nat):Int)) ?_; refine xpL (.pointer (some ⟨R,ro,none⟩)) ?_; refine xpL (.pointer (some ⟨R,ro,none⟩)) ?_; refine xpL (.pointer (some ⟨R,ro,none⟩)) ?_; refine xaL (.slice sp L.length cap) (load1 39 _ ⟨R,ro,none⟩ _ rfl rfl (fun _=>by kernel_rfl) (cellT M.below hR)) ?_
     refine xaL (.int .i64 ((L.length:Nat):Int)) (lenS _ 39 44 sp L.length cap rfl Try.underlying39 rfl _) ?_; refine xaL (.bool true) (lssI .i64 _ _ _ _ _ _ rfl rfl rfl true (decide_eq_true (by omega)) _) ?_; refine xT ?_; go_upto_region 7 with fail; replace M:=M.drew
     refine wp_region_C (S:=fun w'=>Mm w ((B3,[.int .i64 (rnx L (rlo f)),.int .i64 (rhi t)])::(B1,[.int .i64 0,.int .i64 0])::([]:List (Nat × List Value))) w') 12 (by kernel_rfl) M ?_; intro _; generalize w10.drew=w11 at M ⊢
     refine readC (i:=0) (some 31) rfl (.pointer (some ⟨B3,1,none⟩)) rfl rfl (by kernel_rfl) rfl (fun _ hS=>(by kernel_rfl)) (by kernel_rfl) (by kernel_rfl) (by kernel_rfl) (by kernel_rfl) (fun _ _ _ h=>h) M ?_; simp only [aP,lI,l0,lS]
     refine readC (i:=1) (some 32) rfl (.int .i64 (rhi t)) rfl rfl (by kernel_rfl) rfl (fun _ hS=>load1 3 _ ⟨B3,1,none⟩ _ rfl rfl (fun _=>by kernel_rfl) (hS.get mS 1 _ rfl)) (by kernel_rfl) (by kernel_rfl) (by kernel_rfl) (by kernel_rfl) (fun _ _ _ h=>h) M ?_; simp only [aP,lI,l0,lS]
     refine readC (i:=2) (some 33) rfl (.pointer (some ⟨R,ro,none⟩)) rfl rfl (by kernel_rfl) rfl (fun _ hS=>(by kernel_rfl)) (by kernel_rfl) (by kernel_rfl) (by kernel_rfl) (by kernel_rfl) (fun _ _ _ h=>h) M ?_; simp only [aP,lI,l0,lS]
     refine readC (i:=3) (some 34) rfl (.pointer (some ⟨R,ro,none⟩)) rfl rfl (by kernel_rfl) rfl (fun _ hS=>(by kernel_rfl)) (by kernel_rfl) (by kernel_rfl) (by kernel_rfl) (by kernel_rfl) (fun _ _ _ h=>h) M ?_; simp only [aP,lI,l0,lS]
     refine readC (i:=4) (some 35) rfl (.pointer (some ⟨R,ro,none⟩)) rfl rfl (by kernel_rfl) rfl (fun _ hS=>(by kernel_rfl)) (by kernel_rfl) (by kernel_rfl) (by kernel_rfl) (by kernel_rfl) (fun _ _ _ h=>h) M ?_; simp only [aP,lI,l0,lS]
     refine readC (i:=5) (some 36) rfl (.slice (some adr) L.length cap) rfl rfl (by kernel_rfl) rfl (fun _ hS=>load1 39 _ ⟨R,ro,none⟩ _ rfl rfl (fun _=>by kernel_rfl) (cellT hS.below hRA)) (by kernel_rfl) (by kernel_rfl) (by kernel_rfl) (by kernel_rfl) (fun _ _ _ h=>h) M ?_; simp only [aP,lI,l0,lS]
     refine readC (i:=6) (some 37) rfl (.int .i64 ((i:Nat):Int)) rfl rfl (by kernel_rfl) rfl (fun _ hS=>(by kernel_rfl)) (by kernel_rfl) (by kernel_rfl) (by kernel_rfl) (by kernel_rfl) (fun _ _ _ h=>h) M ?_; simp only [aP,lI,l0,lS]
     refine readC (i:=7) (some 38) rfl (.pointer (some (adr.add (i*2)))) rfl rfl (by kernel_rfl) rfl (fun _ hS=>idxR2 adr _ _ i hi _ _ rfl rfl rfl _) (by kernel_rfl) (by kernel_rfl) (by kernel_rfl) (by kernel_rfl) (fun _ _ _ h=>h) M ?_; simp only [aP,lI,l0,lS]
     refine readC (i:=8) (some 39) rfl (.pointer (some ((adr.add (i*2)).add 0))) rfl rfl (by kernel_rfl) rfl (fun _ hS=>(by kernel_rfl)) (by kernel_rfl) (by kernel_rfl) (by kernel_rfl) (by kernel_rfl) (fun _ _ _ h=>h) M ?_; simp only [aP,lI,l0,lS]
     refine readC (i:=9) (some 40) rfl (.int .i64 p.1) rfl rfl (by kernel_rfl) rfl (fun _ hS=>load1 3 _ ((adr.add (i*2)).add 0) _ rfl rfl (fun _=>by kernel_rfl) (NewW.rng (NewW.below NA hS.below) hp 0 _ rfl)) (by kernel_rfl) (by kernel_rfl) (by kernel_rfl) (by kernel_rfl) (fun _ _ _ h=>h) M ?_; simp only [aP,lI,l0,lS]
     refine readC (i:=10) (some 41) rfl (.int .i64 (min (rhi t) p.1)) rfl rfl (by kernel_rfl) rfl (fun _ hS=>minI .i64 .i64 _ _ _ _ _ _ _ rfl rfl rfl (by split <;> omega) _) (by kernel_rfl) (by kernel_rfl) (by kernel_rfl) (by kernel_rfl) (fun _ _ _ h=>h) M ?_; simp only [aP,lI,l0,lS]
     refine readC (i:=11) (some 42) rfl (.pointer (some ⟨B3,1,none⟩)) rfl rfl (by kernel_rfl) rfl (fun _ hS=>(by kernel_rfl)) (by kernel_rfl) (by kernel_rfl) (by kernel_rfl) (by kernel_rfl) (fun _ _ _ h=>h) M ?_; simp only [aP,lI,l0,lS]
     refine skipC (S2:=fun _=>True) none rfl (by kernel_rfl) rfl rfl (storeAny (.int .i64 (min (rhi t) p.1)) B3 1 3 _ _ rfl rfl rfl rfl rfl (M.isSome mS 1 (by simp)) (M.free mS 1 (by simp)) (by kernel_rfl)) (by kernel_rfl) ?_; simp only [Act.put]; replace M:=M.set 1 (by simp) (.int .i64 (min (rhi t) p.1)); generalize w11.setCell ⟨B3,1,none⟩ (.int .i64 (min (rhi t) p.1))=w12 at M ⊢
     replace M:Mm w ((B3,[.int .i64 (rnx L (rlo f)),.int .i64 (min (rhi t) p.1)])::(B1,[.int .i64 0,.int .i64 0])::([]:List (Nat × List Value))) w12:=M
     refine wpAnyH_done (by kernel_rfl) ?_ _
     first | show Exit.then _ _ _ _ _ | show Exit.inBlock _ _ _ _ _
     go_upto_region 8 with fail; refine wp_region_list ?_; refine xaL (.agg #[.int .i64 (rnx L (rlo f)),.int .i64 (min (rhi t) p.1)]) (loadN 44 _ ⟨B3,0,none⟩ [.int .i64 (rnx L (rlo f)),.int .i64 (min (rhi t) p.1)] rfl rfl (fun _=>by kernel_rfl) (fun _=>by kernel_rfl) (M.rangeAt mS)) ?_; replace M:=M.swap
     refine skipOpL rfl (storeP [.int .i64 (rnx L (rlo f)),.int .i64 (min (rhi t) p.1)] B1 0 44 _ _ rfl rfl rfl (M.thereP mS 0 2 (Nat.le_of_ble_eq_true rfl)) (by kernel_rfl) (List.all_eq_true.1 (rfl:([.int .i64 (rnx L (rlo f)),.int .i64 (min (rhi t) p.1)]:List Value).all (fun u=>u.oneCell')=true))) ?_; simp only [Act.put]
     replace M:=M.setPart [.int .i64 (rnx L (rlo f)),.int .i64 (min (rhi t) p.1)] 0 (Nat.le_of_ble_eq_true rfl); generalize w12.setCells B1 0 [.int .i64 (rnx L (rlo f)),.int .i64 (min (rhi t) p.1)]=w13 at M  ⊢
     replace M:Mm w ((B1,[.int .i64 (rnx L (rlo f)),.int .i64 (min (rhi t) p.1)])::(B3,[.int .i64 (rnx L (rlo f)),.int .i64 (min (rhi t) p.1)])::([]:List (Nat × List Value))) w13:=M
     refine xpL (.bool true) ?_; refine xT ?_; have hE:=show Hid _ from (show rbg L (rnx L (rlo f)) (rhi t)=min (rhi t) p.1 from bg_row hc hA hp); have hbel:=M.below; have hcs:=M.rangeAt mS; clear M; go_wp2
     obtain ⟨e1,e2,e3⟩:=rg_is (L:=L) (f:=f) (t:=t) (by omega)
     exact bodyPost_ret (v:=.tuple #[.agg #[.int .i64 (rnx L (rlo f)),.int .i64 (min (rhi t) p.1)],.bool true]) (results_row_tmp (cs:=[.int .i64 (rnx L (rlo f)),.int .i64 (min (rhi t) p.1)]) Try.results22 rfl rfl (rangeT hcs) Try.underlying44 rfl (by kernel_rfl)) rfl ⟨by rw [e1,e2,e3,hE.out],hbel⟩
   · go_upto_region 6 with fail
     refine wp_region_list ?_; refine xpL (.int .i64 ((i:Nat):Int)) ?_; refine xpL (.pointer (some ⟨R,ro,none⟩)) ?_; refine xpL (.pointer (some ⟨R,ro,none⟩)) ?_; refine xpL (.pointer (some ⟨R,ro,none⟩)) ?_; refine xaL (.slice sp L.length cap) (load1 39 _ ⟨R,ro,none⟩ _ rfl rfl (fun _=>by kernel_rfl) (cellT M.below hR)) ?_
     refine xaL (.int .i64 ((L.length:Nat):Int)) (lenS _ 39 44 sp L.length cap rfl Try.underlying39 rfl _) ?_; refine xaL (.bool false) (lssI .i64 _ _ _ _ _ _ rfl rfl rfl false (decide_eq_false (by omega)) _) ?_; refine xT ?_; go_upto_region 8 with fail; refine wp_region_list ?_
     refine xaL (.agg #[.int .i64 (rnx L (rlo f)),.int .i64 (rhi t)]) (loadN 44 _ ⟨B3,0,none⟩ [.int .i64 (rnx L (rlo f)),.int .i64 (rhi t)] rfl rfl (fun _=>by kernel_rfl) (fun _=>by kernel_rfl) (M.rangeAt mS)) ?_; replace M:=M.swap
     refine skipOpL rfl (storeP [.int .i64 (rnx L (rlo f)),.int .i64 (rhi t)] B1 0 44 _ _ rfl rfl rfl (M.thereP mS 0 2 (Nat.le_of_ble_eq_true rfl)) (by kernel_rfl) (List.all_eq_true.1 (rfl:([.int .i64 (rnx L (rlo f)),.int .i64 (rhi t)]:List Value).all (fun u=>u.oneCell')=true))) ?_; simp only [Act.put]
     replace M:=M.setPart [.int .i64 (rnx L (rlo f)),.int .i64 (rhi t)] 0 (Nat.le_of_ble_eq_true rfl); generalize w10.setCells B1 0 [.int .i64 (rnx L (rlo f)),.int .i64 (rhi t)]=w14 at M  ⊢
     replace M:Mm w ((B1,[.int .i64 (rnx L (rlo f)),.int .i64 (rhi t)])::(B3,[.int .i64 (rnx L (rlo f)),.int .i64 (rhi t)])::([]:List (Nat × List Value))) w14:=M
     refine xpL (.bool true) ?_; refine xT ?_; have hE:=show Hid _ from (show rbg L (rnx L (rlo f)) (rhi t)=rhi t from bg_end hA (by omega)); have hbel:=M.below; have hcs:=M.rangeAt mS; clear M; go_wp2
     obtain ⟨e1,e2,e3⟩:=rg_is (L:=L) (f:=f) (t:=t) (by omega)
     exact bodyPost_ret (v:=.tuple #[.agg #[.int .i64 (rnx L (rlo f)),.int .i64 (rhi t)],.bool true]) (results_row_tmp (cs:=[.int .i64 (rnx L (rlo f)),.int .i64 (rhi t)]) Try.results22 rfl rfl (rangeT hcs) Try.underlying44 rfl (by kernel_rfl)) rfl ⟨by rw [e1,e2,e3,hE.out],hbel⟩
theorem vtot_any (R ro:Nat) (sp:Option Addr) (cap:Nat) (L:Rgs17) (hc:Can L) (hln:L.length<1000000) (w:World) (hR:w.cell? ⟨R,ro,none⟩=some (.slice sp L.length cap)) (N:NewW w 0 L (.slice sp L.length cap)) :
 Calls Try.prog 31 #[.pointer (some ⟨R,ro,none⟩)] w fun e w'=>e=.returned (.int .i64 (rtot L))∧Below w.heap.size w w':=by
 have M:=Mm.init w
 go_enter Try.func31,Try.ntmps31
 go_upto_region 0 with fail; refine wp_region_list ?_; refine xpL (.int .i64 0) ?_; refine xT ?_; go_upto_region 1 with fail; refine wp_region_list ?_; refine xpL (.pointer (some ⟨R,ro,none⟩)) ?_; refine xpL (.pointer (some ⟨R,ro,none⟩)) ?_; refine xpL (.pointer (some ⟨R,ro,none⟩)) ?_
 refine xaL (.slice sp L.length cap) (load1 39 _ ⟨R,ro,none⟩ _ rfl rfl (fun _=>by kernel_rfl) (cellT M.below hR)) ?_; have key:=vsum_any sp cap L hc hln _ (NewW.below N M.below); refine xcL key ?_; clear key; rintro e w1 ⟨rfl,l⟩; replace M:=M.call l; clear l; refine xeL ?_; refine xpL (.int .i64 (rtot L)) ?_; refine xT ?_; have hbel:=M.below; clear M; go_wp2; go_ret
 exact ⟨rfl,hbel⟩
theorem vend19 (R:Nat) (dn nb:Nat) (sb:Option Addr) (cb:Nat) (w:World) (h1:w.cell? ⟨R,1,none⟩=some (.int .i64 ((dn:Nat):Int))) (h2:w.cell? ⟨R,2,none⟩=some (.slice sb nb cb)) (hkn:dn+nb<40000000) :
 Calls Try.prog 32 #[.pointer (some ⟨R,0,none⟩)] w fun e w'=>e=.returned (.int .i64 ((dn+nb:Nat):Int))∧Below w.heap.size w w':=by
 have M:=Mm.init w
 go_enter Try.func32,Try.ntmps32
 go_upto_region 0 with fail; refine wp_region_list ?_; refine xpL (.int .i64 0) ?_; refine xT ?_; go_upto_region 1 with fail; refine wp_region_held_drew (S:=fun w'=>Below w.heap.size w w') (by kernel_rfl) M.drew.below ?_; intro _; replace M:=M.drew; have hdr:=(Below.refl w.heap.size w).drew; clear hdr; generalize w.drew=w1 at M  ⊢
 refine xrH 0 3 rfl (.pointer (some ⟨R,0,none⟩)) (fun _ hS=>(by kernel_rfl)) M.below ?_; refine xrH 1 4 rfl (.pointer (some ⟨R,0,none⟩)) (fun _ hS=>(by kernel_rfl)) M.below ?_; refine xrH 2 5 rfl (.pointer (some ⟨R,1,none⟩)) (fun _ hS=>(by kernel_rfl)) M.below ?_
 refine xrH 3 6 rfl (.int .i64 ((dn:Nat):Int)) (fun _ hS=>load1 3 _ ⟨R,1,none⟩ _ rfl rfl (fun _=>by kernel_rfl) (cellT hS h1)) M.below ?_; refine xrH 4 7 rfl (.pointer (some ⟨R,0,none⟩)) (fun _ hS=>(by kernel_rfl)) M.below ?_; refine xrH 5 8 rfl (.pointer (some ⟨R,0,none⟩)) (fun _ hS=>(by kernel_rfl)) M.below ?_
 refine xrH 6 9 rfl (.pointer (some ⟨R,2,none⟩)) (fun _ hS=>(by kernel_rfl)) M.below ?_; refine xrH 7 10 rfl (.slice sb nb cb) (fun _ hS=>load1 28 _ ⟨R,2,none⟩ _ rfl rfl (fun _=>by kernel_rfl) (cellT hS h2)) M.below ?_; refine xrH 8 11 rfl (.int .i64 ((nb:Nat):Int)) (fun _ hS=>lenS _ 28 5 sb nb cb rfl Try.underlying28 rfl _) M.below ?_
 refine xrH 9 12 rfl (.int .i64 ((dn+nb:Nat):Int)) (fun _ hS=>addI .i64 _ _ _ _ _ _ _ rfl rfl rfl (by rw [xw6]; omega) _) M.below ?_; refine xrH 10 2 rfl (.int .i64 ((dn+nb:Nat):Int)) (fun _ hS=>(by kernel_rfl)) M.below ?_
 refine wpAnyH_done (by kernel_rfl) ?_ _
 first | show Exit.then _ _ _ _ _ | show Exit.inBlock _ _ _ _ _
 have hbel:=M.below; clear M; go_wp2; go_ret
 exact ⟨rfl,hbel⟩
theorem vlim19 (R:Nat) (s:Int) (dn:Nat) (w:World) (h0:w.cell? ⟨R,0,none⟩=some (.int .i64 s)) (h1:w.cell? ⟨R,1,none⟩=some (.int .i64 ((dn:Nat):Int))) (hdn:dn<40000000) :
 Calls Try.prog 20 #[.pointer (some ⟨R,0,none⟩)] w fun e w'=>e=.returned (.int .i64 ((dn:Nat)+min (max s 1) 1048576))∧Below w.heap.size w w':=by
 have M:=Mm.init w
 go_enter Try.func20,Try.ntmps20
 go_upto_region 0 with fail; refine wp_region_list ?_; refine xpL (.int .i64 0) ?_; refine xT ?_; go_upto_region 1 with fail; refine wp_region_held_drew (S:=fun w'=>Below w.heap.size w w') (by kernel_rfl) M.drew.below ?_; intro _; replace M:=M.drew; have hdr:=(Below.refl w.heap.size w).drew; clear hdr; generalize w.drew=w1 at M  ⊢
 refine xrH 0 3 rfl (.pointer (some ⟨R,0,none⟩)) (fun _ hS=>(by kernel_rfl)) M.below ?_; refine xrH 1 4 rfl (.pointer (some ⟨R,0,none⟩)) (fun _ hS=>(by kernel_rfl)) M.below ?_; refine xrH 2 5 rfl (.pointer (some ⟨R,1,none⟩)) (fun _ hS=>(by kernel_rfl)) M.below ?_
 refine xrH 3 6 rfl (.int .i64 ((dn:Nat):Int)) (fun _ hS=>load1 3 _ ⟨R,1,none⟩ _ rfl rfl (fun _=>by kernel_rfl) (cellT hS h1)) M.below ?_; refine xrH 4 7 rfl (.pointer (some ⟨R,0,none⟩)) (fun _ hS=>(by kernel_rfl)) M.below ?_; refine xrH 5 8 rfl (.pointer (some ⟨R,0,none⟩)) (fun _ hS=>(by kernel_rfl)) M.below ?_
 refine xrH 6 9 rfl (.pointer (some ⟨R,0,none⟩)) (fun _ hS=>(by kernel_rfl)) M.below ?_; refine xrH 7 10 rfl (.int .i64 s) (fun _ hS=>load1 3 _ ⟨R,0,none⟩ _ rfl rfl (fun _=>by kernel_rfl) (cellT hS h0)) M.below ?_; refine xrH 8 11 rfl (.int .i64 (max s 1)) (fun _ hS=>maxI .i64 .i64 _ _ _ _ _ _ _ rfl rfl rfl (by split <;> omega) _) M.below ?_
 refine xrH 9 12 rfl (.int .i64 (min (max s 1) 1048576)) (fun _ hS=>minI .i64 .i64 _ _ _ _ _ _ _ rfl rfl rfl (by split <;> omega) _) M.below ?_; refine xrH 10 13 rfl (.int .i64 ((dn:Nat)+min (max s 1) 1048576)) (fun _ hS=>addI .i64 _ _ _ _ _ _ _ rfl rfl rfl (by rw [xw6]; omega) _) M.below ?_
 refine xrH 11 2 rfl (.int .i64 ((dn:Nat)+min (max s 1) 1048576)) (fun _ hS=>(by kernel_rfl)) M.below ?_
 refine wpAnyH_done (by kernel_rfl) ?_ _
 first | show Exit.then _ _ _ _ _ | show Exit.inBlock _ _ _ _ _
 have hbel:=M.below; clear M; go_wp2; go_ret
 exact ⟨rfl,hbel⟩
theorem vdone19 (R:Nat) (dn:Nat) (w:World) (h1:w.cell? ⟨R,1,none⟩=some (.int .i64 ((dn:Nat):Int))) :
 Calls Try.prog 18 #[.pointer (some ⟨R,0,none⟩)] w fun e w'=>e=.returned (.int .i64 ((dn:Nat):Int))∧Below w.heap.size w w':=by
 have M:=Mm.init w
 go_enter Try.func18,Try.ntmps18
 go_upto_region 0 with fail; refine wp_region_list ?_; refine xpL (.int .i64 0) ?_; refine xT ?_; go_upto_region 1 with fail; refine wp_region_list ?_; refine xpL (.pointer (some ⟨R,0,none⟩)) ?_; refine xpL (.pointer (some ⟨R,0,none⟩)) ?_; refine xpL (.pointer (some ⟨R,1,none⟩)) ?_
 refine xaL (.int .i64 ((dn:Nat):Int)) (load1 3 _ ⟨R,1,none⟩ _ rfl rfl (fun _=>by kernel_rfl) (cellT M.below h1)) ?_; refine xpL (.int .i64 ((dn:Nat):Int)) ?_; refine xT ?_; have hbel:=M.below; clear M; go_wp2; go_ret
 exact ⟨rfl,hbel⟩
theorem vheld19 (R:Nat) (dn:Nat) (sc:Option Addr) (cc:Nat) (C:Rgs17) (hcc:Can C) (hlc:C.length<1000000) (w:World) (h1:w.cell? ⟨R,1,none⟩=some (.int .i64 ((dn:Nat):Int))) (h3:w.cell? ⟨R,3,none⟩=some (.slice sc C.length cc)) (hdn:dn<40000000) (N:NewW w 0 C (.slice sc C.length cc)) :
 Calls Try.prog 17 #[.pointer (some ⟨R,0,none⟩)] w fun e w'=>e=.returned (.int .i64 (rtot C-((dn:Nat):Int)))∧Below w.heap.size w w':=by
 have htt:=rtot_in hcc; have M:=Mm.init w
 go_enter Try.func17,Try.ntmps17
 go_upto_region 0 with fail; refine wp_region_list ?_; refine xpL (.int .i64 0) ?_; refine xT ?_; go_upto_region 1 with fail; refine wp_region_held_drew (S:=fun w'=>Below w.heap.size w w') (by kernel_rfl) M.drew.below ?_; intro _; replace M:=M.drew; have hdr:=(Below.refl w.heap.size w).drew; clear hdr; generalize w.drew=w1 at M  ⊢
 refine xrH 0 3 rfl (.pointer (some ⟨R,0,none⟩)) (fun _ hS=>(by kernel_rfl)) M.below ?_; refine xrH 1 4 rfl (.pointer (some ⟨R,0,none⟩)) (fun _ hS=>(by kernel_rfl)) M.below ?_; refine xrH 2 5 rfl (.pointer (some ⟨R,3,none⟩)) (fun _ hS=>(by kernel_rfl)) M.below ?_; refine xrH 4 7 rfl (.pointer (some ⟨R,0,none⟩)) (fun _ hS=>(by kernel_rfl)) M.below ?_
 refine xrH 5 8 rfl (.pointer (some ⟨R,0,none⟩)) (fun _ hS=>(by kernel_rfl)) M.below ?_; refine xrH 6 9 rfl (.pointer (some ⟨R,1,none⟩)) (fun _ hS=>(by kernel_rfl)) M.below ?_; refine xrH 7 10 rfl (.int .i64 ((dn:Nat):Int)) (fun _ hS=>load1 3 _ ⟨R,1,none⟩ _ rfl rfl (fun _=>by kernel_rfl) (cellT hS h1)) M.below ?_
 have key:=vtot_any R 3 sc cc C hcc hlc _ (cellT M.below h3) (NewW.below N M.below); refine callH (i:=3) (some 6) rfl (by kernel_rfl) rfl rfl (fun _=>by kernel_rfl) key ?_; clear key; rintro e w2 ⟨rfl,l⟩; replace M:=M.call l; clear l
 refine ⟨_,rfl,M.below,?_⟩
 simp only [aP,lI,l0,lS]; refine xrH 8 11 rfl (.int .i64 (rtot C-((dn:Nat):Int))) (fun _ hS=>subI .i64 _ _ _ _ _ _ _ rfl rfl rfl (by rw [xw6]; omega) _) M.below ?_; refine xrH 9 2 rfl (.int .i64 (rtot C-((dn:Nat):Int))) (fun _ hS=>(by kernel_rfl)) M.below ?_
 refine wpAnyH_done (by kernel_rfl) ?_ _
 first | show Exit.then _ _ _ _ _ | show Exit.inBlock _ _ _ _ _
 have hbel:=M.below; clear M; go_wp2; go_ret
 exact ⟨rfl,hbel⟩
theorem vhere19 (R:Nat) (sc:Option Addr) (cc:Nat) (C:Rgs17) (hcc:Can C) (hlc:C.length<1000000) (w:World) (h3:w.cell? ⟨R,3,none⟩=some (.slice sc C.length cc)) (N:NewW w 0 C (.slice sc C.length cc)) :
 Calls Try.prog 21 #[.pointer (some ⟨R,0,none⟩)] w fun e w'=>e=.returned (.int .i64 (rnxt C 0))∧Below w.heap.size w w':=by
 have M:=Mm.init w
 go_enter Try.func21,Try.ntmps21
 go_upto_region 0 with fail; refine wp_region_list ?_; refine xpL (.int .i64 0) ?_; refine xT ?_; go_upto_region 1 with fail; refine wp_region_list ?_; refine xpL (.pointer (some ⟨R,0,none⟩)) ?_; refine xpL (.pointer (some ⟨R,0,none⟩)) ?_; refine xpL (.pointer (some ⟨R,3,none⟩)) ?_; have key:=vnext_any R 3 sc cc C hcc hlc 0 _ (cellT M.below h3) (NewW.below N M.below); refine xcL key ?_
 clear key; rintro e w1 ⟨rfl,l⟩; replace M:=M.call l; clear l; refine xeL ?_; refine xpL (.int .i64 (rnxt C 0)) ?_; refine xT ?_; have hbel:=M.below; clear M; go_wp2; go_ret
 exact ⟨rfl,hbel⟩
theorem vnewi19 (w0 w:World) (l:List (Nat × List Value)) (n:Int) (M0:Mm w0 l w) :
 Calls Try.prog 8 #[.int .i64 n] w fun e w'=>∃ B,e=.returned (.pointer (some ⟨B,0,none⟩))∧Mm w0 ((B,[.int .i64 n,.int .i64 ((0:Nat):Int),.slice none 0 0,.slice none 0 0])::l) w'∧Below w.heap.size w w':=by
 have M:=M0; clear M0; have OF:=Off.refl [] w; have hBl:=Below.refl w.heap.size w
 go_enter Try.func8,Try.ntmps8
 go_upto_region 0 with fail; refine wp_region_list ?_; refine xpL (.pointer none) ?_; refine xT ?_; go_upto_region 1 with fail; refine wp_region_list ?_; refine xpL (.int .i64 n) ?_; refine xpL (.agg #[.int .i64 n,.int .i64 0,.slice none 0 0,.slice none 0 0]) ?_; have hlb:=(Below.refl w.heap.size w).alloc (xnR _) (.cells #[.int .i64 n,.int .i64 0,.slice none 0 0,.slice none 0 0] 48)
 refine actL (w':=w.alloc (.cells #[.int .i64 n,.int .i64 0,.slice none 0 0,.slice none 0 0] 48)) (.pointer (some ⟨w.heap.size,0,none⟩)) rfl (by kernel_rfl) ?_; simp only [aP,lI,l0,lS]; have hB_:=OF.size; replace OF:=OF.below hlb; replace hBl:=hBl.trans (hlb.mono hBl.size); replace M:=M.box #[.int .i64 n,.int .i64 0,.slice none 0 0,.slice none 0 0] 48 w.heap.size rfl
 clear hlb; generalize w.alloc (.cells #[.int .i64 n,.int .i64 0,.slice none 0 0,.slice none 0 0] 48)=w1 at M OF hBl ⊢; generalize eB_:w.heap.size=B1 at M ⊢
 have hB_B1:w.heap.size≤B1:=by rw [← eB_]; exact hB_
 clear hB_ eB_
 replace M:Mm w0 ((B1,[.int .i64 n,.int .i64 0,.slice none 0 0,.slice none 0 0])::l) w1:=M
 refine xpL (.pointer (some ⟨B1,0,none⟩)) ?_; refine xT ?_; have HS:=show Hid _ from (And.intro M hBl); clear M hBl OF; go_wp2; go_ret
 exact ⟨B1,rfl,HS.out⟩
theorem vreach19 (w0 w:World) (R:Nat) (T:List (Nat × List Value)) (dn nb:Nat) (s:Int) (sb sc:Option Addr) (cb cc:Nat) (C:Rgs17) (bf:Nat→Int) (t:Int) (hkn:dn+nb<40000000) (ht0:0≤t) (ht1:t<40000000) (M0:Mm w0 ((R,[.int .i64 s,.int .i64 ((dn:Nat):Int),.slice sb nb cb,.slice sc C.length cc])::(obs sb++T)) w) (W_b:Wnd w sb nb cb bf) :
 Calls Try.prog 23 #[.pointer (some ⟨R,0,none⟩),.int .i64 t] w fun e w'=>∃ sb' cb',e=.returned (.tuple #[])∧Mm w0 ((R,[.int .i64 s,.int .i64 ((dn:Nat):Int),.slice sb' (max nb (t.toNat-dn)) cb',.slice sc C.length cc])::(obs sb'++T)) w'∧Wnd w' sb' (max nb (t.toNat-dn)) cb' (app bf nb (fun _=>0))∧Off (R::ob sb) w w'∧Lies (R::ob sb) w sb':=by
 have M:=M0; clear M0; have hb0:=M.below
 obtain ⟨XS,hXS⟩:∃ X_,X_=(R::ob sb):=⟨_,rfl⟩
 have hRX:R∈XS:=by rw [hXS]; simp
 have L_b:Lies XS w sb:=fun b_ hb_=>.inl (by rw [hXS]; simp [hb_])
 have OF:=Off.refl XS w
 go_enter Try.func23,Try.ntmps23
 by_cases hgt:dn+nb<t.toNat
 · go_upto_region 0 with fail
   refine wp_region_list ?_; refine xpL (.int .i64 t) ?_; refine xpL (.pointer (some ⟨R,0,none⟩)) ?_; have key:=vend19 R dn nb sb cb _ (M.get mS 1 _ rfl) (M.get mS 2 _ rfl) hkn; refine xcL key ?_; clear key; rintro e w1 ⟨rfl,l_⟩; replace M:=M.call l_; replace W_b:=W_b.bel l_; replace OF:=OF.below l_; clear l_; refine xeL ?_
   refine readL (.int .i64 ((t.toNat-(dn+nb):Nat):Int)) rfl (subI .i64 _ _ _ _ _ _ _ rfl rfl rfl (by rw [xw6]; omega) _) ?_; simp only [aP,lI,l0,lS]; refine xpL (.int .i64 ((t.toNat-(dn+nb):Nat):Int)) ?_; refine xT ?_; go_upto_region 1 with fail; refine wp_region_list ?_; refine xpL (.int .i64 ((t.toNat-(dn+nb):Nat):Int)) ?_
   refine xaL (.bool true) (gtrI .i64 _ _ _ _ _ _ rfl rfl rfl true (decide_eq_true (by omega)) _) ?_; refine xT ?_; go_upto_region 2 with fail; refine wp_region_list ?_; refine xpL (.pointer (some ⟨R,0,none⟩)) ?_; refine xpL (.pointer (some ⟨R,0,none⟩)) ?_; refine xpL (.pointer (some ⟨R,0,none⟩)) ?_; refine xpL (.pointer (some ⟨R,2,none⟩)) ?_
   refine xaL (.slice sb nb cb) (load1 28 _ ⟨R,2,none⟩ _ rfl rfl (fun _=>by kernel_rfl) (M.get mS 2 _ rfl)) ?_; refine xpL (.int .i64 ((t.toNat-(dn+nb):Nat):Int)) ?_
   obtain ⟨p2,c2,w2,hr,W2,hgr,hnb⟩:=run_appendZ_Wnd (P:=Try.prog) (ty:=28) Try.underlying28 Try.underlying3 one8 W_b (t.toNat-(dn+nb)) (by omega) (by omega)
   have Mp:=M.perm (pull0 ([(R,[.int .i64 s,.int .i64 ((dn:Nat):Int),.slice sb nb cb,.slice sc C.length cc])]:List (Nat × List Value)) (obs sb) T); have ho:=Off.rep18 (Off.refl (ob sb) w1) hgr (fun _ hb_=>.inl hb_); have L2_:=L_b.rep hnb OF.size; replace OF:=OF.rep18 hgr L_b; have M2:=Mp.rep18 hgr W2.lt hnb; clear M Mp ho hgr hnb W_b L_b; have W_b:=W2; have L_b:=L2_
   clear W2 L2_
   have M:Mm w0 ((R,[.int .i64 s,.int .i64 ((dn:Nat):Int),.slice sb nb cb,.slice sc C.length cc])::((obs p2)++T)) w2:=M2.perm (pull0 ([(R,[.int .i64 s,.int .i64 ((dn:Nat):Int),.slice sb nb cb,.slice sc C.length cc])]:List (Nat × List Value)) (obs p2) T).symm
   clear M2; refine actL (.slice p2 (nb+(t.toNat-(dn+nb))) c2) rfl (appN17 _ _ 28 3 _ _ _ rfl rfl rfl (ty:=28) hr) ?_; simp only [aP,lI,l0,lS]; clear hr; refine xpL (.pointer (some ⟨R,0,none⟩)) ?_; refine xpL (.pointer (some ⟨R,2,none⟩)) ?_
   refine skipOpL rfl (storeAny (.slice p2 (nb+(t.toNat-(dn+nb))) c2) R 2 28 _ _ rfl rfl rfl rfl rfl (M.isSome mS 2 (by simp)) (M.free mS 2 (by simp)) (by kernel_rfl)) ?_; simp only [Act.put]; replace M:=M.set 2 (by simp) (.slice p2 (nb+(t.toNat-(dn+nb))) c2)
   replace W_b:=W_b.off ((Off.refl [R] _).set (b:=R) mS 2 (.slice p2 (nb+(t.toNat-(dn+nb))) c2)) (fun b_ hb_=>by obtain rfl:=xm1 hb_; exact M.awayB (fun p_ hp_=>by simp [hp_])); replace OF:=OF.and1 ((Off.refl [R] _).set (b:=R) mS 2 (.slice p2 (nb+(t.toNat-(dn+nb))) c2)) (.inl hRX)
   generalize w2.setCell ⟨R,2,none⟩ (.slice p2 (nb+(t.toNat-(dn+nb))) c2)=w3 at M W_b OF L_b ⊢
   replace M:Mm w0 ((R,[.int .i64 s,.int .i64 ((dn:Nat):Int),.slice p2 (nb+(t.toNat-(dn+nb))) c2,.slice sc C.length cc])::((obs p2)++T)) w3:=M
   rw [show nb+(t.toNat-(dn+nb))=max nb (t.toNat-dn) by omega] at M W_b
   rw [hXS] at OF L_b
   exact ⟨rfl,.tuple #[],by kernel_rfl,_,_,rfl,M,W_b,OF,L_b⟩
 · go_upto_region 0 with fail
   refine wp_region_list ?_; refine xpL (.int .i64 t) ?_; refine xpL (.pointer (some ⟨R,0,none⟩)) ?_; have key:=vend19 R dn nb sb cb _ (M.get mS 1 _ rfl) (M.get mS 2 _ rfl) hkn; refine xcL key ?_; clear key; rintro e w4 ⟨rfl,l_⟩; replace M:=M.call l_; replace W_b:=W_b.bel l_; replace OF:=OF.below l_; clear l_; refine xeL ?_
   refine readL (.int .i64 (t-((dn+nb:Nat):Int))) rfl (subI .i64 _ _ _ _ _ _ _ rfl rfl rfl (by rw [xw6]; omega) _) ?_; simp only [aP,lI,l0,lS]; refine xpL (.int .i64 (t-((dn+nb:Nat):Int))) ?_; refine xT ?_; go_upto_region 1 with fail; refine wp_region_list ?_; refine xpL (.int .i64 (t-((dn+nb:Nat):Int))) ?_
   refine xaL (.bool false) (gtrI .i64 _ _ _ _ _ _ rfl rfl rfl false (decide_eq_false (by omega)) _) ?_; refine xT ?_
   have W2:Wnd w4 sb nb cb (app bf nb (fun _=>0)):=W_b.congr (fun j_ hj_=>by unfold app; rw [if_pos hj_])
   have hq_:nb=(max nb (t.toNat-dn)):=by omega
   rw [hXS] at OF L_b
   have HS:=show Hid _ from (show ∃ sb' cb',Mm w0 ((R,[.int .i64 s,.int .i64 ((dn:Nat):Int),.slice sb' (max nb (t.toNat-dn)) cb',.slice sc C.length cc])::(obs sb'++T)) w4∧Wnd w4 sb' (max nb (t.toNat-dn)) cb' (app bf nb (fun _=>0))∧Off (R::ob sb) w w4∧Lies (R::ob sb) w sb' from ⟨sb,cb,by rw [← hq_]; exact M,by rw [← hq_]; exact W2,OF,L_b⟩); clear M W_b W2 OF L_b
   go_wp2
   obtain ⟨sb2,cb2,h2_⟩:=HS.out
   exact ⟨rfl,.tuple #[],by kernel_rfl,sb2,cb2,rfl,h2_⟩
theorem vtake19 (w0 w:World) (R:Nat) (l:List (Nat × List Value)) (x:Ibx) (s:Int) (nb:Nat) (sb sc:Option Addr) (cb cc:Nat) (C:Rgs17) (hw:IbxW x) (hdn:x.dn<10000000) (hr:IRel x s nb C) (p:Int) (hp:i64 p) (b:List Int) (sp:Option Addr) (cap:Nat) (hbl:b.length<1000000) (hbc:b.length≤cap) (hbn:sp=none→cap=0) (hbb:Byts b) (hsa:SrcA (R::(ob sc++ob sb)) w sp b.length (bl b)) (M0:Mm w0 ((R,[.int .i64 s,.int .i64 ((x.dn:Nat):Int),.slice sb nb cb,.slice sc C.length cc])::(obs sc++(obs sb++l))) w) (W_b:Wnd w sb nb cb (fun j=>x.b (x.dn+j))) (V_c:w.ownsRow 0 44 2 (.slice sc C.length cc) C.length (wrc C)) :
 Calls Try.prog 11 #[.pointer (some ⟨R,0,none⟩),.int .i64 p,.slice sp b.length cap] w fun e w'=>∃ sb' cb' nb' sc' cc' C',e=.returned (.int .i64 ((itN x p b.length:Nat):Int))∧IRel (itk x p b) s nb' C'∧Mm w0 ((R,[.int .i64 s,.int .i64 ((x.dn:Nat):Int),.slice sb' nb' cb',.slice sc' C'.length cc'])::(obs sc'++(obs sb'++l))) w'∧Wnd w' sb' nb' cb' (fun j=>(itk x p b).b (x.dn+j))∧w'.ownsRow 0 44 2 (.slice sc' C'.length cc') C'.length (wrc C')∧Off (R::(ob sc++ob sb)) w w':=by
 have M:=M0; clear M0; have hb0:=M.below
 obtain ⟨XS,hXS⟩:∃ X_,X_=(R::(ob sc++ob sb)):=⟨_,rfl⟩
 have hRX:R∈XS:=by rw [hXS]; simp
 have L_c:Lies XS w sc:=fun b_ hb_=>.inl (by rw [hXS]; simp [hb_])
 have L_b:Lies XS w sb:=fun b_ hb_=>.inl (by rw [hXS]; simp [hb_])
 have OF:=Off.refl XS w
 rw [← hXS] at hsa
 have hs2:=hw.s2; have hlc:=hr.len hw; have hnb:=hr.nbs hw
 have hlm_:((ilim x:Nat):Int)=((x.dn:Nat):Int)+min (max s 1) 1048576:=by have:=hr.size; unfold ilim; omega
 have hlim:ilim x<12000000:=by unfold ilim; omega
 have hdl:x.dn≤ilim x:=by unfold ilim; omega
 go_enter Try.func11,Try.ntmps11
 go_upto_region 0 with fail; refine wp_region_list ?_; refine xpL (.int .i64 0) ?_; refine xT ?_
 unfold i64 at hp
 by_cases hneg:p<0
 · go_upto_region 1 with fail
   refine wp_region_list ?_; refine xpL (.int .i64 p) ?_; refine xaL (.bool true) (lssI .i64 _ _ _ _ _ _ rfl rfl rfl true (decide_eq_true hneg) _) ?_; refine xT ?_; go_upto_region 2 with fail; refine wp_region_list ?_; refine xpL (.int .i64 0) ?_; refine xT ?_; have hOR:=hr
   rw [hXS] at OF
   have e1_:=itk_neg x hneg b; have e2_:=show Hid _ from itN_neg x hneg b.length; have HS:=show Hid _ from (And.intro (show IRel (itk x p b) s nb C by rw [e1_]; exact hr) (And.intro M (And.intro (W_b.congr (z:=fun j=>(itk x p b).b (x.dn+j)) (fun j_ _=>by rw [e1_])) (And.intro V_c OF)))); clear M W_b V_c OF hOR e1_; go_wp2; go_ret
   rw [e2_.out]
   first | exact ⟨_,_,_,_,_,_,rfl,HS.out⟩ | exact ⟨rfl,_,_,_,_,_,_,HS.out⟩
 · obtain ⟨te,hto⟩:∃ t_,t_=min (p+(b.length:Int)) ((ilim x:Nat):Int):=⟨_,rfl⟩
   go_upto_region 1 with fail; refine wp_region_list ?_; refine xpL (.int .i64 p) ?_; refine xaL (.bool false) (lssI .i64 _ _ _ _ _ _ rfl rfl rfl false (decide_eq_false hneg) _) ?_; refine xT ?_; go_upto_region 3 with fail; refine wp_region_list ?_; refine xpL (.int .i64 p) ?_; refine xpL (.slice sp b.length cap) ?_
   refine xaL (.int .i64 ((b.length:Nat):Int)) (lenS _ 28 5 sp b.length cap rfl Try.underlying28 rfl _) ?_; refine xpL (.pointer (some ⟨R,0,none⟩)) ?_; have key:=vlim19 R s x.dn _ (M.get mS 0 _ rfl) (M.get mS 1 _ rfl) (by omega)
   rw [hlm_.symm] at key
   refine xcL key ?_; clear key; rintro e w1 ⟨rfl,l_⟩; replace M:=M.call l_; replace V_c:=ownsRow_bel V_c l_; replace W_b:=W_b.bel l_; replace OF:=OF.below l_; clear l_; refine xeL ?_; refine xpL (.int .i64 p) ?_; refine readL (.int .i64 (((ilim x:Nat):Int)-p)) rfl (subI .i64 _ _ _ _ _ _ _ rfl rfl rfl (by rw [xw6]; omega) _) ?_; simp only [aP,lI,l0,lS]
   refine readL (.int .i64 (min (b.length:Int) (((ilim x:Nat):Int)-p))) rfl (minI .i64 .i64 _ _ _ _ _ _ _ rfl rfl rfl (by split <;> omega) _) ?_; simp only [aP,lI,l0,lS]; refine xaL (.int .i64 te) (addI .i64 _ _ _ _ _ _ _ rfl rfl rfl (by rw [xw6]; omega) _) ?_; refine xpL (.int .i64 te) ?_; refine xT ?_; go_upto_region 4 with fail; refine wp_region_list ?_
   refine xpL (.pointer (some ⟨R,0,none⟩)) ?_; refine xpL (.pointer (some ⟨R,0,none⟩)) ?_; refine xpL (.pointer (some ⟨R,3,none⟩)) ?_; refine xpL (.int .i64 p) ?_; refine xpL (.int .i64 te) ?_; have key:=vgap_any R 3 sc cc C hr.can hlc p te _ (M.get mS 3 _ rfl) (NewW.ofOwn V_c); refine xcL key ?_; clear key; rintro e w2 ⟨rfl,l_⟩; replace M:=M.call l_; replace V_c:=ownsRow_bel V_c l_
   replace W_b:=W_b.bel l_; replace OF:=OF.below l_; clear l_; refine xeL ?_; refine xpL (.tuple #[.agg #[.int .i64 (rgF C p te),.int .i64 (rgT C p te)],.bool (rgB C p te)]) ?_; refine xpL (.agg #[.int .i64 (rgF C p te),.int .i64 (rgT C p te)]) ?_; refine xpL (.bool (rgB C p te)) ?_; have hlb:=(Below.refl w2.heap.size w2).alloc (xnR _) (.cells #[.int .i64 0,.int .i64 0] 44)
   refine actL (w':=w2.alloc (.cells #[.int .i64 0,.int .i64 0] 44)) (.pointer (some ⟨w2.heap.size,0,none⟩)) rfl (by kernel_rfl) ?_; simp only [aP,lI,l0,lS]; have hB_:=OF.size; replace V_c:=ownsRow_bel V_c hlb; replace W_b:=W_b.bel hlb; replace OF:=OF.below hlb; replace M:=M.box #[.int .i64 0,.int .i64 0] 44 w2.heap.size rfl; clear hlb
   generalize w2.alloc (.cells #[.int .i64 0,.int .i64 0] 44)=w3 at M V_c W_b OF ⊢; generalize eB_:w2.heap.size=B3 at M ⊢
   have hB_B3:w.heap.size≤B3:=by rw [← eB_]; exact hB_
   clear hB_ eB_
   replace M:Mm w0 ((B3,[.int .i64 0,.int .i64 0])::(R,[.int .i64 s,.int .i64 ((x.dn:Nat):Int),.slice sb nb cb,.slice sc C.length cc])::((obs sc)++((obs sb)++l))) w3:=M
   refine skipOpL rfl (storeP [.int .i64 (rgF C p te),.int .i64 (rgT C p te)] B3 0 44 _ _ rfl rfl rfl (M.thereP mS 0 2 (Nat.le_of_ble_eq_true rfl)) (by kernel_rfl) (List.all_eq_true.1 (rfl:([.int .i64 (rgF C p te),.int .i64 (rgT C p te)]:List Value).all (fun u=>u.oneCell')=true))) ?_; simp only [Act.put]
   replace M:=M.setPart [.int .i64 (rgF C p te),.int .i64 (rgT C p te)] 0 (Nat.le_of_ble_eq_true rfl); replace V_c:=ownsRow_away V_c ((Off.refl [B3] _).setAll (b:=B3) mS 0 [.int .i64 (rgF C p te),.int .i64 (rgT C p te)]) (fun b_ hb_=>by obtain rfl:=xm1 hb_; exact M.awayB (fun p_ hp_=>by simp [hp_]))
   replace W_b:=W_b.off ((Off.refl [B3] _).setAll (b:=B3) mS 0 [.int .i64 (rgF C p te),.int .i64 (rgT C p te)]) (fun b_ hb_=>by obtain rfl:=xm1 hb_; exact M.awayB (fun p_ hp_=>by simp [hp_])); replace OF:=OF.and1 ((Off.refl [B3] _).setAll (b:=B3) mS 0 [.int .i64 (rgF C p te),.int .i64 (rgT C p te)]) (.inr hB_B3)
   generalize w3.setCells B3 0 [.int .i64 (rgF C p te),.int .i64 (rgT C p te)]=w4 at M V_c W_b OF L_c L_b ⊢
   replace M:Mm w0 ((B3,[.int .i64 (rgF C p te),.int .i64 (rgT C p te)])::(R,[.int .i64 s,.int .i64 ((x.dn:Nat):Int),.slice sb nb cb,.slice sc C.length cc])::((obs sc)++((obs sb)++l))) w4:=M
   refine xpL (.bool (rgB C p te)) ?_; refine xT ?_; replace W_b:=W_b.congr (z:=tkf x p b p) (fun j_ _=>(tkf_start x p b j_).symm)
   replace M:Mm w0 ((B3,[.int .i64 (rgF C p te),.int .i64 (rgT C p te)])::(R,[.int .i64 s,.int .i64 ((x.dn:Nat):Int),.slice sb nb cb,.slice sc C.length cc])::((obs sc)++((obs sb)++l))) w4:=M
   have HI:=show Hid _ from (And.intro hB_B3 (show Mm w0 ((B3,[.int .i64 (rgF C p te),.int .i64 (rgT C p te)])::(R,[.int .i64 s,.int .i64 ((x.dn:Nat):Int),.slice sb nb cb,.slice sc C.length cc])::((obs sc)++((obs sb)++l))) w4∧Wnd w4 sb nb cb (tkf x p b p)∧w4.ownsRow 0 44 2 (.slice sc C.length cc) C.length (wrc C)∧Off XS w w4∧Lies XS w sb from ⟨M,W_b,V_c,OF,L_b⟩))
   clear M W_b V_c OF L_b hB_B3; have htk:=show Hid _ from TkI.start x nb p te
   have htl:te≤((ilim x:Nat):Int):=by omega
   have hta:te≤p+(b.length:Int):=by omega
   replace hto:=show Hid _ from hto; replace hlm_:=show Hid _ from hlm_; go_wp2
   go_loopw [8,9] (fun v b_ w'=>∃ (B:Nat) (q_:Int) (nb':Nat) (sb':Option Addr) (cb':Nat),v=.pointer (some ⟨B,0,none⟩)∧b_=.bool (rgB C q_ te)∧Hid (TkI x nb p te q_ nb')∧w.heap.size≤B∧Mm w0 ((B,[.int .i64 (rgF C q_ te),.int .i64 (rgT C q_ te)])::(R,[.int .i64 s,.int .i64 ((x.dn:Nat):Int),.slice sb' nb' cb',.slice sc C.length cc])::((obs sc)++((obs sb')++l))) w'∧Wnd w' sb' nb' cb' (tkf x p b q_)∧w'.ownsRow 0 44 2 (.slice sc C.length cc) C.length (wrc C)∧Off XS w w'∧Lies XS w sb') (fun v b_ w'=>if boolOf b_=true then (4611686018427387905-gapT w' v).toNat else 0)
   case atStart=>exact ⟨_,p,nb,sb,cb,rfl,rfl,htk,HI.out⟩
   case round =>
    clear HI htk
    obtain ⟨B,q_,nb',sb',cb',rfl,rfl,htk,hB_B,M,W_b,V_c,OF,L_b⟩:=hrel
    have hnl_:=htk.out.nbs hr hw htl
    cases hb:rgB C q_ te with
    | true =>
      go_upto_region 5 with fail; refine wp_region_list ?_; refine xpL (.bool true) ?_; refine xT ?_
      obtain ⟨hg1,hg2,hg3,hg4,hg5,hg6⟩:=htk.out.gap hr hw (by omega) htl hdn hb
      clear hg5 hg6; have hpq:=htk.out.pq
      have hms:gapT wr (.pointer (some ⟨B,0,none⟩))=(rgT C q_ te):=gapT_is (M.get mS 1 _ rfl)
      go_upto_region 7 with fail; refine wp_region_list ?_; refine xpL (.pointer (some ⟨R,0,none⟩)) ?_; refine xpL (.pointer (some ⟨B,1,none⟩)) ?_; refine xaL (.int .i64 (rgT C q_ te)) (load1 3 _ ⟨B,1,none⟩ _ rfl rfl (fun _=>by kernel_rfl) (M.get mS 1 _ rfl)) ?_; replace M:=M.swap
      have Mq:Mm w0 ((R,[.int .i64 s,.int .i64 ((x.dn:Nat):Int),.slice sb' nb' cb',.slice sc C.length cc])::((obs sb')++(([(B,[.int .i64 (rgF C q_ te),.int .i64 (rgT C q_ te)])]:List (Nat × List Value))++((obs sc)++l)))) wr:=(M.perm (pull1 ([(R,[.int .i64 s,.int .i64 ((x.dn:Nat):Int),.slice sb' nb' cb',.slice sc C.length cc]),(B,[.int .i64 (rgF C q_ te),.int .i64 (rgT C q_ te)])]:List (Nat × List Value)) (obs sc) (obs sb') l)).perm List.perm_middle
      have key:=vreach19 w0 _ R _ x.dn nb' s sb' sc cb' cc C (tkf x p b q_) (rgT C q_ te) (by omega) (by omega) (by omega) Mq W_b; refine xcL key ?_; clear key; rintro e w5 ⟨p5,c5,rfl,M2,W2,o2,L2⟩; replace V_c:=ownsRow_away V_c o2 (Mq.awayRO (fun p_ hp_=>by simp [hp_])); have hsz_:=OF.size; replace OF:=OF.andR o2 hRX L_b; have L2_:=L2.two hRX L_b hsz_
      clear M Mq W_b L_b o2 L2 hsz_; have W_b:=W2.congr (z:=tkf x p b q_) (fun j_ _=>(tkf_reach hr hw htk.out j_).symm); have L_b:=L2_; clear W2 L2_
      replace M2:Mm w0 ((R,[.int .i64 s,.int .i64 ((x.dn:Nat):Int),.slice p5 (max nb' ((rgT C q_ te).toNat-x.dn)) c5,.slice sc C.length cc])::((obs p5)++(([(B,[.int .i64 (rgF C q_ te),.int .i64 (rgT C q_ te)])]:List (Nat × List Value))++((obs sc)++l)))) w5:=M2
      have M:Mm w0 ((R,[.int .i64 s,.int .i64 ((x.dn:Nat):Int),.slice p5 (max nb' ((rgT C q_ te).toNat-x.dn)) c5,.slice sc C.length cc])::(B,[.int .i64 (rgF C q_ te),.int .i64 (rgT C q_ te)])::((obs sc)++((obs p5)++l))) w5:=(M2.perm List.perm_middle.symm).perm (pull1 ([(R,[.int .i64 s,.int .i64 ((x.dn:Nat):Int),.slice p5 (max nb' ((rgT C q_ te).toNat-x.dn)) c5,.slice sc C.length cc]),(B,[.int .i64 (rgF C q_ te),.int .i64 (rgT C q_ te)])]:List (Nat × List Value)) (obs sc) (obs p5) l).symm
      clear M2; refine xeL ?_; refine xT ?_
      obtain ⟨spc,hcut,hsrc,hnil2⟩:=cut_loN (P:=Try.prog) (t:=28) Try.underlying28 (fun w=>by kernel_rfl) sp b.length cap ((rgF C q_ te).toNat-p.toNat) (by omega) hbc hbn
      have hle_:=W_b.le; go_upto_region 8 with fail; have hdr:=(Below.refl w5.heap.size w5).drew; replace M:=M.drew; replace V_c:=ownsRow_bel V_c hdr; replace W_b:=W_b.bel hdr; replace OF:=OF.below hdr; clear hdr
      refine wp_region_held_drew (S:=fun w'=>Mm w0 [(R,[.int .i64 s,.int .i64 ((x.dn:Nat):Int),.slice p5 (max nb' ((rgT C q_ te).toNat-x.dn)) c5,.slice sc C.length cc]),(B,[.int .i64 (rgF C q_ te),.int .i64 (rgT C q_ te)])] w') (by kernel_rfl) (M.sub _ (List.cons_sublist_cons.2 (List.cons_sublist_cons.2 (List.nil_sublist _)))) ?_; intro _
      generalize w5.drew=w6 at M V_c W_b OF ⊢; refine xrH 0 45 rfl (.pointer (some ⟨R,0,none⟩)) (fun _ hS=>(by kernel_rfl)) (M.sub _ (List.cons_sublist_cons.2 (List.cons_sublist_cons.2 (List.nil_sublist _)))) ?_; refine xrH 1 46 rfl (.pointer (some ⟨R,0,none⟩)) (fun _ hS=>(by kernel_rfl)) (M.sub _ (List.cons_sublist_cons.2 (List.cons_sublist_cons.2 (List.nil_sublist _)))) ?_
      refine xrH 2 47 rfl (.pointer (some ⟨R,2,none⟩)) (fun _ hS=>(by kernel_rfl)) (M.sub _ (List.cons_sublist_cons.2 (List.cons_sublist_cons.2 (List.nil_sublist _)))) ?_
      refine xrH 3 48 rfl (.slice p5 (max nb' ((rgT C q_ te).toNat-x.dn)) c5) (fun _ hS=>load1 28 _ ⟨R,2,none⟩ _ rfl rfl (fun _=>by kernel_rfl) (hS.get mS 2 _ rfl)) (M.sub _ (List.cons_sublist_cons.2 (List.cons_sublist_cons.2 (List.nil_sublist _)))) ?_
      refine xrH 4 49 rfl (.pointer (some ⟨B,0,none⟩)) (fun _ hS=>(by kernel_rfl)) (M.sub _ (List.cons_sublist_cons.2 (List.cons_sublist_cons.2 (List.nil_sublist _)))) ?_
      refine xrH 5 50 rfl (.int .i64 (rgF C q_ te)) (fun _ hS=>load1 3 _ ⟨B,0,none⟩ _ rfl rfl (fun _=>by kernel_rfl) (hS.get (mT _ mS) 0 _ rfl)) (M.sub _ (List.cons_sublist_cons.2 (List.cons_sublist_cons.2 (List.nil_sublist _)))) ?_
      refine xrH 6 51 rfl (.pointer (some ⟨R,0,none⟩)) (fun _ hS=>(by kernel_rfl)) (M.sub _ (List.cons_sublist_cons.2 (List.cons_sublist_cons.2 (List.nil_sublist _)))) ?_; refine xrH 7 52 rfl (.pointer (some ⟨R,0,none⟩)) (fun _ hS=>(by kernel_rfl)) (M.sub _ (List.cons_sublist_cons.2 (List.cons_sublist_cons.2 (List.nil_sublist _)))) ?_
      refine xrH 8 53 rfl (.pointer (some ⟨R,1,none⟩)) (fun _ hS=>(by kernel_rfl)) (M.sub _ (List.cons_sublist_cons.2 (List.cons_sublist_cons.2 (List.nil_sublist _)))) ?_
      refine xrH 9 54 rfl (.int .i64 ((x.dn:Nat):Int)) (fun _ hS=>load1 3 _ ⟨R,1,none⟩ _ rfl rfl (fun _=>by kernel_rfl) (hS.get mS 1 _ rfl)) (M.sub _ (List.cons_sublist_cons.2 (List.cons_sublist_cons.2 (List.nil_sublist _)))) ?_
      refine xrH 10 55 rfl (.int .i64 ((((rgF C q_ te).toNat-x.dn):Nat):Int)) (fun _ hS=>subI .i64 _ _ _ _ _ _ _ rfl rfl rfl (by rw [xw6]; omega) _) (M.sub _ (List.cons_sublist_cons.2 (List.cons_sublist_cons.2 (List.nil_sublist _)))) ?_
      refine xrH 11 56 rfl (.pointer (some ⟨B,1,none⟩)) (fun _ hS=>(by kernel_rfl)) (M.sub _ (List.cons_sublist_cons.2 (List.cons_sublist_cons.2 (List.nil_sublist _)))) ?_
      refine xrH 12 57 rfl (.int .i64 (rgT C q_ te)) (fun _ hS=>load1 3 _ ⟨B,1,none⟩ _ rfl rfl (fun _=>by kernel_rfl) (hS.get (mT _ mS) 1 _ rfl)) (M.sub _ (List.cons_sublist_cons.2 (List.cons_sublist_cons.2 (List.nil_sublist _)))) ?_
      refine xrH 13 58 rfl (.pointer (some ⟨R,0,none⟩)) (fun _ hS=>(by kernel_rfl)) (M.sub _ (List.cons_sublist_cons.2 (List.cons_sublist_cons.2 (List.nil_sublist _)))) ?_; refine xrH 14 59 rfl (.pointer (some ⟨R,0,none⟩)) (fun _ hS=>(by kernel_rfl)) (M.sub _ (List.cons_sublist_cons.2 (List.cons_sublist_cons.2 (List.nil_sublist _)))) ?_
      refine xrH 15 60 rfl (.pointer (some ⟨R,1,none⟩)) (fun _ hS=>(by kernel_rfl)) (M.sub _ (List.cons_sublist_cons.2 (List.cons_sublist_cons.2 (List.nil_sublist _)))) ?_
      refine xrH 16 61 rfl (.int .i64 ((x.dn:Nat):Int)) (fun _ hS=>load1 3 _ ⟨R,1,none⟩ _ rfl rfl (fun _=>by kernel_rfl) (hS.get mS 1 _ rfl)) (M.sub _ (List.cons_sublist_cons.2 (List.cons_sublist_cons.2 (List.nil_sublist _)))) ?_
      refine xrH 17 62 rfl (.int .i64 ((((rgT C q_ te).toNat-x.dn):Nat):Int)) (fun _ hS=>subI .i64 _ _ _ _ _ _ _ rfl rfl rfl (by rw [xw6]; omega) _) (M.sub _ (List.cons_sublist_cons.2 (List.cons_sublist_cons.2 (List.nil_sublist _)))) ?_
      refine xrH 18 63 rfl (.slice (slc p5 c5 ((rgF C q_ te).toNat-x.dn)) (((rgT C q_ te).toNat-x.dn)-((rgF C q_ te).toNat-x.dn)) (c5-((rgF C q_ te).toNat-x.dn))) (fun _ hS=>cutLHop 28 _ _ _ _ _ _ _ rfl rfl rfl rfl (slc_run2 (P:=Try.prog) (t:=28) Try.underlying28 (fun _=>by kernel_rfl) p5 (max nb' ((rgT C q_ te).toNat-x.dn)) c5 ((rgF C q_ te).toNat-x.dn) ((rgT C q_ te).toNat-x.dn) (by omega) (by omega) hle_ _)) (M.sub _ (List.cons_sublist_cons.2 (List.cons_sublist_cons.2 (List.nil_sublist _)))) ?_
      refine xrH 19 64 rfl (.slice sp b.length cap) (fun _ hS=>(by kernel_rfl)) (M.sub _ (List.cons_sublist_cons.2 (List.cons_sublist_cons.2 (List.nil_sublist _)))) ?_; refine xrH 20 65 rfl (.pointer (some ⟨B,0,none⟩)) (fun _ hS=>(by kernel_rfl)) (M.sub _ (List.cons_sublist_cons.2 (List.cons_sublist_cons.2 (List.nil_sublist _)))) ?_
      refine xrH 21 66 rfl (.int .i64 (rgF C q_ te)) (fun _ hS=>load1 3 _ ⟨B,0,none⟩ _ rfl rfl (fun _=>by kernel_rfl) (hS.get (mT _ mS) 0 _ rfl)) (M.sub _ (List.cons_sublist_cons.2 (List.cons_sublist_cons.2 (List.nil_sublist _)))) ?_; refine xrH 22 67 rfl (.int .i64 p) (fun _ hS=>(by kernel_rfl)) (M.sub _ (List.cons_sublist_cons.2 (List.cons_sublist_cons.2 (List.nil_sublist _)))) ?_
      refine xrH 23 68 rfl (.int .i64 ((((rgF C q_ te).toNat-p.toNat):Nat):Int)) (fun _ hS=>subI .i64 _ _ _ _ _ _ _ rfl rfl rfl (by rw [xw6]; omega) _) (M.sub _ (List.cons_sublist_cons.2 (List.cons_sublist_cons.2 (List.nil_sublist _)))) ?_
      refine xrH 24 69 rfl (.slice spc (b.length-((rgF C q_ te).toNat-p.toNat)) (cap-((rgF C q_ te).toNat-p.toNat))) (fun _ hS=>cutOp 28 _ _ _ _ _ rfl rfl rfl (hcut _)) (M.sub _ (List.cons_sublist_cons.2 (List.cons_sublist_cons.2 (List.nil_sublist _)))) ?_
      obtain ⟨w7,hr_,W2,hgr⟩:=run_copy_Wnd (P:=Try.prog) 28 28 28 5 Try.underlying28 (by kernel_rfl) W_b ((rgF C q_ te).toNat-x.dn) (((rgT C q_ te).toNat-x.dn)-((rgF C q_ te).toNat-x.dn)) (c5-((rgF C q_ te).toNat-x.dn)) (b.length-((rgF C q_ te).toNat-p.toNat)) (cap-((rgF C q_ te).toNat-p.toNat)) (fun j=>bl b (((rgF C q_ te).toNat-p.toNat)+j)) spc (by omega) (by omega) (by omega) (fun j_ hj_=>hsrc _ _ (hsa.off OF).1 j_ (by omega))
      have Mp:=M.perm (pull1 ([(R,[.int .i64 s,.int .i64 ((x.dn:Nat):Int),.slice p5 (max nb' ((rgT C q_ te).toNat-x.dn)) c5,.slice sc C.length cc]),(B,[.int .i64 (rgF C q_ te),.int .i64 (rgT C q_ te)])]:List (Nat × List Value)) (obs sc) (obs p5) l); have ho:=Off.rep18 (Off.refl (ob p5) w6) hgr (fun _ hb_=>.inl hb_)
      replace V_c:=ownsRow_away V_c ho (Mp.awayO (fun p_ hp_=>by simp [hp_])); replace OF:=OF.rep18 hgr L_b; have M2:=Mp.rep18 (sq:=p5) hgr W2.lt (fun _ hb_=>.inl hb_); clear M Mp ho hgr W_b; have W_b:=W2; clear W2
      have M:Mm w0 ((R,[.int .i64 s,.int .i64 ((x.dn:Nat):Int),.slice p5 (max nb' ((rgT C q_ te).toNat-x.dn)) c5,.slice sc C.length cc])::(B,[.int .i64 (rgF C q_ te),.int .i64 (rgT C q_ te)])::((obs sc)++((obs p5)++l))) w7:=M2.perm (pull1 ([(R,[.int .i64 s,.int .i64 ((x.dn:Nat):Int),.slice p5 (max nb' ((rgT C q_ te).toNat-x.dn)) c5,.slice sc C.length cc]),(B,[.int .i64 (rgF C q_ te),.int .i64 (rgT C q_ te)])]:List (Nat × List Value)) (obs sc) (obs p5) l).symm
      clear M2; refine onlyH (i:=25) (some 70) rfl (.int .i64 ((((rgT C q_ te).toNat-x.dn)-((rgF C q_ te).toNat-x.dn):Nat):Int)) (by kernel_rfl) rfl rfl (copyOp17 _ _ 28 28 _ _ _ rfl rfl rfl (ty:=28) hr_) (M.sub _ (List.cons_sublist_cons.2 (List.cons_sublist_cons.2 (List.nil_sublist _)))) ?_; simp only [aP,lI,l0,lS]; clear hr_
      refine wpAnyH_done (by kernel_rfl) ?_ _
      first | show Exit.then _ _ _ _ _ | show Exit.inBlock _ _ _ _ _
      replace W_b:=W_b.congr (z:=tkf x p b (rgT C q_ te)) (fun j_ _=>by
       rw [tkf_step (bs:=b) hr hw (by omega) htl hdn htk.out hb j_]
       by_cases c_:((rgF C q_ te).toNat-x.dn)≤j_∧j_<((rgT C q_ te).toNat-x.dn)
       · rw [if_pos c_,if_pos (by omega),show ((rgF C q_ te).toNat-p.toNat)+(j_-((rgF C q_ te).toNat-x.dn))=x.dn+j_-p.toNat by omega]
       · rw [if_neg c_,if_neg (by omega)])
      clear hsrc hcut; go_upto_region 9 with fail; refine wp_region_list ?_; refine xaL (.agg #[.int .i64 (rgF C q_ te),.int .i64 (rgT C q_ te)]) (loadN 44 _ ⟨B,0,none⟩ [.int .i64 (rgF C q_ te),.int .i64 (rgT C q_ te)] rfl rfl (fun _=>by kernel_rfl) (fun _=>by kernel_rfl) (M.rangeAt (mT _ mS))) ?_; refine xT ?_; go_upto_region 10 with fail; refine wp_region_list ?_
      have hlb:=(Below.refl w7.heap.size w7).alloc (xnR _) (.cells #[.int .i64 0,.int .i64 0] 44); refine actL (w':=w7.alloc (.cells #[.int .i64 0,.int .i64 0] 44)) (.pointer (some ⟨w7.heap.size,0,none⟩)) rfl (by kernel_rfl) ?_; simp only [aP,lI,l0,lS]; have hB_:=OF.size; replace V_c:=ownsRow_bel V_c hlb; replace W_b:=W_b.bel hlb; replace OF:=OF.below hlb
      replace M:=M.box #[.int .i64 0,.int .i64 0] 44 w7.heap.size rfl; clear hlb; generalize w7.alloc (.cells #[.int .i64 0,.int .i64 0] 44)=w8 at M V_c W_b OF ⊢; generalize eB_:w7.heap.size=B8 at M ⊢
      have hB_B8:w.heap.size≤B8:=by rw [← eB_]; exact hB_
      clear hB_ eB_
      replace M:Mm w0 ((B8,[.int .i64 0,.int .i64 0])::(R,[.int .i64 s,.int .i64 ((x.dn:Nat):Int),.slice p5 (max nb' ((rgT C q_ te).toNat-x.dn)) c5,.slice sc C.length cc])::(B,[.int .i64 (rgF C q_ te),.int .i64 (rgT C q_ te)])::((obs sc)++((obs p5)++l))) w8:=M
      refine skipOpL rfl (storeP [.int .i64 (rgF C q_ te),.int .i64 (rgT C q_ te)] B8 0 44 _ _ rfl rfl rfl (M.thereP mS 0 2 (Nat.le_of_ble_eq_true rfl)) (by kernel_rfl) (List.all_eq_true.1 (rfl:([.int .i64 (rgF C q_ te),.int .i64 (rgT C q_ te)]:List Value).all (fun u=>u.oneCell')=true))) ?_; simp only [Act.put]
      replace M:=M.setPart [.int .i64 (rgF C q_ te),.int .i64 (rgT C q_ te)] 0 (Nat.le_of_ble_eq_true rfl); replace V_c:=ownsRow_away V_c ((Off.refl [B8] _).setAll (b:=B8) mS 0 [.int .i64 (rgF C q_ te),.int .i64 (rgT C q_ te)]) (fun b_ hb_=>by obtain rfl:=xm1 hb_; exact M.awayB (fun p_ hp_=>by simp [hp_]))
      replace W_b:=W_b.off ((Off.refl [B8] _).setAll (b:=B8) mS 0 [.int .i64 (rgF C q_ te),.int .i64 (rgT C q_ te)]) (fun b_ hb_=>by obtain rfl:=xm1 hb_; exact M.awayB (fun p_ hp_=>by simp [hp_])); replace OF:=OF.and1 ((Off.refl [B8] _).setAll (b:=B8) mS 0 [.int .i64 (rgF C q_ te),.int .i64 (rgT C q_ te)]) (.inr hB_B8)
      generalize w8.setCells B8 0 [.int .i64 (rgF C q_ te),.int .i64 (rgT C q_ te)]=w9 at M V_c W_b OF L_c L_b ⊢
      replace M:Mm w0 ((B8,[.int .i64 (rgF C q_ te),.int .i64 (rgT C q_ te)])::(R,[.int .i64 s,.int .i64 ((x.dn:Nat):Int),.slice p5 (max nb' ((rgT C q_ te).toNat-x.dn)) c5,.slice sc C.length cc])::(B,[.int .i64 (rgF C q_ te),.int .i64 (rgT C q_ te)])::((obs sc)++((obs p5)++l))) w9:=M
      refine xT ?_; go_upto_region 6 with fail; have hdr:=(Below.refl w9.heap.size w9).drew; replace M:=M.drew; replace V_c:=ownsRow_bel V_c hdr; replace W_b:=W_b.bel hdr; replace OF:=OF.below hdr; clear hdr
      refine wp_region_C (S:=fun w'=>Mm w0 [(B8,[.int .i64 (rgF C q_ te),.int .i64 (rgT C q_ te)]),(R,[.int .i64 s,.int .i64 ((x.dn:Nat):Int),.slice p5 (max nb' ((rgT C q_ te).toNat-x.dn)) c5,.slice sc C.length cc]),(B,[.int .i64 (rgF C q_ te),.int .i64 (rgT C q_ te)])] w') 10 (by kernel_rfl) (M.sub _ (List.cons_sublist_cons.2 (List.cons_sublist_cons.2 (List.cons_sublist_cons.2 (List.nil_sublist _))))) ?_
      intro _; generalize w9.drew=w10 at M V_c W_b OF ⊢; refine readC (i:=0) (some 32) rfl (.pointer (some ⟨R,0,none⟩)) rfl rfl (by kernel_rfl) rfl (fun _ hS=>(by kernel_rfl)) (by kernel_rfl) (by kernel_rfl) (by kernel_rfl) (by kernel_rfl) (fun _ _ _ h=>h) (M.sub _ (List.cons_sublist_cons.2 (List.cons_sublist_cons.2 (List.cons_sublist_cons.2 (List.nil_sublist _))))) ?_
      simp only [aP,lI,l0,lS]; refine readC (i:=1) (some 33) rfl (.pointer (some ⟨R,0,none⟩)) rfl rfl (by kernel_rfl) rfl (fun _ hS=>(by kernel_rfl)) (by kernel_rfl) (by kernel_rfl) (by kernel_rfl) (by kernel_rfl) (fun _ _ _ h=>h) (M.sub _ (List.cons_sublist_cons.2 (List.cons_sublist_cons.2 (List.cons_sublist_cons.2 (List.nil_sublist _))))) ?_; simp only [aP,lI,l0,lS]
      refine readC (i:=2) (some 34) rfl (.pointer (some ⟨R,3,none⟩)) rfl rfl (by kernel_rfl) rfl (fun _ hS=>(by kernel_rfl)) (by kernel_rfl) (by kernel_rfl) (by kernel_rfl) (by kernel_rfl) (fun _ _ _ h=>h) (M.sub _ (List.cons_sublist_cons.2 (List.cons_sublist_cons.2 (List.cons_sublist_cons.2 (List.nil_sublist _))))) ?_; simp only [aP,lI,l0,lS]
      refine readC (i:=3) (some 35) rfl (.pointer (some ⟨B8,1,none⟩)) rfl rfl (by kernel_rfl) rfl (fun _ hS=>(by kernel_rfl)) (by kernel_rfl) (by kernel_rfl) (by kernel_rfl) (by kernel_rfl) (fun _ _ _ h=>h) (M.sub _ (List.cons_sublist_cons.2 (List.cons_sublist_cons.2 (List.cons_sublist_cons.2 (List.nil_sublist _))))) ?_; simp only [aP,lI,l0,lS]
      refine readC (i:=4) (some 36) rfl (.int .i64 (rgT C q_ te)) rfl rfl (by kernel_rfl) rfl (fun _ hS=>load1 3 _ ⟨B8,1,none⟩ _ rfl rfl (fun _=>by kernel_rfl) (hS.get mS 1 _ rfl)) (by kernel_rfl) (by kernel_rfl) (by kernel_rfl) (by kernel_rfl) (fun _ _ _ h=>h) (M.sub _ (List.cons_sublist_cons.2 (List.cons_sublist_cons.2 (List.cons_sublist_cons.2 (List.nil_sublist _))))) ?_
      simp only [aP,lI,l0,lS]; refine readC (i:=5) (some 37) rfl (.int .i64 te) rfl rfl (by kernel_rfl) rfl (fun _ hS=>(by kernel_rfl)) (by kernel_rfl) (by kernel_rfl) (by kernel_rfl) (by kernel_rfl) (fun _ _ _ h=>h) (M.sub _ (List.cons_sublist_cons.2 (List.cons_sublist_cons.2 (List.cons_sublist_cons.2 (List.nil_sublist _))))) ?_; simp only [aP,lI,l0,lS]
      have key:=vgap_any R 3 sc cc C hr.can hlc (rgT C q_ te) te _ (M.get (mT _ mS) 3 _ rfl) (NewW.ofOwn V_c); refine callMC (i:=6) (some 38) rfl (by kernel_rfl) rfl rfl (fun _=>by kernel_rfl) key ?_; clear key; rintro e w11 ⟨rfl,l_⟩; replace M:=M.call l_; replace V_c:=ownsRow_bel V_c l_; replace W_b:=W_b.bel l_; replace OF:=OF.below l_; clear l_
      refine ⟨_,rfl,(M.sub _ (List.cons_sublist_cons.2 (List.cons_sublist_cons.2 (List.cons_sublist_cons.2 (List.nil_sublist _))))),?_⟩
      simp only [aP,lI,l0,lS]
      refine readC (i:=7) (some 31) rfl (.tuple #[.agg #[.int .i64 (rgF C (rgT C q_ te) te),.int .i64 (rgT C (rgT C q_ te) te)],.bool (rgB C (rgT C q_ te) te)]) rfl rfl (by kernel_rfl) rfl (fun _ hS=>(by kernel_rfl)) (by kernel_rfl) (by kernel_rfl) (by kernel_rfl) (by kernel_rfl) (fun _ _ _ h=>h) (M.sub _ (List.cons_sublist_cons.2 (List.cons_sublist_cons.2 (List.cons_sublist_cons.2 (List.nil_sublist _))))) ?_
      simp only [aP,lI,l0,lS]
      refine readC (i:=8) (some 39) rfl (.agg #[.int .i64 (rgF C (rgT C q_ te) te),.int .i64 (rgT C (rgT C q_ te) te)]) rfl rfl (by kernel_rfl) rfl (fun _ hS=>(by kernel_rfl)) (by kernel_rfl) (by kernel_rfl) (by kernel_rfl) (by kernel_rfl) (fun _ _ _ h=>h) (M.sub _ (List.cons_sublist_cons.2 (List.cons_sublist_cons.2 (List.cons_sublist_cons.2 (List.nil_sublist _))))) ?_
      simp only [aP,lI,l0,lS]; refine xqC 9 40 rfl (.bool (rgB C (rgT C q_ te) te)) (fun _=>(by kernel_rfl)) (M.sub _ (List.cons_sublist_cons.2 (List.cons_sublist_cons.2 (List.cons_sublist_cons.2 (List.nil_sublist _))))) ?_
      refine skipC (S2:=fun _=>True) none rfl (by kernel_rfl) rfl rfl (storeP [.int .i64 (rgF C (rgT C q_ te) te),.int .i64 (rgT C (rgT C q_ te) te)] B8 0 44 _ _ rfl rfl rfl (M.thereP mS 0 2 (Nat.le_of_ble_eq_true rfl)) (by kernel_rfl) (List.all_eq_true.1 (rfl:([.int .i64 (rgF C (rgT C q_ te) te),.int .i64 (rgT C (rgT C q_ te) te)]:List Value).all (fun u=>u.oneCell')=true))) (by kernel_rfl) ?_
      simp only [Act.put]; replace M:=M.setPart [.int .i64 (rgF C (rgT C q_ te) te),.int .i64 (rgT C (rgT C q_ te) te)] 0 (Nat.le_of_ble_eq_true rfl); replace V_c:=ownsRow_away V_c ((Off.refl [B8] _).setAll (b:=B8) mS 0 [.int .i64 (rgF C (rgT C q_ te) te),.int .i64 (rgT C (rgT C q_ te) te)]) (fun b_ hb_=>by obtain rfl:=xm1 hb_; exact M.awayB (fun p_ hp_=>by simp [hp_]))
      replace W_b:=W_b.off ((Off.refl [B8] _).setAll (b:=B8) mS 0 [.int .i64 (rgF C (rgT C q_ te) te),.int .i64 (rgT C (rgT C q_ te) te)]) (fun b_ hb_=>by obtain rfl:=xm1 hb_; exact M.awayB (fun p_ hp_=>by simp [hp_])); replace OF:=OF.and1 ((Off.refl [B8] _).setAll (b:=B8) mS 0 [.int .i64 (rgF C (rgT C q_ te) te),.int .i64 (rgT C (rgT C q_ te) te)]) (.inr hB_B8)
      generalize w11.setCells B8 0 [.int .i64 (rgF C (rgT C q_ te) te),.int .i64 (rgT C (rgT C q_ te) te)]=w12 at M V_c W_b OF ⊢
      replace M:Mm w0 ((B8,[.int .i64 (rgF C (rgT C q_ te) te),.int .i64 (rgT C (rgT C q_ te) te)])::(R,[.int .i64 s,.int .i64 ((x.dn:Nat):Int),.slice p5 (max nb' ((rgT C q_ te).toNat-x.dn)) c5,.slice sc C.length cc])::(B,[.int .i64 (rgF C q_ te),.int .i64 (rgT C q_ te)])::((obs sc)++((obs p5)++l))) w12:=M
      refine xrH 11 9 rfl (.bool (rgB C (rgT C q_ te) te)) (fun _ _=>(by kernel_rfl)) trivial ?_
      refine wpAnyH_done (by kernel_rfl) ?_ _
      first | show Exit.then _ _ _ _ _ | show Exit.inBlock _ _ _ _ _
      replace M:=M.swap; replace M:=M.swap
      replace M:Mm w0 ((B8,[.int .i64 (rgF C (rgT C q_ te) te),.int .i64 (rgT C (rgT C q_ te) te)])::(R,[.int .i64 s,.int .i64 ((x.dn:Nat):Int),.slice p5 (max nb' ((rgT C q_ te).toNat-x.dn)) c5,.slice sc C.length cc])::((obs sc)++((obs p5)++l))) w12:=M.sub _ (List.cons_sublist_cons.2 (List.cons_sublist_cons.2 (List.Sublist.cons _ ((List.Sublist.refl _).append ((List.Sublist.refl _).append (List.Sublist.refl _))))))
      replace M:Mm w0 ((B8,[.int .i64 (rgF C (rgT C q_ te) te),.int .i64 (rgT C (rgT C q_ te) te)])::(R,[.int .i64 s,.int .i64 ((x.dn:Nat):Int),.slice p5 (max nb' ((rgT C q_ te).toNat-x.dn)) c5,.slice sc C.length cc])::((obs sc)++((obs p5)++l))) w12:=M
      have hlo2:=show Hid _ from TkI.step hr hw (by omega) htl hdn htk.out hb; have hg4_:=gap18 hr.can (rgT C q_ te) te
      have hms2:gapT w12 (.pointer (some ⟨B8,0,none⟩))=rgT C (rgT C q_ te) te:=gapT_is (M.get mS 1 _ rfl)
      have HS:=show Hid _ from (And.intro hB_B8 (show Mm w0 ((B8,[.int .i64 (rgF C (rgT C q_ te) te),.int .i64 (rgT C (rgT C q_ te) te)])::(R,[.int .i64 s,.int .i64 ((x.dn:Nat):Int),.slice p5 (max nb' ((rgT C q_ te).toNat-x.dn)) c5,.slice sc C.length cc])::((obs sc)++((obs p5)++l))) w12∧Wnd w12 p5 (max nb' ((rgT C q_ te).toNat-x.dn)) c5 (tkf x p b (rgT C q_ te))∧w12.ownsRow 0 44 2 (.slice sc C.length cc) C.length (wrc C)∧Off XS w w12∧Lies XS w p5 from ⟨M,W_b,V_c,OF,L_b⟩))
      have hme:=show Hid _ from (show (if boolOf (.bool (rgB C (rgT C q_ te) te))=true then (4611686018427387905-gapT w12 (.pointer (some ⟨B8,0,none⟩))).toNat else 0)<(4611686018427387905-gapT wr (.pointer (some ⟨B,0,none⟩))).toNat by
       rw [hms,hms2]
       rcases hg4_ with ⟨h1_,_⟩ | ⟨h1_,h2_,h3_,h4_,_⟩
       · rw [h1_]
         show (0:Nat)<_
         omega
       · rw [h1_]
         show (4611686018427387905-rgT C (rgT C q_ te) te).toNat<_
         unfold rlo at h2_
         omega)
      clear M W_b V_c OF L_b hms hms2 hg1 hg2 hg3 hg4 hg4_ htk; go_wp2
      go_roundw
      case rel=>exact ⟨_,(rgT C q_ te),(max nb' ((rgT C q_ te).toNat-x.dn)),_,_,rfl,rfl,hlo2,HS.out⟩
      case measure=>first | exact hme.out | (have:=hme.out; simpa [boolOf] using this)
    | false =>
      go_upto_region 5 with fail; refine wp_region_list ?_; refine xpL (.bool false) ?_; refine xT ?_; replace M:=M.swap
      replace M:Mm w0 ((R,[.int .i64 s,.int .i64 ((x.dn:Nat):Int),.slice sb' nb' cb',.slice sc C.length cc])::((obs sc)++((obs sb')++l))) wr:=M.sub _ (List.cons_sublist_cons.2 (List.Sublist.cons _ ((List.Sublist.refl _).append ((List.Sublist.refl _).append (List.Sublist.refl _)))))
      have hOR:=IRel.take (bs:=b) hr hw (by omega) hto.out hdn htk.out hb; have hNN:=show Hid _ from hr.takeN hw hOR hbb; replace W_b:=W_b.congr (z:=fun j=>(itk x p b).b (x.dn+j)) (fun j_ _=>tkf_done hr hw (by omega) hto.out hdn htk.out hb j_); go_upto_region 11 with fail; refine wp_region_list ?_; refine xpL (.pointer (some ⟨R,0,none⟩)) ?_
      refine xpL (.pointer (some ⟨R,0,none⟩)) ?_; refine xpL (.pointer (some ⟨R,3,none⟩)) ?_; refine xpL (.int .i64 p) ?_; refine xpL (.int .i64 te) ?_
      have Mq:Mm w0 ((R,[.int .i64 s,.int .i64 ((x.dn:Nat):Int),.slice sb' nb' cb',.slice sc C.length cc])::((obs sc)++(([]:List (Nat × List Value))++((obs sb')++l)))) wr:=(M.perm (pull0 ([(R,[.int .i64 s,.int .i64 ((x.dn:Nat):Int),.slice sb' nb' cb',.slice sc C.length cc])]:List (Nat × List Value)) (obs sc) ((obs sb')++l))).perm List.perm_middle
      have key:=vadd_any w0 _ R 3 sc cc C _ hr.can hlc p te Mq rfl V_c; refine xcL key ?_; clear key; rintro e w13 ⟨p13,c13,rfl,M2,V2,o2,hLs⟩; replace W_b:=W_b.off o2 (Mq.awayRO (fun p_ hp_=>by simp [hp_])); have hsz_:=OF.size; replace OF:=OF.andR o2 hRX L_c; have L2_:=L_c.rep hLs hsz_; clear M Mq V_c L_c o2 hLs hsz_; have V_c:=V2; have L_c:=L2_; clear V2 L2_
      replace M2:Mm w0 ((R,[.int .i64 s,.int .i64 ((x.dn:Nat):Int),.slice sb' nb' cb',.slice p13 ((rad C p te).length) c13])::((obs p13)++(([]:List (Nat × List Value))++((obs sb')++l)))) w13:=M2
      have M:Mm w0 ((R,[.int .i64 s,.int .i64 ((x.dn:Nat):Int),.slice sb' nb' cb',.slice p13 ((rad C p te).length) c13])::((obs p13)++((obs sb')++l))) w13:=(M2.perm List.perm_middle.symm).perm (pull0 ([(R,[.int .i64 s,.int .i64 ((x.dn:Nat):Int),.slice sb' nb' cb',.slice p13 ((rad C p te).length) c13])]:List (Nat × List Value)) (obs p13) ((obs sb')++l)).symm
      clear M2; refine xeL ?_; refine xpL (.int .i64 (radN C p te)) ?_; refine xT ?_
      rw [hXS] at OF
      have HS:=show Hid _ from (And.intro hOR (And.intro M (And.intro W_b (And.intro V_c OF)))); clear M W_b V_c OF L_b L_c hOR htk; go_wp2; go_ret
      rw [← hNN.out]
      first | exact ⟨_,_,_,_,_,_,rfl,HS.out⟩ | exact ⟨rfl,_,_,_,_,_,_,HS.out⟩
section
theorem wrc_two:∀ (a:Rgs17) (p:Int × Int),wrc (a++[p])=wrc a++[.int .i64 p.1,.int .i64 p.2]
 | [],_=>rfl
 | q::a,p=>by show _::_::wrc (a++[p])=_; rw [wrc_two a p]; rfl
section
variable {p:Nat→Bool} {i:Nat}
end
theorem NewW.upL {w w1:World} {base:Nat} {l:Rgs17} {sp:Option Addr} {cap:Nat} (h:NewW w base l (.slice sp l.length cap)) (hl:Lies [] w1 sp):NewW w w1.heap.size l (.slice sp l.length cap):=by
 obtain ⟨sp',cap',hv,hc,hn,hs,ha⟩:=h
 injection hv with h1 _ h3
 subst h1; subst h3
 refine ⟨sp,cap,rfl,hc,hn,hs,fun a e=>⟨?_,(ha a e).2⟩⟩
 subst e
 rcases hl a.block mS with h | h
 · cases h
 · exact h
theorem NewW.ofOwn19 {w:World} {base:Nat} {rl:Rgs17} {so:Option Addr} {co:Nat} (h:w.ownsRow base 44 2 (.slice so rl.length co) rl.length (wrc rl)):NewW w base rl (.slice so rl.length co):=by
 rcases h.2 with ⟨e,h0⟩ | ⟨g,cap,cur,e,hb,hgg,hc,_⟩
 · injection e with e1 e2 e3
   subst e1 e3
   obtain rfl:=List.eq_nil_of_length_eq_zero h0
   exact ⟨none,0,rfl,xnR _,fun _=>rfl,fun j u hu=>(by cases hu),fun a e=>(by cases e)⟩
 · injection e with e1 e2 e3
   subst e1 e3
   refine ⟨some ⟨g,0,none⟩,co,rfl,hc,fun e=>(by cases e),fun j u hu=>⟨_,rfl,World.ownsRow.cells h (g:=g) rfl j u hu⟩,fun a e=>?_⟩
   cases e
   exact World.ownsRow.lt h g rfl
end
end Go.Proofs.Ytcjahbdlaojnoaa
