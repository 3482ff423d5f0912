/- Texts of Tw Nm No, joined. -/
import Derived.Test.YtpdpfdelglgfnaaP6OutboxArrives
set_option maxRecDepth 20000
set_option maxHeartbeats 64000000
namespace Go.Proofs.Ytpdpfdelglgfnaa
open Go.RowKit
theorem vnext_any (R ro:Nat) (sp:Option Addr) (cap:Nat) (L:Rgs17) (hc:Can L) (hln:L.length<1000000) (n:Int) (w:World) (hR:w.cell? ⟨R,ro,none⟩=some (.slice sp L.length cap)) (N:NewW w 0 L (.slice sp L.length cap)) :
 Calls Try.prog 39 #[.pointer (some ⟨R,ro,none⟩),.int .i64 n] w fun e w'=>e=.returned (.int .i64 (rnxt L n))∧Below w.heap.size w w':=by
 have M:=Mm.init w
 go_enter Try.func39,Try.ntmps39
 go_upto_region 0 with fail; refine wp_region_list ?_; refine actL (w':=w.alloc (.cells #[.int .i64 n] 3)) (.pointer (some ⟨w.heap.size,0,none⟩)) rfl (by kernel_rfl) ?_; simp only [aP,lI,l0,lS]
 have hB_B1:w.heap.size≤w.heap.size:=M.below.size
 replace M:=M.box #[.int .i64 n] 3 w.heap.size rfl; generalize w.alloc (.cells #[.int .i64 n] 3)=w1 at M  ⊢; generalize eB:w.heap.size=B1 at M hB_B1  ⊢
 have hE_B1:w.heap.size≤B1:=Nat.le_of_eq eB
 have hF_B1:B1≤w.heap.size:=Nat.le_of_eq eB.symm
 clear eB
 replace M:Mm w ((B1,[.int .i64 n])::([]:List (Nat × List Value))) w1:=M
 refine xpL (.int .i64 0) ?_; refine xT ?_; go_upto_region 1 with fail; refine wp_region_list ?_; refine xaL (.int .i64 n) (load1 3 _ ⟨B1,0,none⟩ _ rfl rfl (fun _=>by kernel_rfl) (M.get mS 0 _ rfl)) ?_; refine xaL (.int .i64 (max n 0)) (maxI .i64 .i64 _ _ _ _ _ _ _ rfl rfl rfl (by split <;> omega) _) ?_
 refine skipOpL rfl (storeAny (.int .i64 (max n 0)) B1 0 3 _ _ rfl rfl rfl rfl rfl (M.isSome mS 0 (by simp)) (M.free mS 0 (by simp)) (by kernel_rfl)) ?_; simp only [Act.put]; replace M:=M.set 0 (by simp) (.int .i64 (max n 0)); generalize w1.setCell ⟨B1,0,none⟩ (.int .i64 (max n 0))=w2 at M  ⊢
 replace M:Mm w ((B1,[.int .i64 (max n 0)])::([]:List (Nat × List Value))) w2:=M
 refine xT ?_; go_upto_region 2 with fail; refine wp_region_list ?_; refine xpL (.pointer (some ⟨R,ro,none⟩)) ?_; refine xpL (.func (.func 49) #[] #[.pointer (some ⟨B1,0,none⟩)]) ?_
 have key:=vfirst_any 49 B1 R ro (fun x=>decide (x.2>max n 0)) sp cap L hln (hc.mono fun x y _ _ _ h=>by simp only [decide_eq_true_eq] at h ⊢; omega) _ ⟨by simp,fun w' l x=>vc_next x B1 _ w' (cellT l (M.get mS 0 _ rfl))⟩ (cellT M.below hR) (NewW.below N M.below); refine xcL key ?_; clear key; rintro e w3 ⟨i,rfl,hA,l⟩; replace M:=M.call l; clear l; refine xeL ?_
 refine xpL (.int .i64 ((i:Nat):Int)) ?_; refine xT ?_
 by_cases hi:i<L.length
 · obtain ⟨p,hp⟩:∃ p,L[i]?=some p:=⟨_,List.getElem?_eq_getElem (by omega)⟩
   obtain ⟨adr,hadr,_,_⟩:=NewW.at N hp
   have NA:=N
   rw [hadr] at NA
   have hRA:=hR
   rw [hadr] at hRA
   clear hadr
   by_cases hle:p.1≤max n 0
   · go_upto_region 3 with fail
     refine wp_region_held_drew (S:=fun w'=>Mm w ((B1,[.int .i64 (max n 0)])::([]:List (Nat × List Value))) w') (by kernel_rfl) M.drew ?_; intro _; replace M:=M.drew; have hdr:=(Below.refl w3.heap.size w3).drew; clear hdr; generalize w3.drew=w5 at M  ⊢; refine xrH 0 11 rfl (.int .i64 ((i:Nat):Int)) (fun _ hS=>(by kernel_rfl)) M ?_
     refine xrH 1 12 rfl (.pointer (some ⟨R,ro,none⟩)) (fun _ hS=>(by kernel_rfl)) M ?_; refine xrH 2 13 rfl (.pointer (some ⟨R,ro,none⟩)) (fun _ hS=>(by kernel_rfl)) M ?_; refine xrH 3 14 rfl (.pointer (some ⟨R,ro,none⟩)) (fun _ hS=>(by kernel_rfl)) M ?_
     refine xrH 4 15 rfl (.slice (some adr) L.length cap) (fun _ hS=>load1 29 _ ⟨R,ro,none⟩ _ rfl rfl (fun _=>by kernel_rfl) (cellT hS.below hRA)) M ?_; refine xrH 5 16 rfl (.int .i64 ((L.length:Nat):Int)) (fun _ hS=>lenS _ 29 49 (some adr) L.length cap rfl Try.underlying29 rfl _) M ?_
     refine xrH 6 17 rfl (.bool true) (fun _ hS=>lssI .i64 _ _ _ _ _ _ rfl rfl rfl true (decide_eq_true (by omega)) _) M ?_; refine xrH 7 18 rfl (.bool true) (fun _ hS=>(by kernel_rfl)) M ?_; refine xrH 8 19 rfl (.pointer (some ⟨R,ro,none⟩)) (fun _ hS=>(by kernel_rfl)) M ?_; refine xrH 9 20 rfl (.pointer (some ⟨R,ro,none⟩)) (fun _ hS=>(by kernel_rfl)) M ?_
     refine xrH 10 21 rfl (.pointer (some ⟨R,ro,none⟩)) (fun _ hS=>(by kernel_rfl)) M ?_; refine xrH 11 22 rfl (.slice (some adr) L.length cap) (fun _ hS=>load1 29 _ ⟨R,ro,none⟩ _ rfl rfl (fun _=>by kernel_rfl) (cellT hS.below hRA)) M ?_; refine xrH 12 23 rfl (.int .i64 ((i:Nat):Int)) (fun _ hS=>(by kernel_rfl)) M ?_
     refine xrH 13 24 rfl (.pointer (some (adr.add (i*2)))) (fun _ hS=>idxR2 adr _ _ i hi _ _ rfl rfl rfl _) M ?_; refine xrH 14 25 rfl (.pointer (some ((adr.add (i*2)).add 0))) (fun _ hS=>(by kernel_rfl)) M ?_; refine xrH 15 26 rfl (.int .i64 p.1) (fun _ hS=>load1 3 _ ((adr.add (i*2)).add 0) _ rfl rfl (fun _=>by kernel_rfl) (NewW.rng (NewW.below NA hS.below) hp 0 _ rfl)) M ?_
     refine xrH 16 27 rfl (.int .i64 (max n 0)) (fun _ hS=>load1 3 _ ⟨B1,0,none⟩ _ rfl rfl (fun _=>by kernel_rfl) (hS.get mS 0 _ rfl)) M ?_; refine xrH 17 28 rfl (.bool true) (fun _ hS=>leqI .i64 _ _ _ _ _ _ rfl rfl rfl true (decide_eq_true (by omega)) _) M ?_; refine xrH 18 29 rfl (.bool true) (fun _ hS=>(by kernel_rfl)) M ?_
     refine wpAnyH_done (by kernel_rfl) ?_ _
     first | show Exit.then _ _ _ _ _ | show Exit.inBlock _ _ _ _ _
     go_upto_region 4 with fail; refine wp_region_list ?_; refine xpL (.pointer (some ⟨R,ro,none⟩)) ?_; refine xpL (.pointer (some ⟨R,ro,none⟩)) ?_; refine xpL (.pointer (some ⟨R,ro,none⟩)) ?_; refine xaL (.slice (some adr) L.length cap) (load1 29 _ ⟨R,ro,none⟩ _ rfl rfl (fun _=>by kernel_rfl) (cellT M.below hRA)) ?_; refine xpL (.int .i64 ((i:Nat):Int)) ?_
     refine readL (.pointer (some (adr.add (i*2)))) rfl (idxR2 adr _ _ i hi _ _ rfl rfl rfl _) ?_; simp only [aP,lI,l0,lS]; refine xpL (.pointer (some ((adr.add (i*2)).add 1))) ?_; refine xaL (.int .i64 p.2) (load1 3 _ ((adr.add (i*2)).add 1) _ rfl rfl (fun _=>by kernel_rfl) (NewW.rng (NewW.below NA M.below) hp 1 _ rfl)) ?_; refine xpL (.int .i64 p.2) ?_; refine xT ?_
     have hE:=show Hid _ from (show rnxt L n=_ from nx_hit hA hp (by omega)); have hbel:=M.below; clear M hA; go_wp2; go_ret
     exact ⟨by rw [hE.out]; try rfl,hbel⟩
   · go_upto_region 3 with fail
     refine wp_region_held_drew (S:=fun w'=>Mm w ((B1,[.int .i64 (max n 0)])::([]:List (Nat × List Value))) w') (by kernel_rfl) M.drew ?_; intro _; replace M:=M.drew; have hdr:=(Below.refl w3.heap.size w3).drew; clear hdr; generalize w3.drew=w6 at M  ⊢; refine xrH 0 11 rfl (.int .i64 ((i:Nat):Int)) (fun _ hS=>(by kernel_rfl)) M ?_
     refine xrH 1 12 rfl (.pointer (some ⟨R,ro,none⟩)) (fun _ hS=>(by kernel_rfl)) M ?_; refine xrH 2 13 rfl (.pointer (some ⟨R,ro,none⟩)) (fun _ hS=>(by kernel_rfl)) M ?_; refine xrH 3 14 rfl (.pointer (some ⟨R,ro,none⟩)) (fun _ hS=>(by kernel_rfl)) M ?_
     refine xrH 4 15 rfl (.slice (some adr) L.length cap) (fun _ hS=>load1 29 _ ⟨R,ro,none⟩ _ rfl rfl (fun _=>by kernel_rfl) (cellT hS.below hRA)) M ?_; refine xrH 5 16 rfl (.int .i64 ((L.length:Nat):Int)) (fun _ hS=>lenS _ 29 49 (some adr) L.length cap rfl Try.underlying29 rfl _) M ?_
     refine xrH 6 17 rfl (.bool true) (fun _ hS=>lssI .i64 _ _ _ _ _ _ rfl rfl rfl true (decide_eq_true (by omega)) _) M ?_; refine xrH 7 18 rfl (.bool true) (fun _ hS=>(by kernel_rfl)) M ?_; refine xrH 8 19 rfl (.pointer (some ⟨R,ro,none⟩)) (fun _ hS=>(by kernel_rfl)) M ?_; refine xrH 9 20 rfl (.pointer (some ⟨R,ro,none⟩)) (fun _ hS=>(by kernel_rfl)) M ?_
     refine xrH 10 21 rfl (.pointer (some ⟨R,ro,none⟩)) (fun _ hS=>(by kernel_rfl)) M ?_; refine xrH 11 22 rfl (.slice (some adr) L.length cap) (fun _ hS=>load1 29 _ ⟨R,ro,none⟩ _ rfl rfl (fun _=>by kernel_rfl) (cellT hS.below hRA)) M ?_; refine xrH 12 23 rfl (.int .i64 ((i:Nat):Int)) (fun _ hS=>(by kernel_rfl)) M ?_
     refine xrH 13 24 rfl (.pointer (some (adr.add (i*2)))) (fun _ hS=>idxR2 adr _ _ i hi _ _ rfl rfl rfl _) M ?_; refine xrH 14 25 rfl (.pointer (some ((adr.add (i*2)).add 0))) (fun _ hS=>(by kernel_rfl)) M ?_; refine xrH 15 26 rfl (.int .i64 p.1) (fun _ hS=>load1 3 _ ((adr.add (i*2)).add 0) _ rfl rfl (fun _=>by kernel_rfl) (NewW.rng (NewW.below NA hS.below) hp 0 _ rfl)) M ?_
     refine xrH 16 27 rfl (.int .i64 (max n 0)) (fun _ hS=>load1 3 _ ⟨B1,0,none⟩ _ rfl rfl (fun _=>by kernel_rfl) (hS.get mS 0 _ rfl)) M ?_; refine xrH 17 28 rfl (.bool false) (fun _ hS=>leqI .i64 _ _ _ _ _ _ rfl rfl rfl false (decide_eq_false (by omega)) _) M ?_; refine xrH 18 29 rfl (.bool false) (fun _ hS=>(by kernel_rfl)) M ?_
     refine wpAnyH_done (by kernel_rfl) ?_ _
     first | show Exit.then _ _ _ _ _ | show Exit.inBlock _ _ _ _ _
     go_upto_region 5 with fail; refine wp_region_list ?_; refine xaL (.int .i64 (max n 0)) (load1 3 _ ⟨B1,0,none⟩ _ rfl rfl (fun _=>by kernel_rfl) (M.get mS 0 _ rfl)) ?_; refine xpL (.int .i64 (max n 0)) ?_; refine xT ?_; have hE:=show Hid _ from (show rnxt L n=_ from nx_miss hc hA hp (by omega)); have hbel:=M.below; clear M hA; go_wp2; go_ret
     exact ⟨by rw [hE.out]; try rfl,hbel⟩
 · go_upto_region 3 with fail
   refine wp_region_held_drew (S:=fun w'=>Mm w ((B1,[.int .i64 (max n 0)])::([]:List (Nat × List Value))) w') (by kernel_rfl) M.drew ?_; intro _; replace M:=M.drew; have hdr:=(Below.refl w3.heap.size w3).drew; clear hdr; generalize w3.drew=w4 at M  ⊢; refine xrH 0 11 rfl (.int .i64 ((i:Nat):Int)) (fun _ hS=>(by kernel_rfl)) M ?_
   refine xrH 1 12 rfl (.pointer (some ⟨R,ro,none⟩)) (fun _ hS=>(by kernel_rfl)) M ?_; refine xrH 2 13 rfl (.pointer (some ⟨R,ro,none⟩)) (fun _ hS=>(by kernel_rfl)) M ?_; refine xrH 3 14 rfl (.pointer (some ⟨R,ro,none⟩)) (fun _ hS=>(by kernel_rfl)) M ?_
   refine xrH 4 15 rfl (.slice sp L.length cap) (fun _ hS=>load1 29 _ ⟨R,ro,none⟩ _ rfl rfl (fun _=>by kernel_rfl) (cellT hS.below hR)) M ?_; refine xrH 5 16 rfl (.int .i64 ((L.length:Nat):Int)) (fun _ hS=>lenS _ 29 49 sp L.length cap rfl Try.underlying29 rfl _) M ?_
   refine xrH 6 17 rfl (.bool false) (fun _ hS=>lssI .i64 _ _ _ _ _ _ rfl rfl rfl false (decide_eq_false (by omega)) _) M ?_; refine xrH 7 18 rfl (.bool false) (fun _ hS=>(by kernel_rfl)) M ?_; refine mayH (i:=8) (some 19) rfl false undef undef rfl rfl rfl (fun hc=>by cases hc) (by kernel_rfl) (by kernel_rfl) (by kernel_rfl) (fun _ _ _ h=>h) M ?_; simp only [aP,lI,l0,lS]
   refine mayH (i:=9) (some 20) rfl false undef undef rfl rfl rfl (fun hc=>by cases hc) (by kernel_rfl) (by kernel_rfl) (by kernel_rfl) (fun _ _ _ h=>h) M ?_; simp only [aP,lI,l0,lS]; refine mayH (i:=10) (some 21) rfl false undef undef rfl rfl rfl (fun hc=>by cases hc) (by kernel_rfl) (by kernel_rfl) (by kernel_rfl) (fun _ _ _ h=>h) M ?_; simp only [aP,lI,l0,lS]
   refine mayH (i:=11) (some 22) rfl false undef undef rfl rfl rfl (fun hc=>by cases hc) (by kernel_rfl) (by kernel_rfl) (by kernel_rfl) (fun _ _ _ h=>h) M ?_; simp only [aP,lI,l0,lS]; refine mayH (i:=12) (some 23) rfl false undef undef rfl rfl rfl (fun hc=>by cases hc) (by kernel_rfl) (by kernel_rfl) (by kernel_rfl) (fun _ _ _ h=>h) M ?_; simp only [aP,lI,l0,lS]
   refine mayH (i:=13) (some 24) rfl false undef undef rfl rfl rfl (fun hc=>by cases hc) (by kernel_rfl) (by kernel_rfl) (by kernel_rfl) (fun _ _ _ h=>h) M ?_; simp only [aP,lI,l0,lS]; refine mayH (i:=14) (some 25) rfl false undef undef rfl rfl rfl (fun hc=>by cases hc) (by kernel_rfl) (by kernel_rfl) (by kernel_rfl) (fun _ _ _ h=>h) M ?_; simp only [aP,lI,l0,lS]
   refine mayH (i:=15) (some 26) rfl false undef undef rfl rfl rfl (fun hc=>by cases hc) (by kernel_rfl) (by kernel_rfl) (by kernel_rfl) (fun _ _ _ h=>h) M ?_; simp only [aP,lI,l0,lS]; refine mayH (i:=16) (some 27) rfl false undef undef rfl rfl rfl (fun hc=>by cases hc) (by kernel_rfl) (by kernel_rfl) (by kernel_rfl) (fun _ _ _ h=>h) M ?_; simp only [aP,lI,l0,lS]
   refine mayH (i:=17) (some 28) rfl false undef undef rfl rfl rfl (fun hc=>by cases hc) (by kernel_rfl) (by kernel_rfl) (by kernel_rfl) (fun _ _ _ h=>h) M ?_; simp only [aP,lI,l0,lS]; refine xrH 18 29 rfl (.bool false) (fun _ hS=>(by kernel_rfl)) M ?_
   refine wpAnyH_done (by kernel_rfl) ?_ _
   first | show Exit.then _ _ _ _ _ | show Exit.inBlock _ _ _ _ _
   go_upto_region 5 with fail; refine wp_region_list ?_; refine xaL (.int .i64 (max n 0)) (load1 3 _ ⟨B1,0,none⟩ _ rfl rfl (fun _=>by kernel_rfl) (M.get mS 0 _ rfl)) ?_; refine xpL (.int .i64 (max n 0)) ?_; refine xT ?_; have hE:=show Hid _ from (show rnxt L n=_ from nx_end hA (by omega)); have hbel:=M.below; clear M hA; go_wp2; go_ret
   exact ⟨by rw [hE.out]; try rfl,hbel⟩
theorem vgap_any (R ro:Nat) (sp:Option Addr) (cap:Nat) (L:Rgs17) (hc:Can L) (hln:L.length<1000000) (f t:Int) (w:World) (hR:w.cell? ⟨R,ro,none⟩=some (.slice sp L.length cap)) (N:NewW w 0 L (.slice sp L.length cap)) :
 Calls Try.prog 31 #[.pointer (some ⟨R,ro,none⟩),.int .i64 f,.int .i64 t] w fun e w'=>e=.returned (.tuple #[.agg #[.int .i64 (rgF L f t),.int .i64 (rgT L f t)],.bool (rgB L f t)])∧Below w.heap.size w w':=by
 have M:=Mm.init w
 go_enter Try.func31,Try.ntmps31
 go_upto_region 0 with fail; refine wp_region_list ?_; refine actL (w':=w.alloc (.cells #[.int .i64 0,.int .i64 0] 49)) (.pointer (some ⟨w.heap.size,0,none⟩)) rfl (by kernel_rfl) ?_; simp only [aP,lI,l0,lS]
 have hB_B1:w.heap.size≤w.heap.size:=M.below.size
 replace M:=M.box #[.int .i64 0,.int .i64 0] 49 w.heap.size rfl; generalize w.alloc (.cells #[.int .i64 0,.int .i64 0] 49)=w1 at M  ⊢; generalize eB:w.heap.size=B1 at M hB_B1  ⊢
 have hE_B1:w.heap.size≤B1:=Nat.le_of_eq eB
 have hF_B1:B1≤w.heap.size:=Nat.le_of_eq eB.symm
 clear eB
 replace M:Mm w ((B1,[.int .i64 0,.int .i64 0])::([]:List (Nat × List Value))) w1:=M
 refine xpL (.bool false) ?_; refine xT ?_; go_upto_region 1 with fail; refine wp_region_list ?_; refine xpL (.int .i64 f) ?_; refine xpL (.int .i64 t) ?_; have key:=vwith_any f t w1; refine xcL key ?_; clear key; rintro e w2 ⟨rfl,l⟩; replace M:=M.call l; clear l; refine xeL ?_
 refine actL (w':=w2.alloc (.cells #[.int .i64 0,.int .i64 0] 49)) (.pointer (some ⟨w2.heap.size,0,none⟩)) rfl (by kernel_rfl) ?_; simp only [aP,lI,l0,lS]
 have hB_B3:w.heap.size≤w2.heap.size:=M.below.size
 replace M:=M.box #[.int .i64 0,.int .i64 0] 49 w2.heap.size rfl; generalize w2.alloc (.cells #[.int .i64 0,.int .i64 0] 49)=w3 at M  ⊢; generalize eB:w2.heap.size=B3 at M hB_B3  ⊢
 have hE_B3:w2.heap.size≤B3:=Nat.le_of_eq eB
 have hF_B3:B3≤w2.heap.size:=Nat.le_of_eq eB.symm
 clear eB
 replace M:Mm w ((B3,[.int .i64 0,.int .i64 0])::(B1,[.int .i64 0,.int .i64 0])::([]:List (Nat × List Value))) w3:=M
 refine skipOpL rfl (storeP [.int .i64 (rlo f),.int .i64 (rhi t)] B3 0 49 _ _ rfl rfl rfl (M.thereP mS 0 2 (Nat.le_of_ble_eq_true rfl)) (by kernel_rfl) (List.all_eq_true.1 (rfl:([.int .i64 (rlo f),.int .i64 (rhi t)]:List Value).all (fun u=>u.oneCell')=true))) ?_; simp only [Act.put]; replace M:=M.setPart [.int .i64 (rlo f),.int .i64 (rhi t)] 0 (Nat.le_of_ble_eq_true rfl)
 generalize w3.setCells B3 0 [.int .i64 (rlo f),.int .i64 (rhi t)]=w4 at M  ⊢
 replace M:Mm w ((B3,[.int .i64 (rlo f),.int .i64 (rhi t)])::(B1,[.int .i64 0,.int .i64 0])::([]:List (Nat × List Value))) w4:=M
 refine xT ?_; go_upto_region 2 with fail; refine wp_region_list ?_; refine xpL (.pointer (some ⟨R,ro,none⟩)) ?_; refine xpL (.pointer (some ⟨B3,0,none⟩)) ?_; refine xaL (.int .i64 (rlo f)) (load1 3 _ ⟨B3,0,none⟩ _ rfl rfl (fun _=>by kernel_rfl) (M.get mS 0 _ rfl)) ?_; have key:=vnext_any R ro sp cap L hc hln (rlo f) _ (cellT M.below hR) (NewW.below N M.below)
 rw [rnxt_lo] at key
 refine xcL key ?_; clear key; rintro e w5 ⟨rfl,l⟩; replace M:=M.call l; clear l; refine xeL ?_; refine xpL (.pointer (some ⟨B3,0,none⟩)) ?_; refine skipOpL rfl (storeAny (.int .i64 (rnx L (rlo f))) B3 0 3 _ _ rfl rfl rfl rfl rfl (M.isSome mS 0 (by simp)) (M.free mS 0 (by simp)) (by kernel_rfl)) ?_; simp only [Act.put]; replace M:=M.set 0 (by simp) (.int .i64 (rnx L (rlo f)))
 generalize w5.setCell ⟨B3,0,none⟩ (.int .i64 (rnx L (rlo f)))=w6 at M  ⊢
 replace M:Mm w ((B3,[.int .i64 (rnx L (rlo f)),.int .i64 (rhi t)])::(B1,[.int .i64 0,.int .i64 0])::([]:List (Nat × List Value))) w6:=M
 refine xT ?_
 by_cases hge:rhi t≤rnx L (rlo f)
 · go_upto_region 3 with fail
   refine wp_region_list ?_; refine xaL (.agg #[.int .i64 (rnx L (rlo f)),.int .i64 (rhi t)]) (loadN 49 _ ⟨B3,0,none⟩ [.int .i64 (rnx L (rlo f)),.int .i64 (rhi t)] rfl rfl (fun _=>by kernel_rfl) (fun _=>by kernel_rfl) (M.rangeAt mS)) ?_; have key:=vempty_any (rnx L (rlo f)) (rhi t) w6
   rw [show decide (rnx L (rlo f)≥rhi t)=true from decide_eq_true (by omega)] at key
   refine xcL key ?_; clear key; rintro e w7 ⟨rfl,l_⟩; replace M:=M.call l_; clear l_; refine xeL ?_; refine xT ?_; go_upto_region 4 with fail; refine wp_region_list ?_; refine xpL (.agg #[.int .i64 0,.int .i64 0]) ?_; replace M:=M.swap
   refine skipOpL rfl (storeP [.int .i64 0,.int .i64 0] B1 0 49 _ _ rfl rfl rfl (M.thereP mS 0 2 (Nat.le_of_ble_eq_true rfl)) (by kernel_rfl) (List.all_eq_true.1 (rfl:([.int .i64 0,.int .i64 0]:List Value).all (fun u=>u.oneCell')=true))) ?_; simp only [Act.put]; replace M:=M.setPart [.int .i64 0,.int .i64 0] 0 (Nat.le_of_ble_eq_true rfl)
   generalize w7.setCells B1 0 [.int .i64 0,.int .i64 0]=w8 at M  ⊢
   replace M:Mm w ((B1,[.int .i64 0,.int .i64 0])::(B3,[.int .i64 (rnx L (rlo f)),.int .i64 (rhi t)])::([]:List (Nat × List Value))) w8:=M
   refine xpL (.bool false) ?_; refine xT ?_; have hbel:=M.below; have hcs:=M.rangeAt mS; clear M; go_wp2
   obtain ⟨e1,e2,e3⟩:=rg_nil hge
   exact bodyPost_ret (v:=.tuple #[.agg #[.int .i64 0,.int .i64 0],.bool false]) (results_row_tmp (cs:=[.int .i64 0,.int .i64 0]) Try.results31 rfl rfl (rangeT hcs) Try.underlying49 rfl (by kernel_rfl)) rfl ⟨by rw [e1,e2,e3],hbel⟩
 · go_upto_region 3 with fail
   refine wp_region_list ?_; refine xaL (.agg #[.int .i64 (rnx L (rlo f)),.int .i64 (rhi t)]) (loadN 49 _ ⟨B3,0,none⟩ [.int .i64 (rnx L (rlo f)),.int .i64 (rhi t)] rfl rfl (fun _=>by kernel_rfl) (fun _=>by kernel_rfl) (M.rangeAt mS)) ?_; have key:=vempty_any (rnx L (rlo f)) (rhi t) w6
   rw [show decide (rnx L (rlo f)≥rhi t)=false from decide_eq_false (by omega)] at key
   refine xcL key ?_; clear key; rintro e w9 ⟨rfl,l_⟩; replace M:=M.call l_; clear l_; refine xeL ?_; refine xT ?_; go_upto_region 5 with fail; refine wp_region_list ?_; refine xpL (.pointer (some ⟨R,ro,none⟩)) ?_; refine xpL (.func (.func 45) #[] #[.pointer (some ⟨B3,0,none⟩)]) ?_
   have key:=vfirst_any 45 B3 R ro (fun x=>decide (x.1>rnx L (rlo f))) sp cap L hln (hc.mono fun x y _ _ _ h=>by simp only [decide_eq_true_eq] at h ⊢; omega) _ ⟨by simp,fun w' l x=>vc_gap x B3 _ w' (cellT l (M.get mS 0 _ rfl))⟩ (cellT M.below hR) (NewW.below N M.below); refine xcL key ?_; clear key; rintro e w10 ⟨i,rfl,hA,l⟩; replace M:=M.call l; clear l; refine xeL ?_
   refine xpL (.int .i64 ((i:Nat):Int)) ?_; refine xT ?_
   by_cases hi:i<L.length
   · obtain ⟨p,hp⟩:∃ p,L[i]?=some p:=⟨_,List.getElem?_eq_getElem (by omega)⟩
     obtain ⟨adr,hadr,_,_⟩:=NewW.at N hp
     have NA:=N
     rw [hadr] at NA
     have hRA:=hR
     rw [hadr] at hRA
     clear hadr; go_upto_region 6 with fail; refine wp_region_list ?_; refine xpL (.int .i64 ((i:Nat):Int)) ?_; refine xpL (.pointer (some ⟨R,ro,none⟩)) ?_; refine xpL (.pointer (some ⟨R,ro,none⟩)) ?_; refine xpL (.pointer (some ⟨R,ro,none⟩)) ?_; refine xaL (.slice sp L.length cap) (load1 29 _ ⟨R,ro,none⟩ _ rfl rfl (fun _=>by kernel_rfl) (cellT M.below hR)) ?_
     refine xaL (.int .i64 ((L.length:Nat):Int)) (lenS _ 29 49 sp L.length cap rfl Try.underlying29 rfl _) ?_; refine xaL (.bool true) (lssI .i64 _ _ _ _ _ _ rfl rfl rfl true (decide_eq_true (by omega)) _) ?_; refine xT ?_; go_upto_region 7 with fail; replace M:=M.drew
     refine wp_region_C (S:=fun w'=>Mm w ((B3,[.int .i64 (rnx L (rlo f)),.int .i64 (rhi t)])::(B1,[.int .i64 0,.int .i64 0])::([]:List (Nat × List Value))) w') 12 (by kernel_rfl) M ?_; intro _; generalize w10.drew=w11 at M ⊢
     refine readC (i:=0) (some 31) rfl (.pointer (some ⟨B3,1,none⟩)) rfl rfl (by kernel_rfl) rfl (fun _ hS=>(by kernel_rfl)) (by kernel_rfl) (by kernel_rfl) (by kernel_rfl) (by kernel_rfl) (fun _ _ _ h=>h) M ?_; simp only [aP,lI,l0,lS]
     refine readC (i:=1) (some 32) rfl (.int .i64 (rhi t)) rfl rfl (by kernel_rfl) rfl (fun _ hS=>load1 3 _ ⟨B3,1,none⟩ _ rfl rfl (fun _=>by kernel_rfl) (hS.get mS 1 _ rfl)) (by kernel_rfl) (by kernel_rfl) (by kernel_rfl) (by kernel_rfl) (fun _ _ _ h=>h) M ?_; simp only [aP,lI,l0,lS]
     refine readC (i:=2) (some 33) rfl (.pointer (some ⟨R,ro,none⟩)) rfl rfl (by kernel_rfl) rfl (fun _ hS=>(by kernel_rfl)) (by kernel_rfl) (by kernel_rfl) (by kernel_rfl) (by kernel_rfl) (fun _ _ _ h=>h) M ?_; simp only [aP,lI,l0,lS]
     refine readC (i:=3) (some 34) rfl (.pointer (some ⟨R,ro,none⟩)) rfl rfl (by kernel_rfl) rfl (fun _ hS=>(by kernel_rfl)) (by kernel_rfl) (by kernel_rfl) (by kernel_rfl) (by kernel_rfl) (fun _ _ _ h=>h) M ?_; simp only [aP,lI,l0,lS]
     refine readC (i:=4) (some 35) rfl (.pointer (some ⟨R,ro,none⟩)) rfl rfl (by kernel_rfl) rfl (fun _ hS=>(by kernel_rfl)) (by kernel_rfl) (by kernel_rfl) (by kernel_rfl) (by kernel_rfl) (fun _ _ _ h=>h) M ?_; simp only [aP,lI,l0,lS]
     refine readC (i:=5) (some 36) rfl (.slice (some adr) L.length cap) rfl rfl (by kernel_rfl) rfl (fun _ hS=>load1 29 _ ⟨R,ro,none⟩ _ rfl rfl (fun _=>by kernel_rfl) (cellT hS.below hRA)) (by kernel_rfl) (by kernel_rfl) (by kernel_rfl) (by kernel_rfl) (fun _ _ _ h=>h) M ?_; simp only [aP,lI,l0,lS]
     refine readC (i:=6) (some 37) rfl (.int .i64 ((i:Nat):Int)) rfl rfl (by kernel_rfl) rfl (fun _ hS=>(by kernel_rfl)) (by kernel_rfl) (by kernel_rfl) (by kernel_rfl) (by kernel_rfl) (fun _ _ _ h=>h) M ?_; simp only [aP,lI,l0,lS]
     refine readC (i:=7) (some 38) rfl (.pointer (some (adr.add (i*2)))) rfl rfl (by kernel_rfl) rfl (fun _ hS=>idxR2 adr _ _ i hi _ _ rfl rfl rfl _) (by kernel_rfl) (by kernel_rfl) (by kernel_rfl) (by kernel_rfl) (fun _ _ _ h=>h) M ?_; simp only [aP,lI,l0,lS]
     refine readC (i:=8) (some 39) rfl (.pointer (some ((adr.add (i*2)).add 0))) rfl rfl (by kernel_rfl) rfl (fun _ hS=>(by kernel_rfl)) (by kernel_rfl) (by kernel_rfl) (by kernel_rfl) (by kernel_rfl) (fun _ _ _ h=>h) M ?_; simp only [aP,lI,l0,lS]
     refine readC (i:=9) (some 40) rfl (.int .i64 p.1) rfl rfl (by kernel_rfl) rfl (fun _ hS=>load1 3 _ ((adr.add (i*2)).add 0) _ rfl rfl (fun _=>by kernel_rfl) (NewW.rng (NewW.below NA hS.below) hp 0 _ rfl)) (by kernel_rfl) (by kernel_rfl) (by kernel_rfl) (by kernel_rfl) (fun _ _ _ h=>h) M ?_; simp only [aP,lI,l0,lS]
     refine readC (i:=10) (some 41) rfl (.int .i64 (min (rhi t) p.1)) rfl rfl (by kernel_rfl) rfl (fun _ hS=>minI .i64 .i64 _ _ _ _ _ _ _ rfl rfl rfl (by split <;> omega) _) (by kernel_rfl) (by kernel_rfl) (by kernel_rfl) (by kernel_rfl) (fun _ _ _ h=>h) M ?_; simp only [aP,lI,l0,lS]
     refine readC (i:=11) (some 42) rfl (.pointer (some ⟨B3,1,none⟩)) rfl rfl (by kernel_rfl) rfl (fun _ hS=>(by kernel_rfl)) (by kernel_rfl) (by kernel_rfl) (by kernel_rfl) (by kernel_rfl) (fun _ _ _ h=>h) M ?_; simp only [aP,lI,l0,lS]
     refine skipC (S2:=fun _=>True) none rfl (by kernel_rfl) rfl rfl (storeAny (.int .i64 (min (rhi t) p.1)) B3 1 3 _ _ rfl rfl rfl rfl rfl (M.isSome mS 1 (by simp)) (M.free mS 1 (by simp)) (by kernel_rfl)) (by kernel_rfl) ?_; simp only [Act.put]; replace M:=M.set 1 (by simp) (.int .i64 (min (rhi t) p.1)); generalize w11.setCell ⟨B3,1,none⟩ (.int .i64 (min (rhi t) p.1))=w12 at M ⊢
     replace M:Mm w ((B3,[.int .i64 (rnx L (rlo f)),.int .i64 (min (rhi t) p.1)])::(B1,[.int .i64 0,.int .i64 0])::([]:List (Nat × List Value))) w12:=M
     refine wpAnyH_done (by kernel_rfl) ?_ _
     first | show Exit.then _ _ _ _ _ | show Exit.inBlock _ _ _ _ _
     go_upto_region 8 with fail; refine wp_region_list ?_; refine xaL (.agg #[.int .i64 (rnx L (rlo f)),.int .i64 (min (rhi t) p.1)]) (loadN 49 _ ⟨B3,0,none⟩ [.int .i64 (rnx L (rlo f)),.int .i64 (min (rhi t) p.1)] rfl rfl (fun _=>by kernel_rfl) (fun _=>by kernel_rfl) (M.rangeAt mS)) ?_; replace M:=M.swap
     refine skipOpL rfl (storeP [.int .i64 (rnx L (rlo f)),.int .i64 (min (rhi t) p.1)] B1 0 49 _ _ rfl rfl rfl (M.thereP mS 0 2 (Nat.le_of_ble_eq_true rfl)) (by kernel_rfl) (List.all_eq_true.1 (rfl:([.int .i64 (rnx L (rlo f)),.int .i64 (min (rhi t) p.1)]:List Value).all (fun u=>u.oneCell')=true))) ?_; simp only [Act.put]
     replace M:=M.setPart [.int .i64 (rnx L (rlo f)),.int .i64 (min (rhi t) p.1)] 0 (Nat.le_of_ble_eq_true rfl); generalize w12.setCells B1 0 [.int .i64 (rnx L (rlo f)),.int .i64 (min (rhi t) p.1)]=w13 at M  ⊢
     replace M:Mm w ((B1,[.int .i64 (rnx L (rlo f)),.int .i64 (min (rhi t) p.1)])::(B3,[.int .i64 (rnx L (rlo f)),.int .i64 (min (rhi t) p.1)])::([]:List (Nat × List Value))) w13:=M
     refine xpL (.bool true) ?_; refine xT ?_; have hE:=show Hid _ from (show rbg L (rnx L (rlo f)) (rhi t)=min (rhi t) p.1 from bg_row hc hA hp); have hbel:=M.below; have hcs:=M.rangeAt mS; clear M; go_wp2
     obtain ⟨e1,e2,e3⟩:=rg_is (L:=L) (f:=f) (t:=t) (by omega)
     exact bodyPost_ret (v:=.tuple #[.agg #[.int .i64 (rnx L (rlo f)),.int .i64 (min (rhi t) p.1)],.bool true]) (results_row_tmp (cs:=[.int .i64 (rnx L (rlo f)),.int .i64 (min (rhi t) p.1)]) Try.results31 rfl rfl (rangeT hcs) Try.underlying49 rfl (by kernel_rfl)) rfl ⟨by rw [e1,e2,e3,hE.out],hbel⟩
   · go_upto_region 6 with fail
     refine wp_region_list ?_; refine xpL (.int .i64 ((i:Nat):Int)) ?_; refine xpL (.pointer (some ⟨R,ro,none⟩)) ?_; refine xpL (.pointer (some ⟨R,ro,none⟩)) ?_; refine xpL (.pointer (some ⟨R,ro,none⟩)) ?_; refine xaL (.slice sp L.length cap) (load1 29 _ ⟨R,ro,none⟩ _ rfl rfl (fun _=>by kernel_rfl) (cellT M.below hR)) ?_
     refine xaL (.int .i64 ((L.length:Nat):Int)) (lenS _ 29 49 sp L.length cap rfl Try.underlying29 rfl _) ?_; refine xaL (.bool false) (lssI .i64 _ _ _ _ _ _ rfl rfl rfl false (decide_eq_false (by omega)) _) ?_; refine xT ?_; go_upto_region 8 with fail; refine wp_region_list ?_
     refine xaL (.agg #[.int .i64 (rnx L (rlo f)),.int .i64 (rhi t)]) (loadN 49 _ ⟨B3,0,none⟩ [.int .i64 (rnx L (rlo f)),.int .i64 (rhi t)] rfl rfl (fun _=>by kernel_rfl) (fun _=>by kernel_rfl) (M.rangeAt mS)) ?_; replace M:=M.swap
     refine skipOpL rfl (storeP [.int .i64 (rnx L (rlo f)),.int .i64 (rhi t)] B1 0 49 _ _ rfl rfl rfl (M.thereP mS 0 2 (Nat.le_of_ble_eq_true rfl)) (by kernel_rfl) (List.all_eq_true.1 (rfl:([.int .i64 (rnx L (rlo f)),.int .i64 (rhi t)]:List Value).all (fun u=>u.oneCell')=true))) ?_; simp only [Act.put]
     replace M:=M.setPart [.int .i64 (rnx L (rlo f)),.int .i64 (rhi t)] 0 (Nat.le_of_ble_eq_true rfl); generalize w10.setCells B1 0 [.int .i64 (rnx L (rlo f)),.int .i64 (rhi t)]=w14 at M  ⊢
     replace M:Mm w ((B1,[.int .i64 (rnx L (rlo f)),.int .i64 (rhi t)])::(B3,[.int .i64 (rnx L (rlo f)),.int .i64 (rhi t)])::([]:List (Nat × List Value))) w14:=M
     refine xpL (.bool true) ?_; refine xT ?_; have hE:=show Hid _ from (show rbg L (rnx L (rlo f)) (rhi t)=rhi t from bg_end hA (by omega)); have hbel:=M.below; have hcs:=M.rangeAt mS; clear M; go_wp2
     obtain ⟨e1,e2,e3⟩:=rg_is (L:=L) (f:=f) (t:=t) (by omega)
     exact bodyPost_ret (v:=.tuple #[.agg #[.int .i64 (rnx L (rlo f)),.int .i64 (rhi t)],.bool true]) (results_row_tmp (cs:=[.int .i64 (rnx L (rlo f)),.int .i64 (rhi t)]) Try.results31 rfl rfl (rangeT hcs) Try.underlying49 rfl (by kernel_rfl)) rfl ⟨by rw [e1,e2,e3,hE.out],hbel⟩
theorem vcov_any (R ro:Nat) (sp:Option Addr) (cap:Nat) (L:Rgs17) (hc:Can L) (hln:L.length<1000000) (f t:Int) (w:World) (hR:w.cell? ⟨R,ro,none⟩=some (.slice sp L.length cap)) (N:NewW w 0 L (.slice sp L.length cap)) :
 Calls Try.prog 41 #[.pointer (some ⟨R,ro,none⟩),.int .i64 f,.int .i64 t] w fun e w'=>e=.returned (.bool (!rgB L f t))∧Below w.heap.size w w':=by
 have M:=Mm.init w
 go_enter Try.func41,Try.ntmps41
 go_upto_region 0 with fail; refine wp_region_list ?_; refine readL (.bool false) rfl (by kernel_rfl) ?_; simp only [aP,lI,l0,lS]; refine xT ?_; go_upto_region 1 with fail; refine wp_region_list ?_; refine readL (.pointer (some ⟨R,ro,none⟩)) rfl (by kernel_rfl) ?_; simp only [aP,lI,l0,lS]; refine readL (.int .i64 f) rfl (by kernel_rfl) ?_; simp only [aP,lI,l0,lS]
 refine readL (.int .i64 t) rfl (by kernel_rfl) ?_; simp only [aP,lI,l0,lS]; have key:=vgap_any R ro sp cap L hc hln f t _ (cellT M.below hR) (NewW.below N M.below); refine callL rfl (fun _=>by kernel_rfl) key ?_; clear key; rintro e w1 ⟨rfl,l⟩; replace M:=M.call l; clear l
 refine ⟨_,rfl,?_⟩
 simp only [aP,lI,l0,lS]; refine readL (.tuple #[.agg #[.int .i64 (rgF L f t),.int .i64 (rgT L f t)],.bool (rgB L f t)]) rfl (by kernel_rfl) ?_; simp only [aP,lI,l0,lS]; refine readL (.agg #[.int .i64 (rgF L f t),.int .i64 (rgT L f t)]) rfl (by kernel_rfl) ?_; simp only [aP,lI,l0,lS]; refine readL (.bool (rgB L f t)) rfl (by kernel_rfl) ?_; simp only [aP,lI,l0,lS]
 refine actL (w':=w1.alloc (.cells #[.int .i64 0,.int .i64 0] 49)) (.pointer (some ⟨w1.heap.size,0,none⟩)) rfl (by kernel_rfl) ?_; simp only [aP,lI,l0,lS]
 have hB_B2:w.heap.size≤w1.heap.size:=M.below.size
 replace M:=M.box #[.int .i64 0,.int .i64 0] 49 w1.heap.size rfl; generalize w1.alloc (.cells #[.int .i64 0,.int .i64 0] 49)=w2 at M  ⊢; generalize eB:w1.heap.size=B2 at M hB_B2  ⊢
 have hE_B2:w1.heap.size≤B2:=Nat.le_of_eq eB
 have hF_B2:B2≤w1.heap.size:=Nat.le_of_eq eB.symm
 clear eB
 replace M:Mm w ((B2,[.int .i64 0,.int .i64 0])::([]:List (Nat × List Value))) w2:=M
 refine skipOpL rfl (storeP [.int .i64 (rgF L f t),.int .i64 (rgT L f t)] B2 0 49 _ _ rfl rfl rfl (M.thereP mS 0 2 (Nat.le_of_ble_eq_true rfl)) (by kernel_rfl) (List.all_eq_true.1 (rfl:([.int .i64 (rgF L f t),.int .i64 (rgT L f t)]:List Value).all (fun u=>u.oneCell')=true))) ?_; simp only [Act.put]
 replace M:=M.setPart [.int .i64 (rgF L f t),.int .i64 (rgT L f t)] 0 (Nat.le_of_ble_eq_true rfl); generalize w2.setCells B2 0 [.int .i64 (rgF L f t),.int .i64 (rgT L f t)]=w3 at M  ⊢
 replace M:Mm w ((B2,[.int .i64 (rgF L f t),.int .i64 (rgT L f t)])::([]:List (Nat × List Value))) w3:=M
 refine readL (.bool (rgB L f t)) rfl (by kernel_rfl) ?_; simp only [aP,lI,l0,lS]; refine xT ?_; go_upto_region 2 with fail; refine wp_region_list ?_; refine readL (.bool (rgB L f t)) rfl (by kernel_rfl) ?_; simp only [aP,lI,l0,lS]; refine readL (.bool (!rgB L f t)) rfl (by cases rgB L f t <;> rfl) ?_; simp only [aP,lI,l0,lS]; refine readL (.bool (!rgB L f t)) rfl (by kernel_rfl) ?_
 simp only [aP,lI,l0,lS]; refine xT ?_; have hbel:=M.below; clear M; go_wp2; go_ret
 exact ⟨rfl,hbel⟩
theorem vend18 (R:Nat) (kb nb:Nat) (sb:Option Addr) (cb:Nat) (w:World) (h0:w.cell? ⟨R,0,none⟩=some (.int .i64 ((kb:Nat):Int))) (h1:w.cell? ⟨R,1,none⟩=some (.slice sb nb cb)) (hkn:kb+nb<4000000) :
 Calls Try.prog 32 #[.pointer (some ⟨R,0,none⟩)] w fun e w'=>e=.returned (.int .i64 ((kb+nb:Nat):Int))∧Below w.heap.size w w':=by
 have M:=Mm.init w
 go_enter Try.func32,Try.ntmps32
 go_upto_region 0 with fail; refine wp_region_list ?_; refine xpL (.int .i64 0) ?_; refine xT ?_; go_upto_region 1 with fail; refine wp_region_held_drew (S:=fun w'=>Below w.heap.size w w') (by kernel_rfl) M.drew.below ?_; intro _; replace M:=M.drew; have hdr:=(Below.refl w.heap.size w).drew; clear hdr; generalize w.drew=w1 at M  ⊢
 refine xrH 0 3 rfl (.pointer (some ⟨R,0,none⟩)) (fun _ hS=>(by kernel_rfl)) M.below ?_; refine xrH 1 4 rfl (.pointer (some ⟨R,0,none⟩)) (fun _ hS=>(by kernel_rfl)) M.below ?_; refine xrH 2 5 rfl (.pointer (some ⟨R,0,none⟩)) (fun _ hS=>(by kernel_rfl)) M.below ?_
 refine xrH 3 6 rfl (.int .i64 ((kb:Nat):Int)) (fun _ hS=>load1 3 _ ⟨R,0,none⟩ _ rfl rfl (fun _=>by kernel_rfl) (cellT hS h0)) M.below ?_; refine xrH 4 7 rfl (.pointer (some ⟨R,0,none⟩)) (fun _ hS=>(by kernel_rfl)) M.below ?_; refine xrH 5 8 rfl (.pointer (some ⟨R,0,none⟩)) (fun _ hS=>(by kernel_rfl)) M.below ?_
 refine xrH 6 9 rfl (.pointer (some ⟨R,1,none⟩)) (fun _ hS=>(by kernel_rfl)) M.below ?_; refine xrH 7 10 rfl (.slice sb nb cb) (fun _ hS=>load1 28 _ ⟨R,1,none⟩ _ rfl rfl (fun _=>by kernel_rfl) (cellT hS h1)) M.below ?_; refine xrH 8 11 rfl (.int .i64 ((nb:Nat):Int)) (fun _ hS=>lenS _ 28 5 sb nb cb rfl Try.underlying28 rfl _) M.below ?_
 refine xrH 9 12 rfl (.int .i64 ((kb+nb:Nat):Int)) (fun _ hS=>addI .i64 _ _ _ _ _ _ _ rfl rfl rfl (by rw [xw6]; omega) _) M.below ?_; refine xrH 10 2 rfl (.int .i64 ((kb+nb:Nat):Int)) (fun _ hS=>(by kernel_rfl)) M.below ?_
 refine wpAnyH_done (by kernel_rfl) ?_ _
 first | show Exit.then _ _ _ _ _ | show Exit.inBlock _ _ _ _ _
 have hbel:=M.below; clear M; go_wp2; go_ret
 exact ⟨rfl,hbel⟩
theorem vroom18 (R:Nat) (nb:Nat) (s:Int) (sb:Option Addr) (cb:Nat) (w:World) (h1:w.cell? ⟨R,1,none⟩=some (.slice sb nb cb)) (h2:w.cell? ⟨R,2,none⟩=some (.int .i64 s)) (hn:nb<4000000) :
 Calls Try.prog 30 #[.pointer (some ⟨R,0,none⟩)] w fun e w'=>e=.returned (.int .i64 (min (max s 1) 1048576-(nb:Int)))∧Below w.heap.size w w':=by
 have M:=Mm.init w
 go_enter Try.func30,Try.ntmps30
 go_upto_region 0 with fail; refine wp_region_list ?_; refine xpL (.int .i64 0) ?_; refine xT ?_; go_upto_region 1 with fail; refine wp_region_held_drew (S:=fun w'=>Below w.heap.size w w') (by kernel_rfl) M.drew.below ?_; intro _; replace M:=M.drew; have hdr:=(Below.refl w.heap.size w).drew; clear hdr; generalize w.drew=w1 at M  ⊢
 refine xrH 0 3 rfl (.pointer (some ⟨R,0,none⟩)) (fun _ hS=>(by kernel_rfl)) M.below ?_; refine xrH 1 4 rfl (.pointer (some ⟨R,0,none⟩)) (fun _ hS=>(by kernel_rfl)) M.below ?_; refine xrH 2 5 rfl (.pointer (some ⟨R,2,none⟩)) (fun _ hS=>(by kernel_rfl)) M.below ?_
 refine xrH 3 6 rfl (.int .i64 s) (fun _ hS=>load1 3 _ ⟨R,2,none⟩ _ rfl rfl (fun _=>by kernel_rfl) (cellT hS h2)) M.below ?_; refine xrH 6 9 rfl (.pointer (some ⟨R,0,none⟩)) (fun _ hS=>(by kernel_rfl)) M.below ?_; refine xrH 7 10 rfl (.pointer (some ⟨R,0,none⟩)) (fun _ hS=>(by kernel_rfl)) M.below ?_
 refine xrH 8 11 rfl (.pointer (some ⟨R,0,none⟩)) (fun _ hS=>(by kernel_rfl)) M.below ?_; refine xrH 9 12 rfl (.pointer (some ⟨R,1,none⟩)) (fun _ hS=>(by kernel_rfl)) M.below ?_; refine xrH 10 13 rfl (.slice sb nb cb) (fun _ hS=>load1 28 _ ⟨R,1,none⟩ _ rfl rfl (fun _=>by kernel_rfl) (cellT hS h1)) M.below ?_
 refine xrH 11 14 rfl (.int .i64 ((nb:Nat):Int)) (fun _ hS=>lenS _ 28 5 sb nb cb rfl Try.underlying28 rfl _) M.below ?_; refine xrH 4 7 rfl (.int .i64 (max s 1)) (fun _ hS=>maxI .i64 .i64 _ _ _ _ _ _ _ rfl rfl rfl (by split <;> omega) _) M.below ?_
 refine xrH 5 8 rfl (.int .i64 (min (max s 1) 1048576)) (fun _ hS=>minI .i64 .i64 _ _ _ _ _ _ _ rfl rfl rfl (by split <;> omega) _) M.below ?_; refine xrH 12 15 rfl (.int .i64 (min (max s 1) 1048576-(nb:Int))) (fun _ hS=>subI .i64 _ _ _ _ _ _ _ rfl rfl rfl (by rw [xw6]; omega) _) M.below ?_
 refine xrH 13 2 rfl (.int .i64 (min (max s 1) 1048576-(nb:Int))) (fun _ hS=>(by kernel_rfl)) M.below ?_
 refine wpAnyH_done (by kernel_rfl) ?_ _
 first | show Exit.then _ _ _ _ _ | show Exit.inBlock _ _ _ _ _
 have hbel:=M.below; clear M; go_wp2; go_ret
 exact ⟨rfl,hbel⟩
theorem vbeh18 (p n:Int) (hp:i64 p) (hn:i64 n) (w:World) :
 Calls Try.prog 35 #[.int .i64 p,.int .i64 n] w fun e w'=>e=.returned (.int .i64 (beh p n))∧Below w.heap.size w w':=by
 unfold i64 at hp hn
 have M:=Mm.init w
 go_enter Try.func35,Try.ntmps35
 go_upto_region 0 with fail; refine wp_region_list ?_; refine xpL (.int .i64 0) ?_; refine xT ?_; go_upto_region 1 with fail; refine wp_region_list ?_; refine xpL (.int .i64 n) ?_; refine xaL (.int .i64 (max n 0)) (maxI .i64 .i64 _ _ _ _ _ _ _ rfl rfl rfl (by split <;> omega) _) ?_; refine xpL (.int .i64 (max n 0)) ?_; refine xT ?_
 by_cases hc:p>9223372036854775807-max n 0
 · go_upto_region 2 with fail
   refine wp_region_list ?_; refine xpL (.int .i64 p) ?_; refine xpL (.int .i64 (max n 0)) ?_; refine xaL (.int .i64 (9223372036854775807-max n 0)) (subI .i64 _ _ _ _ _ _ _ rfl rfl rfl (by rw [xw6]; omega) _) ?_; refine xaL (.bool true) (gtrI .i64 _ _ _ _ _ _ rfl rfl rfl true (decide_eq_true hc) _) ?_; refine xT ?_; go_upto_region 3 with fail; refine wp_region_list ?_
   refine xpL (.int .i64 9223372036854775807) ?_; refine xT ?_; have e_:=show Hid _ from (show beh p n=9223372036854775807 from if_pos hc); have hbel:=M.below; clear M; go_wp2; go_ret
   exact ⟨by rw [e_.out]; try rfl,hbel⟩
 · go_upto_region 2 with fail
   refine wp_region_list ?_; refine xpL (.int .i64 p) ?_; refine xpL (.int .i64 (max n 0)) ?_; refine xaL (.int .i64 (9223372036854775807-max n 0)) (subI .i64 _ _ _ _ _ _ _ rfl rfl rfl (by rw [xw6]; omega) _) ?_; refine xaL (.bool false) (gtrI .i64 _ _ _ _ _ _ rfl rfl rfl false (decide_eq_false hc) _) ?_; refine xT ?_; go_upto_region 4 with fail; refine wp_region_list ?_
   refine xpL (.int .i64 p) ?_; refine xpL (.int .i64 (max n 0)) ?_; refine xaL (.int .i64 (p+max n 0)) (addI .i64 _ _ _ _ _ _ _ rfl rfl rfl (by rw [xw6]; omega) _) ?_; refine xpL (.int .i64 (p+max n 0)) ?_; refine xT ?_; have e_:=show Hid _ from (show beh p n=p+max n 0 from if_neg hc); have hbel:=M.below; clear M; go_wp2; go_ret
   exact ⟨by rw [e_.out]; try rfl,hbel⟩
theorem vbase18 (R:Nat) (kb:Nat) (w:World) (h0:w.cell? ⟨R,0,none⟩=some (.int .i64 ((kb:Nat):Int))) :
 Calls Try.prog 22 #[.pointer (some ⟨R,0,none⟩)] w fun e w'=>e=.returned (.int .i64 ((kb:Nat):Int))∧Below w.heap.size w w':=by
 have M:=Mm.init w
 go_enter Try.func22,Try.ntmps22
 go_upto_region 0 with fail; refine wp_region_list ?_; refine xpL (.int .i64 0) ?_; refine xT ?_; go_upto_region 1 with fail; refine wp_region_list ?_; refine xpL (.pointer (some ⟨R,0,none⟩)) ?_; refine xpL (.pointer (some ⟨R,0,none⟩)) ?_; refine xpL (.pointer (some ⟨R,0,none⟩)) ?_; refine xpL (.pointer (some ⟨R,0,none⟩)) ?_
 refine xaL (.int .i64 ((kb:Nat):Int)) (load1 3 _ ⟨R,0,none⟩ _ rfl rfl (fun _=>by kernel_rfl) (cellT M.below h0)) ?_; refine xpL (.int .i64 ((kb:Nat):Int)) ?_; refine xT ?_; have hbel:=M.below; clear M; go_wp2; go_ret
 exact ⟨rfl,hbel⟩
theorem vsent18 (R:Nat) (st:Nat) (w:World) (h4:w.cell? ⟨R,4,none⟩=some (.int .i64 ((st:Nat):Int))) :
 Calls Try.prog 25 #[.pointer (some ⟨R,0,none⟩)] w fun e w'=>e=.returned (.int .i64 ((st:Nat):Int))∧Below w.heap.size w w':=by
 have M:=Mm.init w
 go_enter Try.func25,Try.ntmps25
 go_upto_region 0 with fail; refine wp_region_list ?_; refine xpL (.int .i64 0) ?_; refine xT ?_; go_upto_region 1 with fail; refine wp_region_list ?_; refine xpL (.pointer (some ⟨R,0,none⟩)) ?_; refine xpL (.pointer (some ⟨R,0,none⟩)) ?_; refine xpL (.pointer (some ⟨R,4,none⟩)) ?_
 refine xaL (.int .i64 ((st:Nat):Int)) (load1 3 _ ⟨R,4,none⟩ _ rfl rfl (fun _=>by kernel_rfl) (cellT M.below h4)) ?_; refine xpL (.int .i64 ((st:Nat):Int)) ?_; refine xT ?_; have hbel:=M.below; clear M; go_wp2; go_ret
 exact ⟨rfl,hbel⟩
theorem vendx18 (R:Nat) (kb nb:Nat) (sb:Option Addr) (cb:Nat) (w:World) (h0:w.cell? ⟨R,0,none⟩=some (.int .i64 ((kb:Nat):Int))) (h1:w.cell? ⟨R,1,none⟩=some (.slice sb nb cb)) (hkn:kb+nb<4000000) :
 Calls Try.prog 24 #[.pointer (some ⟨R,0,none⟩)] w fun e w'=>e=.returned (.int .i64 ((kb+nb:Nat):Int))∧Below w.heap.size w w':=by
 have M:=Mm.init w
 go_enter Try.func24,Try.ntmps24
 go_upto_region 0 with fail; refine wp_region_list ?_; refine xpL (.int .i64 0) ?_; refine xT ?_; go_upto_region 1 with fail; refine wp_region_list ?_; refine xpL (.pointer (some ⟨R,0,none⟩)) ?_; refine xpL (.pointer (some ⟨R,0,none⟩)) ?_; refine xpL (.pointer (some ⟨R,0,none⟩)) ?_; have key:=vend18 R kb nb sb cb _ (cellT M.below h0) (cellT M.below h1) hkn; refine xcL key ?_; clear key
 rintro e w1 ⟨rfl,l⟩; replace M:=M.call l; clear l; refine xeL ?_; refine xpL (.int .i64 ((kb+nb:Nat):Int)) ?_; refine xT ?_; have hbel:=M.below; clear M; go_wp2; go_ret
 exact ⟨rfl,hbel⟩
theorem vidle18 (R:Nat) (kb nb:Nat) (sb:Option Addr) (cb:Nat) (w:World) (h0:w.cell? ⟨R,0,none⟩=some (.int .i64 ((kb:Nat):Int))) (h1:w.cell? ⟨R,1,none⟩=some (.slice sb nb cb)) (hkn:kb+nb<4000000) :
 Calls Try.prog 26 #[.pointer (some ⟨R,0,none⟩)] w fun e w'=>e=.returned (.bool (decide (nb=0)))∧Below w.heap.size w w':=by
 have M:=Mm.init w
 go_enter Try.func26,Try.ntmps26
 go_upto_region 0 with fail; refine wp_region_list ?_; refine xpL (.bool false) ?_; refine xT ?_; go_upto_region 1 with fail; refine wp_region_held_drew (S:=fun w'=>Below w.heap.size w w') (by kernel_rfl) M.drew.below ?_; intro _; replace M:=M.drew; have hdr:=(Below.refl w.heap.size w).drew; clear hdr; generalize w.drew=w1 at M  ⊢
 refine xrH 0 3 rfl (.pointer (some ⟨R,0,none⟩)) (fun _ hS=>(by kernel_rfl)) M.below ?_; refine xrH 1 4 rfl (.pointer (some ⟨R,0,none⟩)) (fun _ hS=>(by kernel_rfl)) M.below ?_; refine xrH 2 5 rfl (.pointer (some ⟨R,0,none⟩)) (fun _ hS=>(by kernel_rfl)) M.below ?_; refine xrH 3 6 rfl (.pointer (some ⟨R,0,none⟩)) (fun _ hS=>(by kernel_rfl)) M.below ?_
 refine xrH 4 7 rfl (.int .i64 ((kb:Nat):Int)) (fun _ hS=>load1 3 _ ⟨R,0,none⟩ _ rfl rfl (fun _=>by kernel_rfl) (cellT hS h0)) M.below ?_; refine xrH 5 8 rfl (.pointer (some ⟨R,0,none⟩)) (fun _ hS=>(by kernel_rfl)) M.below ?_; refine xrH 6 9 rfl (.pointer (some ⟨R,0,none⟩)) (fun _ hS=>(by kernel_rfl)) M.below ?_
 refine xrH 7 10 rfl (.pointer (some ⟨R,0,none⟩)) (fun _ hS=>(by kernel_rfl)) M.below ?_; have key:=vend18 R kb nb sb cb _ (cellT M.below h0) (cellT M.below h1) hkn; refine callH (i:=8) (some 11) rfl (by kernel_rfl) rfl rfl (fun _=>by kernel_rfl) key ?_; clear key; rintro e w2 ⟨rfl,l⟩; replace M:=M.call l; clear l
 refine ⟨_,rfl,M.below,?_⟩
 simp only [aP,lI,l0,lS]; refine xrH 9 12 rfl (.bool (decide (nb=0))) (fun _ hS=>eqlI .i64 _ _ _ _ _ _ rfl rfl rfl (decide (nb=0)) (by rw [Bool.eq_iff_iff,beq_iff_eq,decide_eq_true_eq]; omega) _) M.below ?_; refine xrH 10 2 rfl (.bool (decide (nb=0))) (fun _ hS=>(by kernel_rfl)) M.below ?_
 refine wpAnyH_done (by kernel_rfl) ?_ _
 first | show Exit.then _ _ _ _ _ | show Exit.inBlock _ _ _ _ _
 have hbel:=M.below; clear M; go_wp2; go_ret
 exact ⟨rfl,hbel⟩
theorem vblk18 (R:Nat) (kb nb st:Nat) (lim:Int) (sb sg:Option Addr) (cb cg:Nat) (G:Rgs17) (hcg:Can G) (hlg:G.length<1000000) (w:World) (h0:w.cell? ⟨R,0,none⟩=some (.int .i64 ((kb:Nat):Int))) (h1:w.cell? ⟨R,1,none⟩=some (.slice sb nb cb)) (h3:w.cell? ⟨R,3,none⟩=some (.int .i64 lim)) (h4:w.cell? ⟨R,4,none⟩=some (.int .i64 ((st:Nat):Int))) (h5:w.cell? ⟨R,5,none⟩=some (.slice sg G.length cg)) (hkn:kb+nb<4000000) (N:NewW w 0 G (.slice sg G.length cg)) :
 Calls Try.prog 28 #[.pointer (some ⟨R,0,none⟩)] w fun e w'=>e=.returned (.bool (!rgB G 0 st&&(decide ((kb+nb:Nat)>st)&&decide ((st:Int)≥lim))))∧Below w.heap.size w w':=by
 have M:=Mm.init w
 go_enter Try.func28,Try.ntmps28
 go_upto_region 0 with fail; refine wp_region_list ?_; refine xpL (.bool false) ?_; refine xT ?_
 cases hb:rgB G 0 st with
 | true =>
   go_upto_region 1 with fail; refine wp_region_held_drew (S:=fun w'=>Below w.heap.size w w') (by kernel_rfl) M.drew.below ?_; intro _; replace M:=M.drew; have hdr:=(Below.refl w.heap.size w).drew; clear hdr; generalize w.drew=w1 at M  ⊢; refine xrH 0 3 rfl (.pointer (some ⟨R,0,none⟩)) (fun _ hS=>(by kernel_rfl)) M.below ?_
   refine xrH 1 4 rfl (.pointer (some ⟨R,0,none⟩)) (fun _ hS=>(by kernel_rfl)) M.below ?_; refine xrH 2 5 rfl (.pointer (some ⟨R,5,none⟩)) (fun _ hS=>(by kernel_rfl)) M.below ?_; refine xrH 3 6 rfl (.pointer (some ⟨R,0,none⟩)) (fun _ hS=>(by kernel_rfl)) M.below ?_; refine xrH 4 7 rfl (.pointer (some ⟨R,0,none⟩)) (fun _ hS=>(by kernel_rfl)) M.below ?_
   refine xrH 5 8 rfl (.pointer (some ⟨R,4,none⟩)) (fun _ hS=>(by kernel_rfl)) M.below ?_; refine xrH 6 9 rfl (.int .i64 ((st:Nat):Int)) (fun _ hS=>load1 3 _ ⟨R,4,none⟩ _ rfl rfl (fun _=>by kernel_rfl) (cellT hS h4)) M.below ?_; have key:=vcov_any R 5 sg cg G hcg hlg 0 st _ (cellT M.below h5) (NewW.below N M.below)
   rw [hb] at key
   refine callH (i:=7) (some 10) rfl (by kernel_rfl) rfl rfl (fun _=>by kernel_rfl) key ?_; clear key; rintro e w2 ⟨rfl,l⟩; replace M:=M.call l; clear l
   refine ⟨_,rfl,M.below,?_⟩
   simp only [aP,lI,l0,lS]; refine xrH 8 11 rfl (.bool false) (fun _ hS=>(by kernel_rfl)) M.below ?_; refine mayH (i:=9) (some 12) rfl false undef undef rfl rfl rfl (fun hc=>by cases hc) (by kernel_rfl) (by kernel_rfl) (by kernel_rfl) (fun _ _ _ h=>h) M.below ?_; simp only [aP,lI,l0,lS]
   refine mayH (i:=10) (some 13) rfl false undef undef rfl rfl rfl (fun hc=>by cases hc) (by kernel_rfl) (by kernel_rfl) (by kernel_rfl) (fun _ _ _ h=>h) M.below ?_; simp only [aP,lI,l0,lS]; refine mayH (i:=11) (some 14) rfl false undef undef rfl rfl rfl (fun hc=>by cases hc) (by kernel_rfl) (by kernel_rfl) (by kernel_rfl) (fun _ _ _ h=>h) M.below ?_; simp only [aP,lI,l0,lS]
   refine mayH (i:=13) (some 16) rfl false undef undef rfl rfl rfl (fun hc=>by cases hc) (by kernel_rfl) (by kernel_rfl) (by kernel_rfl) (fun _ _ _ h=>h) M.below ?_; simp only [aP,lI,l0,lS]; refine mayH (i:=14) (some 17) rfl false undef undef rfl rfl rfl (fun hc=>by cases hc) (by kernel_rfl) (by kernel_rfl) (by kernel_rfl) (fun _ _ _ h=>h) M.below ?_; simp only [aP,lI,l0,lS]
   refine mayH (i:=15) (some 18) rfl false undef undef rfl rfl rfl (fun hc=>by cases hc) (by kernel_rfl) (by kernel_rfl) (by kernel_rfl) (fun _ _ _ h=>h) M.below ?_; simp only [aP,lI,l0,lS]; refine mayH (i:=16) (some 19) rfl false undef undef rfl rfl rfl (fun hc=>by cases hc) (by kernel_rfl) (by kernel_rfl) (by kernel_rfl) (fun _ _ _ h=>h) M.below ?_; simp only [aP,lI,l0,lS]
   refine mayH (i:=12) (some 15) rfl false undef undef rfl rfl rfl (fun hc=>by cases hc) (by kernel_rfl) (by kernel_rfl) (by kernel_rfl) (fun _ _ _ h=>h) M.below ?_; simp only [aP,lI,l0,lS]; refine mayH (i:=17) (some 20) rfl false undef undef rfl rfl rfl (fun hc=>by cases hc) (by kernel_rfl) (by kernel_rfl) (by kernel_rfl) (fun _ _ _ h=>h) M.below ?_; simp only [aP,lI,l0,lS]
   refine xrH 18 21 rfl (.bool false) (fun _ hS=>(by kernel_rfl)) M.below ?_; refine xrH 19 22 rfl (.bool false) (fun _ hS=>(by kernel_rfl)) M.below ?_; refine mayH (i:=20) (some 23) rfl false undef undef rfl rfl rfl (fun hc=>by cases hc) (by kernel_rfl) (by kernel_rfl) (by kernel_rfl) (fun _ _ _ h=>h) M.below ?_; simp only [aP,lI,l0,lS]
   refine mayH (i:=21) (some 24) rfl false undef undef rfl rfl rfl (fun hc=>by cases hc) (by kernel_rfl) (by kernel_rfl) (by kernel_rfl) (fun _ _ _ h=>h) M.below ?_; simp only [aP,lI,l0,lS]; refine mayH (i:=22) (some 25) rfl false undef undef rfl rfl rfl (fun hc=>by cases hc) (by kernel_rfl) (by kernel_rfl) (by kernel_rfl) (fun _ _ _ h=>h) M.below ?_; simp only [aP,lI,l0,lS]
   refine mayH (i:=23) (some 26) rfl false undef undef rfl rfl rfl (fun hc=>by cases hc) (by kernel_rfl) (by kernel_rfl) (by kernel_rfl) (fun _ _ _ h=>h) M.below ?_; simp only [aP,lI,l0,lS]; refine mayH (i:=24) (some 27) rfl false undef undef rfl rfl rfl (fun hc=>by cases hc) (by kernel_rfl) (by kernel_rfl) (by kernel_rfl) (fun _ _ _ h=>h) M.below ?_; simp only [aP,lI,l0,lS]
   refine mayH (i:=25) (some 28) rfl false undef undef rfl rfl rfl (fun hc=>by cases hc) (by kernel_rfl) (by kernel_rfl) (by kernel_rfl) (fun _ _ _ h=>h) M.below ?_; simp only [aP,lI,l0,lS]; refine mayH (i:=26) (some 29) rfl false undef undef rfl rfl rfl (fun hc=>by cases hc) (by kernel_rfl) (by kernel_rfl) (by kernel_rfl) (fun _ _ _ h=>h) M.below ?_; simp only [aP,lI,l0,lS]
   refine mayH (i:=27) (some 30) rfl false undef undef rfl rfl rfl (fun hc=>by cases hc) (by kernel_rfl) (by kernel_rfl) (by kernel_rfl) (fun _ _ _ h=>h) M.below ?_; simp only [aP,lI,l0,lS]; refine mayH (i:=28) (some 31) rfl false undef undef rfl rfl rfl (fun hc=>by cases hc) (by kernel_rfl) (by kernel_rfl) (by kernel_rfl) (fun _ _ _ h=>h) M.below ?_; simp only [aP,lI,l0,lS]
   refine xrH 29 32 rfl (.bool false) (fun _ hS=>(by kernel_rfl)) M.below ?_; refine xrH 30 2 rfl (.bool false) (fun _ hS=>(by kernel_rfl)) M.below ?_
   refine wpAnyH_done (by kernel_rfl) ?_ _
   first | show Exit.then _ _ _ _ _ | show Exit.inBlock _ _ _ _ _
   have hE:=show Hid _ from (show (!rgB G 0 st&&(decide ((kb+nb:Nat)>st)&&decide ((st:Int)≥lim)))=false by rw [hb]; simp); have hbel:=M.below; clear M; go_wp2; go_ret
   exact ⟨by rw [hE.out]; try rfl,hbel⟩
 | false =>
   by_cases hq1:(kb+nb:Nat)>st
   · go_upto_region 1 with fail
     refine wp_region_held_drew (S:=fun w'=>Below w.heap.size w w') (by kernel_rfl) M.drew.below ?_; intro _; replace M:=M.drew; have hdr:=(Below.refl w.heap.size w).drew; clear hdr; generalize w.drew=w6 at M  ⊢; refine xrH 0 3 rfl (.pointer (some ⟨R,0,none⟩)) (fun _ hS=>(by kernel_rfl)) M.below ?_
     refine xrH 1 4 rfl (.pointer (some ⟨R,0,none⟩)) (fun _ hS=>(by kernel_rfl)) M.below ?_; refine xrH 2 5 rfl (.pointer (some ⟨R,5,none⟩)) (fun _ hS=>(by kernel_rfl)) M.below ?_; refine xrH 3 6 rfl (.pointer (some ⟨R,0,none⟩)) (fun _ hS=>(by kernel_rfl)) M.below ?_; refine xrH 4 7 rfl (.pointer (some ⟨R,0,none⟩)) (fun _ hS=>(by kernel_rfl)) M.below ?_
     refine xrH 5 8 rfl (.pointer (some ⟨R,4,none⟩)) (fun _ hS=>(by kernel_rfl)) M.below ?_; refine xrH 6 9 rfl (.int .i64 ((st:Nat):Int)) (fun _ hS=>load1 3 _ ⟨R,4,none⟩ _ rfl rfl (fun _=>by kernel_rfl) (cellT hS h4)) M.below ?_; have key:=vcov_any R 5 sg cg G hcg hlg 0 st _ (cellT M.below h5) (NewW.below N M.below)
     rw [hb] at key
     refine callH (i:=7) (some 10) rfl (by kernel_rfl) rfl rfl (fun _=>by kernel_rfl) key ?_; clear key; rintro e w7 ⟨rfl,l⟩; replace M:=M.call l; clear l
     refine ⟨_,rfl,M.below,?_⟩
     simp only [aP,lI,l0,lS]; refine xrH 8 11 rfl (.bool true) (fun _ hS=>(by kernel_rfl)) M.below ?_; refine xrH 9 12 rfl (.pointer (some ⟨R,0,none⟩)) (fun _ hS=>(by kernel_rfl)) M.below ?_; refine xrH 10 13 rfl (.pointer (some ⟨R,0,none⟩)) (fun _ hS=>(by kernel_rfl)) M.below ?_; refine xrH 11 14 rfl (.pointer (some ⟨R,0,none⟩)) (fun _ hS=>(by kernel_rfl)) M.below ?_
     refine xrH 13 16 rfl (.pointer (some ⟨R,0,none⟩)) (fun _ hS=>(by kernel_rfl)) M.below ?_; refine xrH 14 17 rfl (.pointer (some ⟨R,0,none⟩)) (fun _ hS=>(by kernel_rfl)) M.below ?_; refine xrH 15 18 rfl (.pointer (some ⟨R,4,none⟩)) (fun _ hS=>(by kernel_rfl)) M.below ?_
     refine xrH 16 19 rfl (.int .i64 ((st:Nat):Int)) (fun _ hS=>load1 3 _ ⟨R,4,none⟩ _ rfl rfl (fun _=>by kernel_rfl) (cellT hS h4)) M.below ?_; have key:=vend18 R kb nb sb cb _ (cellT M.below h0) (cellT M.below h1) hkn; refine callH (i:=12) (some 15) rfl (by kernel_rfl) rfl rfl (fun _=>by kernel_rfl) key ?_; clear key; rintro e w8 ⟨rfl,l⟩; replace M:=M.call l; clear l
     refine ⟨_,rfl,M.below,?_⟩
     simp only [aP,lI,l0,lS]; refine xrH 17 20 rfl (.bool true) (fun _ hS=>gtrI .i64 _ _ _ _ _ _ rfl rfl rfl true (decide_eq_true (by omega)) _) M.below ?_; refine xrH 18 21 rfl (.bool true) (fun _ hS=>(by kernel_rfl)) M.below ?_; refine xrH 19 22 rfl (.bool true) (fun _ hS=>(by kernel_rfl)) M.below ?_
     refine xrH 20 23 rfl (.pointer (some ⟨R,0,none⟩)) (fun _ hS=>(by kernel_rfl)) M.below ?_; refine xrH 21 24 rfl (.pointer (some ⟨R,0,none⟩)) (fun _ hS=>(by kernel_rfl)) M.below ?_; refine xrH 22 25 rfl (.pointer (some ⟨R,4,none⟩)) (fun _ hS=>(by kernel_rfl)) M.below ?_
     refine xrH 23 26 rfl (.int .i64 ((st:Nat):Int)) (fun _ hS=>load1 3 _ ⟨R,4,none⟩ _ rfl rfl (fun _=>by kernel_rfl) (cellT hS h4)) M.below ?_; refine xrH 24 27 rfl (.pointer (some ⟨R,0,none⟩)) (fun _ hS=>(by kernel_rfl)) M.below ?_; refine xrH 25 28 rfl (.pointer (some ⟨R,0,none⟩)) (fun _ hS=>(by kernel_rfl)) M.below ?_
     refine xrH 26 29 rfl (.pointer (some ⟨R,3,none⟩)) (fun _ hS=>(by kernel_rfl)) M.below ?_; refine xrH 27 30 rfl (.int .i64 lim) (fun _ hS=>load1 3 _ ⟨R,3,none⟩ _ rfl rfl (fun _=>by kernel_rfl) (cellT hS h3)) M.below ?_; refine xrH 28 31 rfl (.bool (decide ((st:Int)≥lim))) (fun _ hS=>geqI .i64 _ _ _ _ _ _ rfl rfl rfl (decide ((st:Int)≥lim)) rfl _) M.below ?_
     refine xrH 29 32 rfl (.bool (decide ((st:Int)≥lim))) (fun _ hS=>(by kernel_rfl)) M.below ?_; refine xrH 30 2 rfl (.bool (decide ((st:Int)≥lim))) (fun _ hS=>(by kernel_rfl)) M.below ?_
     refine wpAnyH_done (by kernel_rfl) ?_ _
     first | show Exit.then _ _ _ _ _ | show Exit.inBlock _ _ _ _ _
     have hE:=show Hid _ from (show (!rgB G 0 st&&(decide ((kb+nb:Nat)>st)&&decide ((st:Int)≥lim)))=decide ((st:Int)≥lim) by rw [hb,decide_eq_true hq1]; simp); have hbel:=M.below; clear M; go_wp2; go_ret
     exact ⟨by rw [hE.out]; try rfl,hbel⟩
   · go_upto_region 1 with fail
     refine wp_region_held_drew (S:=fun w'=>Below w.heap.size w w') (by kernel_rfl) M.drew.below ?_; intro _; replace M:=M.drew; have hdr:=(Below.refl w.heap.size w).drew; clear hdr; generalize w.drew=w3 at M  ⊢; refine xrH 0 3 rfl (.pointer (some ⟨R,0,none⟩)) (fun _ hS=>(by kernel_rfl)) M.below ?_
     refine xrH 1 4 rfl (.pointer (some ⟨R,0,none⟩)) (fun _ hS=>(by kernel_rfl)) M.below ?_; refine xrH 2 5 rfl (.pointer (some ⟨R,5,none⟩)) (fun _ hS=>(by kernel_rfl)) M.below ?_; refine xrH 3 6 rfl (.pointer (some ⟨R,0,none⟩)) (fun _ hS=>(by kernel_rfl)) M.below ?_; refine xrH 4 7 rfl (.pointer (some ⟨R,0,none⟩)) (fun _ hS=>(by kernel_rfl)) M.below ?_
     refine xrH 5 8 rfl (.pointer (some ⟨R,4,none⟩)) (fun _ hS=>(by kernel_rfl)) M.below ?_; refine xrH 6 9 rfl (.int .i64 ((st:Nat):Int)) (fun _ hS=>load1 3 _ ⟨R,4,none⟩ _ rfl rfl (fun _=>by kernel_rfl) (cellT hS h4)) M.below ?_; have key:=vcov_any R 5 sg cg G hcg hlg 0 st _ (cellT M.below h5) (NewW.below N M.below)
     rw [hb] at key
     refine callH (i:=7) (some 10) rfl (by kernel_rfl) rfl rfl (fun _=>by kernel_rfl) key ?_; clear key; rintro e w4 ⟨rfl,l⟩; replace M:=M.call l; clear l
     refine ⟨_,rfl,M.below,?_⟩
     simp only [aP,lI,l0,lS]; refine xrH 8 11 rfl (.bool true) (fun _ hS=>(by kernel_rfl)) M.below ?_; refine xrH 9 12 rfl (.pointer (some ⟨R,0,none⟩)) (fun _ hS=>(by kernel_rfl)) M.below ?_; refine xrH 10 13 rfl (.pointer (some ⟨R,0,none⟩)) (fun _ hS=>(by kernel_rfl)) M.below ?_; refine xrH 11 14 rfl (.pointer (some ⟨R,0,none⟩)) (fun _ hS=>(by kernel_rfl)) M.below ?_
     refine xrH 13 16 rfl (.pointer (some ⟨R,0,none⟩)) (fun _ hS=>(by kernel_rfl)) M.below ?_; refine xrH 14 17 rfl (.pointer (some ⟨R,0,none⟩)) (fun _ hS=>(by kernel_rfl)) M.below ?_; refine xrH 15 18 rfl (.pointer (some ⟨R,4,none⟩)) (fun _ hS=>(by kernel_rfl)) M.below ?_
     refine xrH 16 19 rfl (.int .i64 ((st:Nat):Int)) (fun _ hS=>load1 3 _ ⟨R,4,none⟩ _ rfl rfl (fun _=>by kernel_rfl) (cellT hS h4)) M.below ?_; have key:=vend18 R kb nb sb cb _ (cellT M.below h0) (cellT M.below h1) hkn; refine callH (i:=12) (some 15) rfl (by kernel_rfl) rfl rfl (fun _=>by kernel_rfl) key ?_; clear key; rintro e w5 ⟨rfl,l⟩; replace M:=M.call l; clear l
     refine ⟨_,rfl,M.below,?_⟩
     simp only [aP,lI,l0,lS]; refine xrH 17 20 rfl (.bool false) (fun _ hS=>gtrI .i64 _ _ _ _ _ _ rfl rfl rfl false (decide_eq_false (by omega)) _) M.below ?_; refine xrH 18 21 rfl (.bool false) (fun _ hS=>(by kernel_rfl)) M.below ?_; refine xrH 19 22 rfl (.bool false) (fun _ hS=>(by kernel_rfl)) M.below ?_
     refine mayH (i:=20) (some 23) rfl false undef undef rfl rfl rfl (fun hc=>by cases hc) (by kernel_rfl) (by kernel_rfl) (by kernel_rfl) (fun _ _ _ h=>h) M.below ?_; simp only [aP,lI,l0,lS]; refine mayH (i:=21) (some 24) rfl false undef undef rfl rfl rfl (fun hc=>by cases hc) (by kernel_rfl) (by kernel_rfl) (by kernel_rfl) (fun _ _ _ h=>h) M.below ?_; simp only [aP,lI,l0,lS]
     refine mayH (i:=22) (some 25) rfl false undef undef rfl rfl rfl (fun hc=>by cases hc) (by kernel_rfl) (by kernel_rfl) (by kernel_rfl) (fun _ _ _ h=>h) M.below ?_; simp only [aP,lI,l0,lS]; refine mayH (i:=23) (some 26) rfl false undef undef rfl rfl rfl (fun hc=>by cases hc) (by kernel_rfl) (by kernel_rfl) (by kernel_rfl) (fun _ _ _ h=>h) M.below ?_; simp only [aP,lI,l0,lS]
     refine mayH (i:=24) (some 27) rfl false undef undef rfl rfl rfl (fun hc=>by cases hc) (by kernel_rfl) (by kernel_rfl) (by kernel_rfl) (fun _ _ _ h=>h) M.below ?_; simp only [aP,lI,l0,lS]; refine mayH (i:=25) (some 28) rfl false undef undef rfl rfl rfl (fun hc=>by cases hc) (by kernel_rfl) (by kernel_rfl) (by kernel_rfl) (fun _ _ _ h=>h) M.below ?_; simp only [aP,lI,l0,lS]
     refine mayH (i:=26) (some 29) rfl false undef undef rfl rfl rfl (fun hc=>by cases hc) (by kernel_rfl) (by kernel_rfl) (by kernel_rfl) (fun _ _ _ h=>h) M.below ?_; simp only [aP,lI,l0,lS]; refine mayH (i:=27) (some 30) rfl false undef undef rfl rfl rfl (fun hc=>by cases hc) (by kernel_rfl) (by kernel_rfl) (by kernel_rfl) (fun _ _ _ h=>h) M.below ?_; simp only [aP,lI,l0,lS]
     refine mayH (i:=28) (some 31) rfl false undef undef rfl rfl rfl (fun hc=>by cases hc) (by kernel_rfl) (by kernel_rfl) (by kernel_rfl) (fun _ _ _ h=>h) M.below ?_; simp only [aP,lI,l0,lS]; refine xrH 29 32 rfl (.bool false) (fun _ hS=>(by kernel_rfl)) M.below ?_; refine xrH 30 2 rfl (.bool false) (fun _ hS=>(by kernel_rfl)) M.below ?_
     refine wpAnyH_done (by kernel_rfl) ?_ _
     first | show Exit.then _ _ _ _ _ | show Exit.inBlock _ _ _ _ _
     have hE:=show Hid _ from (show (!rgB G 0 st&&(decide ((kb+nb:Nat)>st)&&decide ((st:Int)≥lim)))=false by rw [hb,decide_eq_false hq1]; simp); have hbel:=M.below; clear M; go_wp2; go_ret
     exact ⟨by rw [hE.out]; try rfl,hbel⟩
theorem vpiece18 (R:Nat) (kb nb:Nat) (sb:Option Addr) (cb:Nat) (bf:Nat→Int) (f t:Nat) (w:World) (h0:w.cell? ⟨R,0,none⟩=some (.int .i64 ((kb:Nat):Int))) (h1:w.cell? ⟨R,1,none⟩=some (.slice sb nb cb)) (W_b:Wnd w sb nb cb bf) (hkf:kb≤f) (hft:f≤t) (htn:t≤kb+nb) (hkn:kb+nb<4000000) :
 Calls Try.prog 34 #[.pointer (some ⟨R,0,none⟩),.int .i64 ((f:Nat):Int),.int .i64 ((t:Nat):Int)] w fun e w'=>∃ B,e=.returned (.slice (some ⟨B,0,none⟩) (t-f) (t-f))∧w.heap.size≤B∧Wnd w' (some ⟨B,0,none⟩) (t-f) (t-f) (fun j=>bf (f-kb+j))∧Below w.heap.size w w':=by
 have M:=Mm.init w
 go_enter Try.func34,Try.ntmps34
 go_upto_region 0 with fail; refine wp_region_list ?_; refine xpL (.slice none 0 0) ?_; refine xT ?_; go_upto_region 1 with fail; refine wp_region_list ?_; refine xpL (.int .i64 ((t:Nat):Int)) ?_; refine xpL (.int .i64 ((f:Nat):Int)) ?_; refine xaL (.int .i64 ((t-f:Nat):Int)) (subI .i64 _ _ _ _ _ _ _ rfl rfl rfl (by rw [xw6]; omega) _) ?_
 have hlb:=(Below.refl w.heap.size w).alloc (xnR _) (.cells (row .u8 (t-f) (fun _=>0)).toArray 5); refine actL (w':=w.alloc (.cells (row .u8 (t-f) (fun _=>0)).toArray 5)) (.slice (some ⟨w.heap.size,0,none⟩) (t-f) (t-f)) rfl (makeOp _ _ _ _ _ _ rfl rfl rfl (made8 (t-f) (by omega) _)) ?_; simp only [aP,lI,l0,lS]; have hB_:=M.below.size
 replace M:=M.box (row .u8 (t-f) (fun _=>0)).toArray 5 w.heap.size rfl; clear hlb; generalize w.alloc (.cells (row .u8 (t-f) (fun _=>0)).toArray 5)=w1 at M ⊢; generalize eB_:w.heap.size=B at M ⊢
 replace hB_:w.heap.size≤B:=by rw [← eB_]; exact hB_
 clear eB_
 replace M:Mm w [(B,row .u8 (t-f) (fun _=>0))] w1:=M
 refine xpL (.slice (some ⟨B,0,none⟩) (t-f) (t-f)) ?_; refine xT ?_; go_upto_region 2 with fail; refine wp_region_held_drew (S:=fun w'=>Below w.heap.size w w') (by kernel_rfl) M.drew.below ?_; intro _; replace M:=M.drew; have hdr:=(Below.refl w1.heap.size w1).drew; clear hdr; generalize w1.drew=w2 at M  ⊢
 refine xrH 0 12 rfl (.slice (some ⟨B,0,none⟩) (t-f) (t-f)) (fun _ hS=>(by kernel_rfl)) M.below ?_; refine xrH 1 13 rfl (.pointer (some ⟨R,0,none⟩)) (fun _ hS=>(by kernel_rfl)) M.below ?_; refine xrH 2 14 rfl (.pointer (some ⟨R,0,none⟩)) (fun _ hS=>(by kernel_rfl)) M.below ?_; refine xrH 3 15 rfl (.pointer (some ⟨R,1,none⟩)) (fun _ hS=>(by kernel_rfl)) M.below ?_
 refine xrH 4 16 rfl (.slice sb nb cb) (fun _ hS=>load1 28 _ ⟨R,1,none⟩ _ rfl rfl (fun _=>by kernel_rfl) (cellT hS h1)) M.below ?_; refine xrH 5 17 rfl (.int .i64 ((f:Nat):Int)) (fun _ hS=>(by kernel_rfl)) M.below ?_; refine xrH 6 18 rfl (.pointer (some ⟨R,0,none⟩)) (fun _ hS=>(by kernel_rfl)) M.below ?_
 refine xrH 7 19 rfl (.pointer (some ⟨R,0,none⟩)) (fun _ hS=>(by kernel_rfl)) M.below ?_; refine xrH 8 20 rfl (.pointer (some ⟨R,0,none⟩)) (fun _ hS=>(by kernel_rfl)) M.below ?_; refine xrH 9 21 rfl (.int .i64 ((kb:Nat):Int)) (fun _ hS=>load1 3 _ ⟨R,0,none⟩ _ rfl rfl (fun _=>by kernel_rfl) (cellT hS h0)) M.below ?_
 refine xrH 10 22 rfl (.int .i64 ((f-kb:Nat):Int)) (fun _ hS=>subI .i64 _ _ _ _ _ _ _ rfl rfl rfl (by rw [xw6]; omega) _) M.below ?_; refine xrH 11 23 rfl (.slice (slc sb cb (f-kb)) (nb-(f-kb)) (cb-(f-kb))) (fun _ hS=>cutOp 28 _ _ _ _ _ rfl rfl rfl (slc_run (P:=Try.prog) (t:=28) Try.underlying28 (fun _=>by kernel_rfl) sb nb cb (f-kb) (by omega) _)) M.below ?_
 have hsr:Src w2 (slc sb cb (f-kb)) (t-f) (fun j=>bf (f-kb+j)):=fun j hj=>((W_b.bel M.below).cut (m:=f-kb) (by omega)).src j (by omega)
 have hth:=M.there mS (t-f) (row_length ..).symm; have hbl:=below_setAll M.below B hB_ 0 (row .u8 (t-f) (fun j=>bf (f-kb+j))); replace M:=M.setAll (row .u8 (t-f) (fun j=>bf (f-kb+j))) (by rw [row_length,row_length])
 refine onlyH (i:=12) (some 24) rfl (.int .i64 ((t-f:Nat):Int)) (by kernel_rfl) rfl rfl (run_copy_wnd _ _ 28 28 5 rfl Try.underlying28 (by kernel_rfl) B (t-f) (t-f) (nb-(f-kb)) (cb-(f-kb)) (t-f) (fun j=>bf (f-kb+j)) (slc sb cb (f-kb)) rfl rfl (by show t-f=min _ _; omega) hth hsr) hbl ?_; simp only [aP,lI,l0,lS]; clear hsr hth hbl
 generalize w2.setCells B 0 (row .u8 (t-f) (fun j=>bf (f-kb+j)))=w3 at M ⊢
 refine wpAnyH_done (by kernel_rfl) ?_ _
 first | show Exit.then _ _ _ _ _ | show Exit.inBlock _ _ _ _ _
 go_upto_region 3 with fail; refine wp_region_list ?_; refine xpL (.slice (some ⟨B,0,none⟩) (t-f) (t-f)) ?_; refine xpL (.slice (some ⟨B,0,none⟩) (t-f) (t-f)) ?_; refine xT ?_; have HS:=show Hid _ from (And.intro hB_ (And.intro (M.wnd (by unfold maxLen; omega)) M.below)); clear M; go_wp2; go_ret
 first | exact ⟨B,rfl,HS.out⟩ | exact ⟨rfl,HS.out⟩
theorem vdrop18 (w0 w:World) (R:Nat) (T:List (Nat × List Value)) (kb nb st:Nat) (s lim:Int) (sb sg sa:Option Addr) (cb cg ca:Nat) (G A:Rgs17) (k:Nat) (hk1:kb≤k) (hk2:k≤kb+nb) (hkn:kb+nb<4000000) (M0:Mm w0 ((R,[.int .i64 ((kb:Nat):Int),.slice sb nb cb,.int .i64 s,.int .i64 lim,.int .i64 ((st:Nat):Int),.slice sg G.length cg,.slice sa A.length ca])::T) w) :
 Calls Try.prog 38 #[.pointer (some ⟨R,0,none⟩),.int .i64 ((k:Nat):Int)] w fun e w'=>e=.returned (.tuple #[])∧Mm w0 ((R,[.int .i64 ((k:Nat):Int),.slice (slc sb cb (k-kb)) (nb-(k-kb)) (cb-(k-kb)),.int .i64 s,.int .i64 lim,.int .i64 ((st:Nat):Int),.slice sg G.length cg,.slice sa A.length ca])::T) w'∧Off [R] w w':=by
 have M:=M0; clear M0; have hb0:=M.below
 obtain ⟨XS,hXS⟩:∃ X_,X_=[R]:=⟨_,rfl⟩
 have hRX:R∈XS:=by rw [hXS]; simp
 have OF:=Off.refl XS w
 go_enter Try.func38,Try.ntmps38
 go_upto_region 0 with fail; have hdr:=(Below.refl w.heap.size w).drew; replace M:=M.drew; replace OF:=OF.below hdr; clear hdr
 refine wp_region_C (S:=fun w'=>Mm w0 [(R,[.int .i64 ((kb:Nat):Int),.slice sb nb cb,.int .i64 s,.int .i64 lim,.int .i64 ((st:Nat):Int),.slice sg G.length cg,.slice sa A.length ca])] w') 14 (by kernel_rfl) (M.sub _ (List.cons_sublist_cons.2 (List.nil_sublist _))) ?_; intro _; generalize w.drew=w1 at M OF ⊢
 refine readC (i:=0) (some 4) rfl (.pointer (some ⟨R,0,none⟩)) rfl rfl (by kernel_rfl) rfl (fun _ hS=>(by kernel_rfl)) (by kernel_rfl) (by kernel_rfl) (by kernel_rfl) (by kernel_rfl) (fun _ _ _ h=>h) (M.sub _ (List.cons_sublist_cons.2 (List.nil_sublist _))) ?_; simp only [aP,lI,l0,lS]
 refine readC (i:=1) (some 5) rfl (.pointer (some ⟨R,0,none⟩)) rfl rfl (by kernel_rfl) rfl (fun _ hS=>(by kernel_rfl)) (by kernel_rfl) (by kernel_rfl) (by kernel_rfl) (by kernel_rfl) (fun _ _ _ h=>h) (M.sub _ (List.cons_sublist_cons.2 (List.nil_sublist _))) ?_; simp only [aP,lI,l0,lS]
 refine readC (i:=2) (some 6) rfl (.pointer (some ⟨R,0,none⟩)) rfl rfl (by kernel_rfl) rfl (fun _ hS=>(by kernel_rfl)) (by kernel_rfl) (by kernel_rfl) (by kernel_rfl) (by kernel_rfl) (fun _ _ _ h=>h) (M.sub _ (List.cons_sublist_cons.2 (List.nil_sublist _))) ?_; simp only [aP,lI,l0,lS]
 refine readC (i:=3) (some 7) rfl (.pointer (some ⟨R,1,none⟩)) rfl rfl (by kernel_rfl) rfl (fun _ hS=>(by kernel_rfl)) (by kernel_rfl) (by kernel_rfl) (by kernel_rfl) (by kernel_rfl) (fun _ _ _ h=>h) (M.sub _ (List.cons_sublist_cons.2 (List.nil_sublist _))) ?_; simp only [aP,lI,l0,lS]
 refine readC (i:=4) (some 8) rfl (.slice sb nb cb) rfl rfl (by kernel_rfl) rfl (fun _ hS=>load1 28 _ ⟨R,1,none⟩ _ rfl rfl (fun _=>by kernel_rfl) (hS.get mS 1 _ rfl)) (by kernel_rfl) (by kernel_rfl) (by kernel_rfl) (by kernel_rfl) (fun _ _ _ h=>h) (M.sub _ (List.cons_sublist_cons.2 (List.nil_sublist _))) ?_; simp only [aP,lI,l0,lS]
 refine readC (i:=5) (some 9) rfl (.int .i64 ((k:Nat):Int)) rfl rfl (by kernel_rfl) rfl (fun _ hS=>(by kernel_rfl)) (by kernel_rfl) (by kernel_rfl) (by kernel_rfl) (by kernel_rfl) (fun _ _ _ h=>h) (M.sub _ (List.cons_sublist_cons.2 (List.nil_sublist _))) ?_; simp only [aP,lI,l0,lS]
 refine readC (i:=6) (some 10) rfl (.pointer (some ⟨R,0,none⟩)) rfl rfl (by kernel_rfl) rfl (fun _ hS=>(by kernel_rfl)) (by kernel_rfl) (by kernel_rfl) (by kernel_rfl) (by kernel_rfl) (fun _ _ _ h=>h) (M.sub _ (List.cons_sublist_cons.2 (List.nil_sublist _))) ?_; simp only [aP,lI,l0,lS]
 refine readC (i:=7) (some 11) rfl (.pointer (some ⟨R,0,none⟩)) rfl rfl (by kernel_rfl) rfl (fun _ hS=>(by kernel_rfl)) (by kernel_rfl) (by kernel_rfl) (by kernel_rfl) (by kernel_rfl) (fun _ _ _ h=>h) (M.sub _ (List.cons_sublist_cons.2 (List.nil_sublist _))) ?_; simp only [aP,lI,l0,lS]
 refine readC (i:=8) (some 12) rfl (.pointer (some ⟨R,0,none⟩)) rfl rfl (by kernel_rfl) rfl (fun _ hS=>(by kernel_rfl)) (by kernel_rfl) (by kernel_rfl) (by kernel_rfl) (by kernel_rfl) (fun _ _ _ h=>h) (M.sub _ (List.cons_sublist_cons.2 (List.nil_sublist _))) ?_; simp only [aP,lI,l0,lS]
 refine readC (i:=9) (some 13) rfl (.int .i64 ((kb:Nat):Int)) rfl rfl (by kernel_rfl) rfl (fun _ hS=>load1 3 _ ⟨R,0,none⟩ _ rfl rfl (fun _=>by kernel_rfl) (hS.get mS 0 _ rfl)) (by kernel_rfl) (by kernel_rfl) (by kernel_rfl) (by kernel_rfl) (fun _ _ _ h=>h) (M.sub _ (List.cons_sublist_cons.2 (List.nil_sublist _))) ?_; simp only [aP,lI,l0,lS]
 refine readC (i:=10) (some 14) rfl (.int .i64 ((k-kb:Nat):Int)) rfl rfl (by kernel_rfl) rfl (fun _ hS=>subI .i64 _ _ _ _ _ _ _ rfl rfl rfl (by rw [xw6]; omega) _) (by kernel_rfl) (by kernel_rfl) (by kernel_rfl) (by kernel_rfl) (fun _ _ _ h=>h) (M.sub _ (List.cons_sublist_cons.2 (List.nil_sublist _))) ?_; simp only [aP,lI,l0,lS]
 refine readC (i:=11) (some 15) rfl (.slice (slc sb cb (k-kb)) (nb-(k-kb)) (cb-(k-kb))) rfl rfl (by kernel_rfl) rfl (fun _ hS=>cutOp 28 _ _ _ _ _ rfl rfl rfl (slc_run (P:=Try.prog) (t:=28) Try.underlying28 (fun _=>by kernel_rfl) sb nb cb (k-kb) (by omega) _)) (by kernel_rfl) (by kernel_rfl) (by kernel_rfl) (by kernel_rfl) (fun _ _ _ h=>h) (M.sub _ (List.cons_sublist_cons.2 (List.nil_sublist _))) ?_
 simp only [aP,lI,l0,lS]; refine xqC 12 16 rfl (.pointer (some ⟨R,0,none⟩)) (fun _=>(by kernel_rfl)) (M.sub _ (List.cons_sublist_cons.2 (List.nil_sublist _))) ?_
 refine readC (i:=13) (some 17) rfl (.pointer (some ⟨R,1,none⟩)) rfl rfl (by kernel_rfl) rfl (fun _ hS=>(by kernel_rfl)) (by kernel_rfl) (by kernel_rfl) (by kernel_rfl) (by kernel_rfl) (fun _ _ _ h=>h) (M.sub _ (List.cons_sublist_cons.2 (List.nil_sublist _))) ?_; simp only [aP,lI,l0,lS]
 refine skipC (S2:=fun _=>True) none rfl (by kernel_rfl) rfl rfl (storeAny (.slice (slc sb cb (k-kb)) (nb-(k-kb)) (cb-(k-kb))) R 1 28 _ _ rfl rfl rfl rfl rfl (M.isSome mS 1 (by simp)) (M.free mS 1 (by simp)) (by kernel_rfl)) (by kernel_rfl) ?_; simp only [Act.put]; replace M:=M.set 1 (by simp) (.slice (slc sb cb (k-kb)) (nb-(k-kb)) (cb-(k-kb)))
 replace OF:=OF.and1 ((Off.refl [R] _).set (b:=R) mS 1 (.slice (slc sb cb (k-kb)) (nb-(k-kb)) (cb-(k-kb)))) (.inl hRX); generalize w1.setCell ⟨R,1,none⟩ (.slice (slc sb cb (k-kb)) (nb-(k-kb)) (cb-(k-kb)))=w2 at M OF ⊢
 replace M:Mm w0 ((R,[.int .i64 ((kb:Nat):Int),.slice (slc sb cb (k-kb)) (nb-(k-kb)) (cb-(k-kb)),.int .i64 s,.int .i64 lim,.int .i64 ((st:Nat):Int),.slice sg G.length cg,.slice sa A.length ca])::T) w2:=M
 refine wpAnyH_done (by kernel_rfl) ?_ _
 first | show Exit.then _ _ _ _ _ | show Exit.inBlock _ _ _ _ _
 go_upto_region 1 with fail; refine wp_region_list ?_; refine xpL (.pointer (some ⟨R,0,none⟩)) ?_; refine xpL (.int .i64 ((k:Nat):Int)) ?_; refine xpL (.pointer (some ⟨R,0,none⟩)) ?_; refine xpL (.pointer (some ⟨R,0,none⟩)) ?_; refine skipOpL rfl (storeAny (.int .i64 ((k:Nat):Int)) R 0 3 _ _ rfl rfl rfl rfl rfl (M.isSome mS 0 (by simp)) (M.free mS 0 (by simp)) (by kernel_rfl)) ?_
 simp only [Act.put]; replace M:=M.set 0 (by simp) (.int .i64 ((k:Nat):Int)); replace OF:=OF.and1 ((Off.refl [R] _).set (b:=R) mS 0 (.int .i64 ((k:Nat):Int))) (.inl hRX); generalize w2.setCell ⟨R,0,none⟩ (.int .i64 ((k:Nat):Int))=w3 at M OF ⊢
 replace M:Mm w0 ((R,[.int .i64 ((k:Nat):Int),.slice (slc sb cb (k-kb)) (nb-(k-kb)) (cb-(k-kb)),.int .i64 s,.int .i64 lim,.int .i64 ((st:Nat):Int),.slice sg G.length cg,.slice sa A.length ca])::T) w3:=M
 rw [hXS] at OF
 exact ⟨rfl,.tuple #[],by kernel_rfl,rfl,M,OF⟩
theorem varrive18 (w0 w:World) (R:Nat) (T:List (Nat × List Value)) (kb nb st:Nat) (s lim:Int) (sb sg sa:Option Addr) (cb cg ca:Nat) (G A:Rgs17) (f t:Int) (hcg:Can G) (hca:Can A) (hlg:G.length<1000000) (hla:A.length<1000000) (M0:Mm w0 ((R,[.int .i64 ((kb:Nat):Int),.slice sb nb cb,.int .i64 s,.int .i64 lim,.int .i64 ((st:Nat):Int),.slice sg G.length cg,.slice sa A.length ca])::(obs sg++(obs sa++T))) w) (V_g:w.ownsRow 0 49 2 (.slice sg G.length cg) G.length (wrc G)) (V_a:w.ownsRow 0 49 2 (.slice sa A.length ca) A.length (wrc A)) :
 Calls Try.prog 37 #[.pointer (some ⟨R,0,none⟩),.int .i64 f,.int .i64 t] w fun e w'=>∃ sg' cg' sa' ca',e=.returned (.tuple #[])∧Mm w0 ((R,[.int .i64 ((kb:Nat):Int),.slice sb nb cb,.int .i64 s,.int .i64 lim,.int .i64 ((st:Nat):Int),.slice sg' (rad G f (min t ((st:Nat):Int))).length cg',.slice sa' (rad A f (min t ((st:Nat):Int))).length ca'])::(obs sg'++(obs sa'++T))) w'∧w'.ownsRow 0 49 2 (.slice sg' (rad G f (min t ((st:Nat):Int))).length cg') (rad G f (min t ((st:Nat):Int))).length (wrc (rad G f (min t ((st:Nat):Int))))∧w'.ownsRow 0 49 2 (.slice sa' (rad A f (min t ((st:Nat):Int))).length ca') (rad A f (min t ((st:Nat):Int))).length (wrc (rad A f (min t ((st:Nat):Int))))∧Off (R::(ob sg++ob sa)) w w'∧Lies (R::(ob sg++ob sa)) w sg'∧Lies (R::(ob sg++ob sa)) w sa':=by
 have M:=M0; clear M0; have hb0:=M.below
 obtain ⟨XS,hXS⟩:∃ X_,X_=(R::(ob sg++ob sa)):=⟨_,rfl⟩
 have hRX:R∈XS:=by rw [hXS]; simp
 have L_g:Lies XS w sg:=fun b_ hb_=>.inl (by rw [hXS]; simp [hb_])
 have L_a:Lies XS w sa:=fun b_ hb_=>.inl (by rw [hXS]; simp [hb_])
 have OF:=Off.refl XS w
 go_enter Try.func37,Try.ntmps37
 go_upto_region 0 with fail; refine wp_region_list ?_; refine xpL (.int .i64 t) ?_; refine xpL (.pointer (some ⟨R,0,none⟩)) ?_; refine xpL (.pointer (some ⟨R,0,none⟩)) ?_; refine xpL (.pointer (some ⟨R,4,none⟩)) ?_; refine xaL (.int .i64 ((st:Nat):Int)) (load1 3 _ ⟨R,4,none⟩ _ rfl rfl (fun _=>by kernel_rfl) (M.get mS 4 _ rfl)) ?_
 refine readL (.int .i64 (min t ((st:Nat):Int))) rfl (minI .i64 .i64 _ _ _ _ _ _ _ rfl rfl rfl (by split <;> omega) _) ?_; simp only [aP,lI,l0,lS]; refine xpL (.int .i64 (min t ((st:Nat):Int))) ?_; refine xT ?_; go_upto_region 1 with fail; refine wp_region_list ?_; refine xpL (.pointer (some ⟨R,0,none⟩)) ?_; refine xpL (.pointer (some ⟨R,0,none⟩)) ?_
 refine xpL (.pointer (some ⟨R,5,none⟩)) ?_; refine xpL (.int .i64 f) ?_; refine xpL (.int .i64 (min t ((st:Nat):Int))) ?_
 have Mq:Mm w0 ((R,[.int .i64 ((kb:Nat):Int),.slice sb nb cb,.int .i64 s,.int .i64 lim,.int .i64 ((st:Nat):Int),.slice sg G.length cg,.slice sa A.length ca])::((obs sg)++(([]:List (Nat × List Value))++((obs sa)++T)))) w:=(M.perm (pull0 ([(R,[.int .i64 ((kb:Nat):Int),.slice sb nb cb,.int .i64 s,.int .i64 lim,.int .i64 ((st:Nat):Int),.slice sg G.length cg,.slice sa A.length ca])]:List (Nat × List Value)) (obs sg) ((obs sa)++T))).perm List.perm_middle
 have key:=vadd_any w0 _ R 5 sg cg G _ hcg hlg f (min t ((st:Nat):Int)) Mq rfl V_g; refine xcL key ?_; clear key; rintro e w1 ⟨p1,c1,rfl,M2,V2,o2,hLs⟩; replace V_a:=ownsRow_away V_a o2 (Mq.awayRO (fun p_ hp_=>by simp [hp_])); have hsz_:=OF.size; replace OF:=OF.andR o2 hRX L_g; have L2_:=L_g.rep hLs hsz_; clear M Mq V_g L_g o2 hLs hsz_; have V_g:=V2; have L_g:=L2_
 clear V2 L2_
 replace M2:Mm w0 ((R,[.int .i64 ((kb:Nat):Int),.slice sb nb cb,.int .i64 s,.int .i64 lim,.int .i64 ((st:Nat):Int),.slice p1 ((rad G f (min t ((st:Nat):Int))).length) c1,.slice sa A.length ca])::((obs p1)++(([]:List (Nat × List Value))++((obs sa)++T)))) w1:=M2
 have M:Mm w0 ((R,[.int .i64 ((kb:Nat):Int),.slice sb nb cb,.int .i64 s,.int .i64 lim,.int .i64 ((st:Nat):Int),.slice p1 ((rad G f (min t ((st:Nat):Int))).length) c1,.slice sa A.length ca])::((obs p1)++((obs sa)++T))) w1:=(M2.perm List.perm_middle.symm).perm (pull0 ([(R,[.int .i64 ((kb:Nat):Int),.slice sb nb cb,.int .i64 s,.int .i64 lim,.int .i64 ((st:Nat):Int),.slice p1 ((rad G f (min t ((st:Nat):Int))).length) c1,.slice sa A.length ca])]:List (Nat × List Value)) (obs p1) ((obs sa)++T)).symm
 clear M2; refine xeL ?_; refine xT ?_; go_upto_region 2 with fail; refine wp_region_list ?_; refine xpL (.pointer (some ⟨R,0,none⟩)) ?_; refine xpL (.pointer (some ⟨R,0,none⟩)) ?_; refine xpL (.pointer (some ⟨R,6,none⟩)) ?_; refine xpL (.int .i64 f) ?_; refine xpL (.int .i64 (min t ((st:Nat):Int))) ?_
 have Mq:Mm w0 ((R,[.int .i64 ((kb:Nat):Int),.slice sb nb cb,.int .i64 s,.int .i64 lim,.int .i64 ((st:Nat):Int),.slice p1 ((rad G f (min t ((st:Nat):Int))).length) c1,.slice sa A.length ca])::((obs sa)++(([]:List (Nat × List Value))++((obs p1)++T)))) w1:=(M.perm (pull1 ([(R,[.int .i64 ((kb:Nat):Int),.slice sb nb cb,.int .i64 s,.int .i64 lim,.int .i64 ((st:Nat):Int),.slice p1 ((rad G f (min t ((st:Nat):Int))).length) c1,.slice sa A.length ca])]:List (Nat × List Value)) (obs p1) (obs sa) T)).perm List.perm_middle
 have key:=vadd_any w0 _ R 6 sa ca A _ hca hla f (min t ((st:Nat):Int)) Mq rfl V_a; refine xcL key ?_; clear key; rintro e w2 ⟨p2,c2,rfl,M2,V2,o2,hLs⟩; replace V_g:=ownsRow_away V_g o2 (Mq.awayRO (fun p_ hp_=>by simp [hp_])); have hsz_:=OF.size; replace OF:=OF.andR o2 hRX L_a; have L2_:=L_a.rep hLs hsz_; clear M Mq V_a L_a o2 hLs hsz_; have V_a:=V2; have L_a:=L2_
 clear V2 L2_
 replace M2:Mm w0 ((R,[.int .i64 ((kb:Nat):Int),.slice sb nb cb,.int .i64 s,.int .i64 lim,.int .i64 ((st:Nat):Int),.slice p1 ((rad G f (min t ((st:Nat):Int))).length) c1,.slice p2 ((rad A f (min t ((st:Nat):Int))).length) c2])::((obs p2)++(([]:List (Nat × List Value))++((obs p1)++T)))) w2:=M2
 have M:Mm w0 ((R,[.int .i64 ((kb:Nat):Int),.slice sb nb cb,.int .i64 s,.int .i64 lim,.int .i64 ((st:Nat):Int),.slice p1 ((rad G f (min t ((st:Nat):Int))).length) c1,.slice p2 ((rad A f (min t ((st:Nat):Int))).length) c2])::((obs p1)++((obs p2)++T))) w2:=(M2.perm List.perm_middle.symm).perm (pull1 ([(R,[.int .i64 ((kb:Nat):Int),.slice sb nb cb,.int .i64 s,.int .i64 lim,.int .i64 ((st:Nat):Int),.slice p1 ((rad G f (min t ((st:Nat):Int))).length) c1,.slice p2 ((rad A f (min t ((st:Nat):Int))).length) c2])]:List (Nat × List Value)) (obs p1) (obs p2) T).symm
 clear M2; refine xeL ?_
 rw [hXS] at L_g L_a
 rw [hXS] at OF
 exact ⟨rfl,.tuple #[],by kernel_rfl,_,_,_,_,rfl,M,V_g,V_a,OF,L_g,L_a⟩
theorem vallow18 (w0 w:World) (R:Nat) (T:List (Nat × List Value)) (kb nb st:Nat) (s lim:Int) (sb sg sa:Option Addr) (cb cg ca:Nat) (G A:Rgs17) (n:Int) (M0:Mm w0 ((R,[.int .i64 ((kb:Nat):Int),.slice sb nb cb,.int .i64 s,.int .i64 lim,.int .i64 ((st:Nat):Int),.slice sg G.length cg,.slice sa A.length ca])::T) w) :
 Calls Try.prog 19 #[.pointer (some ⟨R,0,none⟩),.int .i64 n] w fun e w'=>e=.returned (.tuple #[])∧Mm w0 ((R,[.int .i64 ((kb:Nat):Int),.slice sb nb cb,.int .i64 s,.int .i64 (max lim n),.int .i64 ((st:Nat):Int),.slice sg G.length cg,.slice sa A.length ca])::T) w'∧Off [R] w w':=by
 have M:=M0; clear M0; have hb0:=M.below
 obtain ⟨XS,hXS⟩:∃ X_,X_=[R]:=⟨_,rfl⟩
 have hRX:R∈XS:=by rw [hXS]; simp
 have OF:=Off.refl XS w
 go_enter Try.func19,Try.ntmps19
 go_upto_region 0 with fail; refine wp_region_list ?_; refine xpL (.pointer (some ⟨R,0,none⟩)) ?_; refine xpL (.pointer (some ⟨R,0,none⟩)) ?_; refine xpL (.pointer (some ⟨R,0,none⟩)) ?_; refine xpL (.pointer (some ⟨R,3,none⟩)) ?_; refine xaL (.int .i64 lim) (load1 3 _ ⟨R,3,none⟩ _ rfl rfl (fun _=>by kernel_rfl) (M.get mS 3 _ rfl)) ?_; refine xpL (.int .i64 n) ?_
 refine xaL (.int .i64 (max lim n)) (maxI .i64 .i64 _ _ _ _ _ _ _ rfl rfl rfl (by split <;> omega) _) ?_; refine xpL (.pointer (some ⟨R,0,none⟩)) ?_; refine xpL (.pointer (some ⟨R,3,none⟩)) ?_; refine skipOpL rfl (storeAny (.int .i64 (max lim n)) R 3 3 _ _ rfl rfl rfl rfl rfl (M.isSome mS 3 (by simp)) (M.free mS 3 (by simp)) (by kernel_rfl)) ?_; simp only [Act.put]
 replace M:=M.set 3 (by simp) (.int .i64 (max lim n)); replace OF:=OF.and1 ((Off.refl [R] _).set (b:=R) mS 3 (.int .i64 (max lim n))) (.inl hRX); generalize w.setCell ⟨R,3,none⟩ (.int .i64 (max lim n))=w1 at M OF ⊢
 replace M:Mm w0 ((R,[.int .i64 ((kb:Nat):Int),.slice sb nb cb,.int .i64 s,.int .i64 (max lim n),.int .i64 ((st:Nat):Int),.slice sg G.length cg,.slice sa A.length ca])::T) w1:=M
 rw [hXS] at OF
 exact ⟨rfl,.tuple #[],by kernel_rfl,rfl,M,OF⟩
theorem vnewo18 (w0 w:World) (l:List (Nat × List Value)) (n:Int) (M0:Mm w0 l w) :
 Calls Try.prog 8 #[.int .i64 n] w fun e w'=>∃ B,e=.returned (.pointer (some ⟨B,0,none⟩))∧Mm w0 ((B,[.int .i64 ((0:Nat):Int),.slice none 0 0,.int .i64 n,.int .i64 0,.int .i64 ((0:Nat):Int),.slice none 0 0,.slice none 0 0])::l) w'∧Below w.heap.size w w':=by
 have M:=M0; clear M0; have OF:=Off.refl [] w; have hBl:=Below.refl w.heap.size w
 go_enter Try.func8,Try.ntmps8
 go_upto_region 0 with fail; refine wp_region_list ?_; refine xpL (.pointer none) ?_; refine xT ?_; go_upto_region 1 with fail; refine wp_region_list ?_; refine xpL (.int .i64 n) ?_; refine xpL (.agg #[.int .i64 0,.slice none 0 0,.int .i64 n,.int .i64 0,.int .i64 0,.slice none 0 0,.slice none 0 0]) ?_
 have hlb:=(Below.refl w.heap.size w).alloc (xnR _) (.cells #[.int .i64 0,.slice none 0 0,.int .i64 n,.int .i64 0,.int .i64 0,.slice none 0 0,.slice none 0 0] 57); refine actL (w':=w.alloc (.cells #[.int .i64 0,.slice none 0 0,.int .i64 n,.int .i64 0,.int .i64 0,.slice none 0 0,.slice none 0 0] 57)) (.pointer (some ⟨w.heap.size,0,none⟩)) rfl (by kernel_rfl) ?_
 simp only [aP,lI,l0,lS]; have hB_:=OF.size; replace OF:=OF.below hlb; replace hBl:=hBl.trans (hlb.mono hBl.size); replace M:=M.box #[.int .i64 0,.slice none 0 0,.int .i64 n,.int .i64 0,.int .i64 0,.slice none 0 0,.slice none 0 0] 57 w.heap.size rfl; clear hlb
 generalize w.alloc (.cells #[.int .i64 0,.slice none 0 0,.int .i64 n,.int .i64 0,.int .i64 0,.slice none 0 0,.slice none 0 0] 57)=w1 at M OF hBl ⊢; generalize eB_:w.heap.size=B1 at M ⊢
 have hB_B1:w.heap.size≤B1:=by rw [← eB_]; exact hB_
 clear hB_ eB_
 replace M:Mm w0 ((B1,[.int .i64 0,.slice none 0 0,.int .i64 n,.int .i64 0,.int .i64 0,.slice none 0 0,.slice none 0 0])::l) w1:=M
 refine xpL (.pointer (some ⟨B1,0,none⟩)) ?_; refine xT ?_; have HS:=show Hid _ from (And.intro M hBl); clear M hBl OF; go_wp2; go_ret
 exact ⟨B1,rfl,HS.out⟩
theorem vwrite18 (w0 w:World) (R:Nat) (l:List (Nat × List Value)) (kb nb st:Nat) (s lim:Int) (sb sg sa:Option Addr) (cb cg ca:Nat) (G A:Rgs17) (bf:Nat→Int) (b:List Int) (sp:Option Addr) (cap:Nat) (hkn:kb+nb<4000000) (hbl:b.length<1000000) (hbc:b.length≤cap) (hbn:sp=none→cap=0) (m:Nat) (hm:(m:Int)=min (b.length:Int) (min (max s 1) 1048576-(nb:Int))) (M0:Mm w0 ((R,[.int .i64 ((kb:Nat):Int),.slice sb nb cb,.int .i64 s,.int .i64 lim,.int .i64 ((st:Nat):Int),.slice sg G.length cg,.slice sa A.length ca])::(obs sg++(obs sa++(obs sb++l)))) w) (W_b:Wnd w sb nb cb bf) (V_g:w.ownsRow 0 49 2 (.slice sg G.length cg) G.length (wrc G)) (V_a:w.ownsRow 0 49 2 (.slice sa A.length ca) A.length (wrc A)) (R_s:Src w sp b.length (bl b)) :
 Calls Try.prog 11 #[.pointer (some ⟨R,0,none⟩),.slice sp b.length cap] w fun e w'=>∃ sb' cb',e=.returned (.int .i64 (m:Int))∧Mm w0 ((R,[.int .i64 ((kb:Nat):Int),.slice sb' (nb+m) cb',.int .i64 s,.int .i64 lim,.int .i64 ((st:Nat):Int),.slice sg G.length cg,.slice sa A.length ca])::(obs sg++(obs sa++(obs sb'++l)))) w'∧Wnd w' sb' (nb+m) cb' (app bf nb (bl b))∧w'.ownsRow 0 49 2 (.slice sg G.length cg) G.length (wrc G)∧w'.ownsRow 0 49 2 (.slice sa A.length ca) A.length (wrc A)∧Off (R::(ob sg++(ob sa++ob sb))) w w':=by
 have M:=M0; clear M0; have hb0:=M.below
 obtain ⟨XS,hXS⟩:∃ X_,X_=(R::(ob sg++(ob sa++ob sb))):=⟨_,rfl⟩
 have hRX:R∈XS:=by rw [hXS]; simp
 have L_g:Lies XS w sg:=fun b_ hb_=>.inl (by rw [hXS]; simp [hb_])
 have L_a:Lies XS w sa:=fun b_ hb_=>.inl (by rw [hXS]; simp [hb_])
 have L_b:Lies XS w sb:=fun b_ hb_=>.inl (by rw [hXS]; simp [hb_])
 have OF:=Off.refl XS w
 go_enter Try.func11,Try.ntmps11
 go_upto_region 0 with fail; refine wp_region_list ?_; refine xpL (.int .i64 0) ?_; refine xT ?_; go_upto_region 1 with fail; refine wp_region_list ?_; refine xpL (.slice sp b.length cap) ?_; refine xaL (.int .i64 ((b.length:Nat):Int)) (lenS _ 28 5 sp b.length cap rfl Try.underlying28 rfl _) ?_; refine xpL (.pointer (some ⟨R,0,none⟩)) ?_
 have key:=vroom18 R nb s sb cb _ (M.get mS 1 _ rfl) (M.get mS 2 _ rfl) (by omega); refine xcL key ?_; clear key; rintro e w1 ⟨rfl,l_⟩; replace M:=M.call l_; replace V_g:=ownsRow_bel V_g l_; replace V_a:=ownsRow_bel V_a l_; replace W_b:=W_b.bel l_; replace R_s:=R_s.below l_ (xnR _); replace OF:=OF.below l_; clear l_; refine xeL ?_
 refine xaL (.int .i64 (m:Int)) (minI .i64 .i64 _ _ _ _ _ _ _ rfl rfl rfl (by split <;> omega) _) ?_; refine xpL (.int .i64 (m:Int)) ?_; refine xT ?_
 have hmb:m≤b.length:=by omega
 obtain ⟨spc,hcut,hsrc,hnil2⟩:=cut_hiN (P:=Try.prog) (t:=28) Try.underlying28 (fun w=>by kernel_rfl) sp b.length cap m hmb hbc hbn
 go_upto_region 2 with fail; have hdr:=(Below.refl w1.heap.size w1).drew; replace M:=M.drew; replace V_g:=ownsRow_bel V_g hdr; replace V_a:=ownsRow_bel V_a hdr; replace W_b:=W_b.bel hdr; replace OF:=OF.below hdr; replace R_s:=R_s.below hdr (xnR _); clear hdr
 refine wp_region_C (S:=fun w'=>Mm w0 [(R,[.int .i64 ((kb:Nat):Int),.slice sb nb cb,.int .i64 s,.int .i64 lim,.int .i64 ((st:Nat):Int),.slice sg G.length cg,.slice sa A.length ca])] w') 13 (by kernel_rfl) (M.sub _ (List.cons_sublist_cons.2 (List.nil_sublist _))) ?_; intro _; generalize w1.drew=w2 at M V_g V_a W_b OF R_s ⊢
 refine readC (i:=0) (some 11) rfl (.pointer (some ⟨R,0,none⟩)) rfl rfl (by kernel_rfl) rfl (fun _ hS=>(by kernel_rfl)) (by kernel_rfl) (by kernel_rfl) (by kernel_rfl) (by kernel_rfl) (fun _ _ _ h=>h) (M.sub _ (List.cons_sublist_cons.2 (List.nil_sublist _))) ?_; simp only [aP,lI,l0,lS]
 refine readC (i:=1) (some 12) rfl (.pointer (some ⟨R,0,none⟩)) rfl rfl (by kernel_rfl) rfl (fun _ hS=>(by kernel_rfl)) (by kernel_rfl) (by kernel_rfl) (by kernel_rfl) (by kernel_rfl) (fun _ _ _ h=>h) (M.sub _ (List.cons_sublist_cons.2 (List.nil_sublist _))) ?_; simp only [aP,lI,l0,lS]
 refine readC (i:=2) (some 13) rfl (.pointer (some ⟨R,0,none⟩)) rfl rfl (by kernel_rfl) rfl (fun _ hS=>(by kernel_rfl)) (by kernel_rfl) (by kernel_rfl) (by kernel_rfl) (by kernel_rfl) (fun _ _ _ h=>h) (M.sub _ (List.cons_sublist_cons.2 (List.nil_sublist _))) ?_; simp only [aP,lI,l0,lS]
 refine readC (i:=3) (some 14) rfl (.pointer (some ⟨R,0,none⟩)) rfl rfl (by kernel_rfl) rfl (fun _ hS=>(by kernel_rfl)) (by kernel_rfl) (by kernel_rfl) (by kernel_rfl) (by kernel_rfl) (fun _ _ _ h=>h) (M.sub _ (List.cons_sublist_cons.2 (List.nil_sublist _))) ?_; simp only [aP,lI,l0,lS]
 refine readC (i:=4) (some 15) rfl (.pointer (some ⟨R,1,none⟩)) rfl rfl (by kernel_rfl) rfl (fun _ hS=>(by kernel_rfl)) (by kernel_rfl) (by kernel_rfl) (by kernel_rfl) (by kernel_rfl) (fun _ _ _ h=>h) (M.sub _ (List.cons_sublist_cons.2 (List.nil_sublist _))) ?_; simp only [aP,lI,l0,lS]
 refine readC (i:=5) (some 16) rfl (.slice sb nb cb) rfl rfl (by kernel_rfl) rfl (fun _ hS=>load1 28 _ ⟨R,1,none⟩ _ rfl rfl (fun _=>by kernel_rfl) (hS.get mS 1 _ rfl)) (by kernel_rfl) (by kernel_rfl) (by kernel_rfl) (by kernel_rfl) (fun _ _ _ h=>h) (M.sub _ (List.cons_sublist_cons.2 (List.nil_sublist _))) ?_; simp only [aP,lI,l0,lS]
 refine readC (i:=6) (some 17) rfl (.slice sp b.length cap) rfl rfl (by kernel_rfl) rfl (fun _ hS=>(by kernel_rfl)) (by kernel_rfl) (by kernel_rfl) (by kernel_rfl) (by kernel_rfl) (fun _ _ _ h=>h) (M.sub _ (List.cons_sublist_cons.2 (List.nil_sublist _))) ?_; simp only [aP,lI,l0,lS]
 refine readC (i:=7) (some 18) rfl (.int .i64 (m:Int)) rfl rfl (by kernel_rfl) rfl (fun _ hS=>(by kernel_rfl)) (by kernel_rfl) (by kernel_rfl) (by kernel_rfl) (by kernel_rfl) (fun _ _ _ h=>h) (M.sub _ (List.cons_sublist_cons.2 (List.nil_sublist _))) ?_; simp only [aP,lI,l0,lS]
 refine readC (i:=8) (some 19) rfl (.slice spc m cap) rfl rfl (by kernel_rfl) rfl (fun _ hS=>cutHi 28 _ _ _ _ _ rfl rfl rfl (hcut _)) (by kernel_rfl) (by kernel_rfl) (by kernel_rfl) (by kernel_rfl) (fun _ _ _ h=>h) (M.sub _ (List.cons_sublist_cons.2 (List.nil_sublist _))) ?_; simp only [aP,lI,l0,lS]
 obtain ⟨p3,c3,w3,hr,W2,hgr,hnb⟩:=run_append_Wnd (P:=Try.prog) (ty:=28) Try.underlying28 one8 W_b spc m cap (bl b) (hsrc _ _ R_s) hnil2 (by omega)
 have Mp:=M.perm (pull2 ([(R,[.int .i64 ((kb:Nat):Int),.slice sb nb cb,.int .i64 s,.int .i64 lim,.int .i64 ((st:Nat):Int),.slice sg G.length cg,.slice sa A.length ca])]:List (Nat × List Value)) (obs sg) (obs sa) (obs sb) l); have ho:=Off.rep18 (Off.refl (ob sb) w2) hgr (fun _ hb_=>.inl hb_); replace V_g:=ownsRow_away V_g ho (Mp.awayO (fun p_ hp_=>by simp [hp_]))
 replace V_a:=ownsRow_away V_a ho (Mp.awayO (fun p_ hp_=>by simp [hp_])); have L2_:=L_b.rep hnb OF.size; replace OF:=OF.rep18 hgr L_b; have M2:=Mp.rep18 hgr W2.lt hnb; clear M Mp ho hgr hnb W_b L_b; have W_b:=W2; have L_b:=L2_; clear W2 L2_
 have M:Mm w0 ((R,[.int .i64 ((kb:Nat):Int),.slice sb nb cb,.int .i64 s,.int .i64 lim,.int .i64 ((st:Nat):Int),.slice sg G.length cg,.slice sa A.length ca])::((obs sg)++((obs sa)++((obs p3)++l)))) w3:=M2.perm (pull2 ([(R,[.int .i64 ((kb:Nat):Int),.slice sb nb cb,.int .i64 s,.int .i64 lim,.int .i64 ((st:Nat):Int),.slice sg G.length cg,.slice sa A.length ca])]:List (Nat × List Value)) (obs sg) (obs sa) (obs p3) l).symm
 clear M2; refine onlyC (i:=9) (some 20) rfl (.slice p3 (nb+m) c3) (by kernel_rfl) rfl rfl (appendOp _ _ 28 _ _ _ rfl rfl rfl hr) (M.sub _ (List.cons_sublist_cons.2 (List.nil_sublist _))) ?_; simp only [aP,lI,l0,lS]; clear hr; clear R_s hsrc; refine xqC 10 21 rfl (.pointer (some ⟨R,0,none⟩)) (fun _=>(by kernel_rfl)) (M.sub _ (List.cons_sublist_cons.2 (List.nil_sublist _))) ?_
 refine xqC 11 22 rfl (.pointer (some ⟨R,0,none⟩)) (fun _=>(by kernel_rfl)) (M.sub _ (List.cons_sublist_cons.2 (List.nil_sublist _))) ?_
 refine readC (i:=12) (some 23) rfl (.pointer (some ⟨R,1,none⟩)) rfl rfl (by kernel_rfl) rfl (fun _ hS=>(by kernel_rfl)) (by kernel_rfl) (by kernel_rfl) (by kernel_rfl) (by kernel_rfl) (fun _ _ _ h=>h) (M.sub _ (List.cons_sublist_cons.2 (List.nil_sublist _))) ?_; simp only [aP,lI,l0,lS]
 refine skipC (S2:=fun _=>True) none rfl (by kernel_rfl) rfl rfl (storeAny (.slice p3 (nb+m) c3) R 1 28 _ _ rfl rfl rfl rfl rfl (M.isSome mS 1 (by simp)) (M.free mS 1 (by simp)) (by kernel_rfl)) (by kernel_rfl) ?_; simp only [Act.put]; replace M:=M.set 1 (by simp) (.slice p3 (nb+m) c3)
 replace V_g:=ownsRow_away V_g ((Off.refl [R] _).set (b:=R) mS 1 (.slice p3 (nb+m) c3)) (fun b_ hb_=>by obtain rfl:=xm1 hb_; exact M.awayB (fun p_ hp_=>by simp [hp_])); replace V_a:=ownsRow_away V_a ((Off.refl [R] _).set (b:=R) mS 1 (.slice p3 (nb+m) c3)) (fun b_ hb_=>by obtain rfl:=xm1 hb_; exact M.awayB (fun p_ hp_=>by simp [hp_]))
 replace W_b:=W_b.off ((Off.refl [R] _).set (b:=R) mS 1 (.slice p3 (nb+m) c3)) (fun b_ hb_=>by obtain rfl:=xm1 hb_; exact M.awayB (fun p_ hp_=>by simp [hp_])); replace OF:=OF.and1 ((Off.refl [R] _).set (b:=R) mS 1 (.slice p3 (nb+m) c3)) (.inl hRX); generalize w3.setCell ⟨R,1,none⟩ (.slice p3 (nb+m) c3)=w4 at M V_g V_a W_b OF ⊢
 replace M:Mm w0 ((R,[.int .i64 ((kb:Nat):Int),.slice p3 (nb+m) c3,.int .i64 s,.int .i64 lim,.int .i64 ((st:Nat):Int),.slice sg G.length cg,.slice sa A.length ca])::((obs sg)++((obs sa)++((obs p3)++l)))) w4:=M
 refine wpAnyH_done (by kernel_rfl) ?_ _
 first | show Exit.then _ _ _ _ _ | show Exit.inBlock _ _ _ _ _
 go_upto_region 3 with fail; refine wp_region_list ?_; refine xpL (.int .i64 (m:Int)) ?_; refine xpL (.int .i64 (m:Int)) ?_; refine xT ?_
 rw [hXS] at OF
 have HS:=show Hid _ from (And.intro M (And.intro W_b (And.intro V_g (And.intro V_a OF)))); clear M W_b V_g V_a OF; go_wp2; go_ret
 first | exact ⟨_,_,rfl,HS.out⟩ | exact ⟨rfl,_,_,HS.out⟩
end Go.Proofs.Ytpdpfdelglgfnaa
