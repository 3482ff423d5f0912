/- Texts of Tv Tw Opn Open17, joined. -/
import Derived.Test.YtakfcgbiodfmhaaP7RangesPlays
import Derived.ProofKit
import Derived.LaidMore
import Derived.OpenShut
import Derived.Deep.Strs
import Derived.Stop.Joined
import Derived.Test.YtakfcgbiodfmhaaRows
set_option maxRecDepth 20000
set_option maxHeartbeats 64000000
namespace Go.Proofs.Ytakfcgbiodfmhaa
open Go.RowKit
theorem vcut_any (w0 w:World) (R:Nat) (sp:Option Addr) (cap:Nat) (L:Rgs17) (l:List (Nat × List Value)) (hc:Can L) (hln:L.length<1000000) (f t:Int) (M0:Mm w0 ((R,[.slice sp L.length cap])::(obs sp++l)) w) (O_:w.ownsRow 0 34 2 (.slice sp L.length cap) L.length (wrc L)) :
 Calls Try.prog 11 #[.pointer (some ⟨R,0,none⟩),.int .i64 f,.int .i64 t] w fun e w'=>∃ sq cq,e=.returned (.int .i64 (rctN L f t))∧Mm w0 ((R,[.slice sq (rct L f t).length cq])::(obs sq++l)) w'∧w'.ownsRow 0 34 2 (.slice sq (rct L f t).length cq) (rct L f t).length (wrc (rct L f t))∧Off (R::ob sp) w w':=by
 have hR:=M0.cell0; have N:=NewW.ofOwn O_; have M:=Mm.init w
 go_enter Try.func11,Try.ntmps11
 go_upto_region 0 with fail; refine wp_region_list ?_; refine xpL (.int .i64 0) ?_; refine xT ?_; go_upto_region 1 with fail; refine wp_region_list ?_; refine xpL (.int .i64 f) ?_; refine xpL (.int .i64 t) ?_; have key:=vwith_any f t w; refine xcL key ?_; clear key; rintro e w1 ⟨rfl,l⟩; replace M:=M.call l; clear l; refine xeL ?_
 refine actL (w':=w1.alloc (.cells #[.int .i64 0,.int .i64 0] 34)) (.pointer (some ⟨w1.heap.size,0,none⟩)) rfl (by kernel_rfl) ?_; simp only [aP,lI,l0,lS]
 have hB_B2:w.heap.size≤w1.heap.size:=M.below.size
 replace M:=M.box #[.int .i64 0,.int .i64 0] 34 w1.heap.size rfl; generalize w1.alloc (.cells #[.int .i64 0,.int .i64 0] 34)=w2 at M  ⊢; generalize eB:w1.heap.size=B2 at M hB_B2  ⊢
 have hE_B2:w1.heap.size≤B2:=Nat.le_of_eq eB
 have hF_B2:B2≤w1.heap.size:=Nat.le_of_eq eB.symm
 clear eB
 replace M:Mm w ((B2,[.int .i64 0,.int .i64 0])::([]:List (Nat × List Value))) w2:=M
 refine skipOpL rfl (storeP [.int .i64 (rlo f),.int .i64 (rhi t)] B2 0 34 _ _ rfl rfl rfl (M.thereP mS 0 2 (Nat.le_of_ble_eq_true rfl)) (by kernel_rfl) (List.all_eq_true.1 (rfl:([.int .i64 (rlo f),.int .i64 (rhi t)]:List Value).all (fun u=>u.oneCell')=true))) ?_; simp only [Act.put]; replace M:=M.setPart [.int .i64 (rlo f),.int .i64 (rhi t)] 0 (Nat.le_of_ble_eq_true rfl)
 generalize w2.setCells B2 0 [.int .i64 (rlo f),.int .i64 (rhi t)]=w3 at M  ⊢
 replace M:Mm w ((B2,[.int .i64 (rlo f),.int .i64 (rhi t)])::([]:List (Nat × List Value))) w3:=M
 refine xT ?_
 by_cases hge:rhi t≤rlo f
 · go_upto_region 2 with fail
   refine wp_region_list ?_; refine xaL (.agg #[.int .i64 (rlo f),.int .i64 (rhi t)]) (loadN 34 _ ⟨B2,0,none⟩ [.int .i64 (rlo f),.int .i64 (rhi t)] rfl rfl (fun _=>by kernel_rfl) (fun _=>by kernel_rfl) (M.rangeAt mS)) ?_; have key:=vempty_any (rlo f) (rhi t) w3
   rw [show decide (rlo f≥rhi t)=true from decide_eq_true (by omega)] at key
   refine xcL key ?_; clear key; rintro e w4 ⟨rfl,l_⟩; replace M:=M.call l_; clear l_; refine xeL ?_; refine xT ?_; go_upto_region 3 with fail; refine wp_region_list ?_; refine xpL (.int .i64 0) ?_; refine xT ?_; have HS:=show Hid _ from (And.intro (M0.call M.below) (And.intro (ownsRow_bel O_ M.below) ((Off.refl (R::ob sp) w).below M.below))); clear M M0 O_; go_wp2; go_ret
   rw [(rct_no (L:=L) (f:=f) (t:=t) (by omega)).1,(rct_no (L:=L) (f:=f) (t:=t) (by omega)).2]
   first | exact ⟨sp,cap,rfl,HS.out⟩ | exact ⟨rfl,sp,cap,HS.out⟩
 · have hf0:0≤rlo f:=by unfold rlo; omega
   have ht1:rhi t≤4611686018427387904:=by unfold rhi; omega
   have hft:rlo f<rhi t:=by omega
   go_upto_region 2 with fail; refine wp_region_list ?_; refine xaL (.agg #[.int .i64 (rlo f),.int .i64 (rhi t)]) (loadN 34 _ ⟨B2,0,none⟩ [.int .i64 (rlo f),.int .i64 (rhi t)] rfl rfl (fun _=>by kernel_rfl) (fun _=>by kernel_rfl) (M.rangeAt mS)) ?_; have key:=vempty_any (rlo f) (rhi t) w3
   rw [show decide (rlo f≥rhi t)=false from decide_eq_false (by omega)] at key
   refine xcL key ?_; clear key; rintro e w5 ⟨rfl,l_⟩; replace M:=M.call l_; clear l_; refine xeL ?_; refine xT ?_; go_upto_region 4 with fail; refine wp_region_list ?_; refine xpL (.pointer (some ⟨R,0,none⟩)) ?_
   refine xaL (.agg #[.int .i64 (rlo f),.int .i64 (rhi t)]) (loadN 34 _ ⟨B2,0,none⟩ [.int .i64 (rlo f),.int .i64 (rhi t)] rfl rfl (fun _=>by kernel_rfl) (fun _=>by kernel_rfl) (M.rangeAt mS)) ?_; have key:=vtouch_any R sp cap L hc hln (rlo f) (rhi t) _ (cellT M.below hR) (NewW.below N M.below); refine xcL key ?_; clear key; rintro e w6 ⟨i,j,rfl,hT,l⟩; replace M:=M.call l; clear l
   refine xeL ?_; refine xpL (.tuple #[.int .i64 ((i:Nat):Int),.int .i64 ((j:Nat):Int)]) ?_; refine xpL (.int .i64 ((i:Nat):Int)) ?_; refine xpL (.int .i64 ((j:Nat):Int)) ?_; refine xpL (.int .i64 ((i:Nat):Int)) ?_; refine xpL (.int .i64 ((j:Nat):Int)) ?_; refine xT ?_; have hij:=hT.le hc (by omega); have hjl:=hT.b.le
   by_cases hlt:i=j
   · subst hlt
     go_upto_region 5 with fail; refine wp_region_list ?_; refine xpL (.int .i64 ((i:Nat):Int)) ?_; refine xpL (.int .i64 ((i:Nat):Int)) ?_; refine xaL (.bool true) (eqlI .i64 _ _ _ _ _ _ rfl rfl rfl true (beq_self_eq_true _) _) ?_; refine xT ?_; go_upto_region 6 with fail; refine wp_region_list ?_; refine xpL (.int .i64 0) ?_; refine xT ?_
     have hR1:=show Hid _ from (show rct L f t=L by rw [rct_is (show ¬ rhi t≤rlo f by omega)]; exact rcut_apart hT hc hft); have hR2:=show Hid _ from (show rctN L f t=0 by unfold rctN; rw [hR1.out]; omega); have HS:=show Hid _ from (And.intro (M0.call M.below) (And.intro (ownsRow_bel O_ M.below) ((Off.refl (R::ob sp) w).below M.below))); clear M M0 O_; go_wp2; go_ret
     rw [hR1.out,hR2.out]
     first | exact ⟨sp,cap,rfl,HS.out⟩ | exact ⟨rfl,sp,cap,HS.out⟩
   · obtain ⟨p,hp⟩:∃ p,L[i]?=some p:=⟨_,List.getElem?_eq_getElem (by omega)⟩
     obtain ⟨q,hq⟩:∃ q,L[j-1]?=some q:=⟨_,List.getElem?_eq_getElem (by omega)⟩
     obtain ⟨adr,hadr,_,_⟩:=NewW.at N hp
     go_upto_region 5 with fail; refine wp_region_list ?_; refine xpL (.int .i64 ((i:Nat):Int)) ?_; refine xpL (.int .i64 ((j:Nat):Int)) ?_; refine xaL (.bool false) (eqlI .i64 _ _ _ _ _ _ rfl rfl rfl false (by rw [beq_eq_false_iff_ne]; omega) _) ?_; refine xT ?_; have NA:=N
     rw [hadr] at NA
     have hRA:=hR
     rw [hadr] at hRA
     clear hadr; go_upto_region 7 with fail; refine wp_region_held_drew (S:=fun w'=>Mm w ((B2,[.int .i64 (rlo f),.int .i64 (rhi t)])::([]:List (Nat × List Value))) w') (by kernel_rfl) M.drew ?_; intro _; replace M:=M.drew; have hdr:=(Below.refl w6.heap.size w6).drew; clear hdr; generalize w6.drew=w7 at M  ⊢
     refine xrH 0 25 rfl (.pointer (some ⟨R,0,none⟩)) (fun _ hS=>(by kernel_rfl)) M ?_; refine xrH 1 26 rfl (.pointer (some ⟨R,0,none⟩)) (fun _ hS=>(by kernel_rfl)) M ?_; refine xrH 2 27 rfl (.pointer (some ⟨R,0,none⟩)) (fun _ hS=>(by kernel_rfl)) M ?_
     refine xrH 3 28 rfl (.slice (some adr) L.length cap) (fun _ hS=>load1 27 _ ⟨R,0,none⟩ _ rfl rfl (fun _=>by kernel_rfl) (cellT hS.below hRA)) M ?_; refine xrH 4 29 rfl (.int .i64 ((i:Nat):Int)) (fun _ hS=>(by kernel_rfl)) M ?_; refine xrH 5 30 rfl (.pointer (some (adr.add (i*2)))) (fun _ hS=>idxR2 adr _ _ i (by omega) _ _ rfl rfl rfl _) M ?_
     refine xrH 6 31 rfl (.pointer (some ((adr.add (i*2)).add 0))) (fun _ hS=>(by kernel_rfl)) M ?_; refine xrH 7 32 rfl (.int .i64 p.1) (fun _ hS=>load1 3 _ ((adr.add (i*2)).add 0) _ rfl rfl (fun _=>by kernel_rfl) (NewW.rng (NewW.below NA hS.below) hp 0 _ rfl)) M ?_; refine xrH 8 33 rfl (.pointer (some ⟨B2,0,none⟩)) (fun _ hS=>(by kernel_rfl)) M ?_
     refine xrH 9 34 rfl (.int .i64 (rlo f)) (fun _ hS=>load1 3 _ ⟨B2,0,none⟩ _ rfl rfl (fun _=>by kernel_rfl) (hS.get mS 0 _ rfl)) M ?_; refine xrH 10 35 rfl (.agg #[.int .i64 p.1,.int .i64 (rlo f)]) (fun _ hS=>(by kernel_rfl)) M ?_; refine xrH 11 36 rfl (.pointer (some ⟨B2,1,none⟩)) (fun _ hS=>(by kernel_rfl)) M ?_
     refine xrH 12 37 rfl (.int .i64 (rhi t)) (fun _ hS=>load1 3 _ ⟨B2,1,none⟩ _ rfl rfl (fun _=>by kernel_rfl) (hS.get mS 1 _ rfl)) M ?_; refine xrH 13 38 rfl (.pointer (some ⟨R,0,none⟩)) (fun _ hS=>(by kernel_rfl)) M ?_; refine xrH 14 39 rfl (.pointer (some ⟨R,0,none⟩)) (fun _ hS=>(by kernel_rfl)) M ?_
     refine xrH 15 40 rfl (.pointer (some ⟨R,0,none⟩)) (fun _ hS=>(by kernel_rfl)) M ?_; refine xrH 16 41 rfl (.slice (some adr) L.length cap) (fun _ hS=>load1 27 _ ⟨R,0,none⟩ _ rfl rfl (fun _=>by kernel_rfl) (cellT hS.below hRA)) M ?_; refine xrH 17 42 rfl (.int .i64 ((j:Nat):Int)) (fun _ hS=>(by kernel_rfl)) M ?_
     refine xrH 18 43 rfl (.int .i64 ((j-1:Nat):Int)) (fun _ hS=>subI .i64 _ _ _ _ _ _ _ rfl rfl rfl (by rw [xw6]; omega) _) M ?_; refine xrH 19 44 rfl (.pointer (some (adr.add ((j-1)*2)))) (fun _ hS=>idxR2 adr _ _ (j-1) (by omega) _ _ rfl rfl rfl _) M ?_; refine xrH 20 45 rfl (.pointer (some ((adr.add ((j-1)*2)).add 1))) (fun _ hS=>(by kernel_rfl)) M ?_
     refine xrH 21 46 rfl (.int .i64 q.2) (fun _ hS=>load1 3 _ ((adr.add ((j-1)*2)).add 1) _ rfl rfl (fun _=>by kernel_rfl) (NewW.rng (NewW.below NA hS.below) hq 1 _ rfl)) M ?_; refine xrH 22 47 rfl (.agg #[.int .i64 (rhi t),.int .i64 q.2]) (fun _ hS=>(by kernel_rfl)) M ?_
     have VR:(w7.alloc (.cells #[.int .i64 p.1,.int .i64 (rlo f),.int .i64 (rhi t),.int .i64 q.2] 34)).ownsRow 0 34 2 (.slice (some ⟨w7.heap.size,0,none⟩) 2 2) 2 (wrc [(p.1,rlo f),(rhi t,q.2)]):=World.ownsRow_lit (base:=0) (e:=34) (size:=2) w7 #[.int .i64 p.1,.int .i64 (rlo f),.int .i64 (rhi t),.int .i64 q.2] 2 (Nat.zero_le _) (by unfold maxLen; omega) rfl
     refine onlyH (i:=23) (some 48) rfl (w':=w7.alloc (.cells #[.int .i64 p.1,.int .i64 (rlo f),.int .i64 (rhi t),.int .i64 q.2] 34)) (.slice (some ⟨w7.heap.size,0,none⟩) 2 2) (by kernel_rfl) rfl rfl (by kernel_rfl) (M.box _ _ _ rfl).tail ?_; simp only [aP,lI,l0,lS]; replace M:=M.box #[.int .i64 p.1,.int .i64 (rlo f),.int .i64 (rhi t),.int .i64 q.2] 34 w7.heap.size rfl
     generalize w7.alloc (.cells #[.int .i64 p.1,.int .i64 (rlo f),.int .i64 (rhi t),.int .i64 q.2] 34)=w8 at M VR ⊢; generalize hbz:w7.heap.size=B8 at M VR ⊢; clear hbz
     replace M:Mm w ((B8,[.int .i64 p.1,.int .i64 (rlo f),.int .i64 (rhi t),.int .i64 q.2])::(B2,[.int .i64 (rlo f),.int .i64 (rhi t)])::([]:List (Nat × List Value))) w8:=M
     refine xrH 24 10 rfl (.slice (some ⟨B8,0,none⟩) 2 2) (fun _ hS=>(by kernel_rfl)) M.tail ?_
     refine wpAnyH_done (by kernel_rfl) ?_ _
     first | show Exit.then _ _ _ _ _ | show Exit.inBlock _ _ _ _ _
     have hrct:rct L f t=L.take i++((keep17 ((p.1,rlo f):Int × Int) ((rhi t,q.2):Int × Int))++L.drop j):=by rw [rct_is (show ¬ rhi t≤rlo f by omega),rcut_touch hT hc hft (by omega) hp hq]; rfl
     have hcv:Can (keep17 ((p.1,rlo f):Int × Int) ((rhi t,q.2):Int × Int)):=(rct_can hc f t).sub (by rw [hrct]; exact (List.sublist_append_left _ _).trans (List.sublist_append_right _ _))
     have hb1:=rtot_in hcv; have hb2:=rtot_in (mid_can hc i j); go_upto_region 8 with fail; refine wp_region_list ?_; refine xpL (.pointer (some ⟨R,0,none⟩)) ?_; refine xpL (.int .i64 ((i:Nat):Int)) ?_; refine xpL (.int .i64 ((j:Nat):Int)) ?_; refine xpL (.slice (some ⟨B8,0,none⟩) 2 2) ?_
     have key:=vdel_any w _ ((p.1,rlo f):Int × Int) ((rhi t,q.2):Int × Int) B8 _ M.untell VR; refine xcL key ?_; clear key; rintro e w9 ⟨rfl,M2,V2,_⟩; clear M VR; have M:=M2; clear M2; refine xeL ?_; have hva:=vb_away M0 M
     have key:=vreplace_any w0 _ R sp cap L (keep17 ((p.1,rlo f):Int × Int) ((rhi t,q.2):Int × Int)) l i j B8 2 hc hcv hij hjl hln (keep_len _ _) (fun e_=>absurd e_ hlt) (M0.call M.below) (ownsRow_bel O_ M.below) V2 hva; refine xcL key ?_; clear key; rintro e w10 ⟨sq,cq,rfl,M2,O2,OF2⟩
     have OF:Off (R::ob sp) w w10:=((Off.refl _ _).below M.below).trans OF2
     rw [← hrct] at M2 O2
     clear M OF2 V2; refine xeL ?_
     refine xaL (.int .i64 (rctN L f t)) (negI .i64 _ _ _ _ rfl rfl (by have e_:=rtot_swap L (keep17 ((p.1,rlo f):Int × Int) ((rhi t,q.2):Int × Int)) hij; rw [xw6]; unfold rctN; rw [hrct]; omega) _) ?_
     refine xpL (.int .i64 (rctN L f t)) ?_; refine xT ?_; have HS:=show Hid _ from (And.intro M2 (And.intro O2 OF)); clear M2 O2 OF M0 O_ hrct; go_wp2; go_ret
     first | exact ⟨sq,cq,rfl,HS.out⟩ | exact ⟨rfl,sq,cq,HS.out⟩
theorem eqlN17 {P:Program} {o:Oper} {a:Act} (t e t':TypeId) (x y:Operand) (sp:Option Addr) (n c:Nat) (b:Bool) (ho:o.op=.binOp .eql t x y t') (hx:a.eval x=.slice sp n c) (hy:a.eval y=.slice none 0 0) (hu:P.underlying t=some (.slice e)) (hb:sp.isNone=b) (w:World):(execOp a.eval o).run P w=.ok (.value (.bool b)) w:=by
 subst hb
 unfold execOp
 have e1:(eqGuard .eql t x y (.slice sp n c) (.slice none 0 0)).run P w=.ok () w:=rfl
 simp only [ho,hx,hy,Sem.run_bind,e1,Lib.run_eql_slice_nil w t e sp n c 0 0 hu,Sem.run_pure,Result.andThen_ok]
theorem vnext_any (R:Nat) (sp:Option Addr) (cap:Nat) (L:Rgs17) (hc:Can L) (hln:L.length<1000000) (n:Int) (w:World) (hR:w.cell? ⟨R,0,none⟩=some (.slice sp L.length cap)) (N:NewW w 0 L (.slice sp L.length cap)) :
 Calls Try.prog 22 #[.pointer (some ⟨R,0,none⟩),.int .i64 n] w fun e w'=>e=.returned (.int .i64 (rnxt L n))∧Below w.heap.size w w':=by
 have M:=Mm.init w
 go_enter Try.func22,Try.ntmps22
 go_upto_region 0 with fail; refine wp_region_list ?_; refine actL (w':=w.alloc (.cells #[.int .i64 n] 3)) (.pointer (some ⟨w.heap.size,0,none⟩)) rfl (by kernel_rfl) ?_; simp only [aP,lI,l0,lS]
 have hB_B1:w.heap.size≤w.heap.size:=M.below.size
 replace M:=M.box #[.int .i64 n] 3 w.heap.size rfl; generalize w.alloc (.cells #[.int .i64 n] 3)=w1 at M  ⊢; generalize eB:w.heap.size=B1 at M hB_B1  ⊢
 have hE_B1:w.heap.size≤B1:=Nat.le_of_eq eB
 have hF_B1:B1≤w.heap.size:=Nat.le_of_eq eB.symm
 clear eB
 replace M:Mm w ((B1,[.int .i64 n])::([]:List (Nat × List Value))) w1:=M
 refine xpL (.int .i64 0) ?_; refine xT ?_; go_upto_region 1 with fail; refine wp_region_list ?_; refine xaL (.int .i64 n) (load1 3 _ ⟨B1,0,none⟩ _ rfl rfl (fun _=>by kernel_rfl) (M.get mS 0 _ rfl)) ?_; refine xaL (.int .i64 (max n 0)) (maxI .i64 .i64 _ _ _ _ _ _ _ rfl rfl rfl (by split <;> omega) _) ?_
 refine skipOpL rfl (storeAny (.int .i64 (max n 0)) B1 0 3 _ _ rfl rfl rfl rfl rfl (M.isSome mS 0 (by simp)) (M.free mS 0 (by simp)) (by kernel_rfl)) ?_; simp only [Act.put]; replace M:=M.set 0 (by simp) (.int .i64 (max n 0)); generalize w1.setCell ⟨B1,0,none⟩ (.int .i64 (max n 0))=w2 at M  ⊢
 replace M:Mm w ((B1,[.int .i64 (max n 0)])::([]:List (Nat × List Value))) w2:=M
 refine xT ?_; go_upto_region 2 with fail; refine wp_region_list ?_; refine xpL (.pointer (some ⟨R,0,none⟩)) ?_; refine xpL (.func (.func 37) #[] #[.pointer (some ⟨B1,0,none⟩)]) ?_
 have key:=vfirst_any 37 B1 R (fun x=>decide (x.2>max n 0)) sp cap L hln (hc.mono fun x y _ _ _ h=>by simp only [decide_eq_true_eq] at h ⊢; omega) _ ⟨by simp,fun w' l x=>vc_next x B1 _ w' (cellT l (M.get mS 0 _ rfl))⟩ (cellT M.below hR) (NewW.below N M.below); refine xcL key ?_; clear key; rintro e w3 ⟨i,rfl,hA,l⟩; replace M:=M.call l; clear l; refine xeL ?_
 refine xpL (.int .i64 ((i:Nat):Int)) ?_; refine xT ?_
 by_cases hi:i<L.length
 · obtain ⟨p,hp⟩:∃ p,L[i]?=some p:=⟨_,List.getElem?_eq_getElem (by omega)⟩
   obtain ⟨adr,hadr,_,_⟩:=NewW.at N hp
   have NA:=N
   rw [hadr] at NA
   have hRA:=hR
   rw [hadr] at hRA
   clear hadr
   by_cases hle:p.1≤max n 0
   · go_upto_region 3 with fail
     refine wp_region_held_drew (S:=fun w'=>Mm w ((B1,[.int .i64 (max n 0)])::([]:List (Nat × List Value))) w') (by kernel_rfl) M.drew ?_; intro _; replace M:=M.drew; have hdr:=(Below.refl w3.heap.size w3).drew; clear hdr; generalize w3.drew=w5 at M  ⊢; refine xrH 0 11 rfl (.int .i64 ((i:Nat):Int)) (fun _ hS=>(by kernel_rfl)) M ?_
     refine xrH 1 12 rfl (.pointer (some ⟨R,0,none⟩)) (fun _ hS=>(by kernel_rfl)) M ?_; refine xrH 2 13 rfl (.pointer (some ⟨R,0,none⟩)) (fun _ hS=>(by kernel_rfl)) M ?_; refine xrH 3 14 rfl (.pointer (some ⟨R,0,none⟩)) (fun _ hS=>(by kernel_rfl)) M ?_
     refine xrH 4 15 rfl (.slice (some adr) L.length cap) (fun _ hS=>load1 27 _ ⟨R,0,none⟩ _ rfl rfl (fun _=>by kernel_rfl) (cellT hS.below hRA)) M ?_; refine xrH 5 16 rfl (.int .i64 ((L.length:Nat):Int)) (fun _ hS=>lenS _ 27 34 (some adr) L.length cap rfl Try.underlying27 rfl _) M ?_
     refine xrH 6 17 rfl (.bool true) (fun _ hS=>lssI .i64 _ _ _ _ _ _ rfl rfl rfl true (decide_eq_true (by omega)) _) M ?_; refine xrH 7 18 rfl (.bool true) (fun _ hS=>(by kernel_rfl)) M ?_; refine xrH 8 19 rfl (.pointer (some ⟨R,0,none⟩)) (fun _ hS=>(by kernel_rfl)) M ?_; refine xrH 9 20 rfl (.pointer (some ⟨R,0,none⟩)) (fun _ hS=>(by kernel_rfl)) M ?_
     refine xrH 10 21 rfl (.pointer (some ⟨R,0,none⟩)) (fun _ hS=>(by kernel_rfl)) M ?_; refine xrH 11 22 rfl (.slice (some adr) L.length cap) (fun _ hS=>load1 27 _ ⟨R,0,none⟩ _ rfl rfl (fun _=>by kernel_rfl) (cellT hS.below hRA)) M ?_; refine xrH 12 23 rfl (.int .i64 ((i:Nat):Int)) (fun _ hS=>(by kernel_rfl)) M ?_
     refine xrH 13 24 rfl (.pointer (some (adr.add (i*2)))) (fun _ hS=>idxR2 adr _ _ i hi _ _ rfl rfl rfl _) M ?_; refine xrH 14 25 rfl (.pointer (some ((adr.add (i*2)).add 0))) (fun _ hS=>(by kernel_rfl)) M ?_; refine xrH 15 26 rfl (.int .i64 p.1) (fun _ hS=>load1 3 _ ((adr.add (i*2)).add 0) _ rfl rfl (fun _=>by kernel_rfl) (NewW.rng (NewW.below NA hS.below) hp 0 _ rfl)) M ?_
     refine xrH 16 27 rfl (.int .i64 (max n 0)) (fun _ hS=>load1 3 _ ⟨B1,0,none⟩ _ rfl rfl (fun _=>by kernel_rfl) (hS.get mS 0 _ rfl)) M ?_; refine xrH 17 28 rfl (.bool true) (fun _ hS=>leqI .i64 _ _ _ _ _ _ rfl rfl rfl true (decide_eq_true (by omega)) _) M ?_; refine xrH 18 29 rfl (.bool true) (fun _ hS=>(by kernel_rfl)) M ?_
     refine wpAnyH_done (by kernel_rfl) ?_ _
     first | show Exit.then _ _ _ _ _ | show Exit.inBlock _ _ _ _ _
     go_upto_region 4 with fail; refine wp_region_list ?_; refine xpL (.pointer (some ⟨R,0,none⟩)) ?_; refine xpL (.pointer (some ⟨R,0,none⟩)) ?_; refine xpL (.pointer (some ⟨R,0,none⟩)) ?_; refine xaL (.slice (some adr) L.length cap) (load1 27 _ ⟨R,0,none⟩ _ rfl rfl (fun _=>by kernel_rfl) (cellT M.below hRA)) ?_; refine xpL (.int .i64 ((i:Nat):Int)) ?_
     refine readL (.pointer (some (adr.add (i*2)))) rfl (idxR2 adr _ _ i hi _ _ rfl rfl rfl _) ?_; simp only [aP,lI,l0,lS]; refine xpL (.pointer (some ((adr.add (i*2)).add 1))) ?_; refine xaL (.int .i64 p.2) (load1 3 _ ((adr.add (i*2)).add 1) _ rfl rfl (fun _=>by kernel_rfl) (NewW.rng (NewW.below NA M.below) hp 1 _ rfl)) ?_; refine xpL (.int .i64 p.2) ?_; refine xT ?_
     have hE:=show Hid _ from (show rnxt L n=_ from nx_hit hA hp (by omega)); have hbel:=M.below; clear M hA; go_wp2; go_ret
     exact ⟨by rw [hE.out]; try rfl,hbel⟩
   · go_upto_region 3 with fail
     refine wp_region_held_drew (S:=fun w'=>Mm w ((B1,[.int .i64 (max n 0)])::([]:List (Nat × List Value))) w') (by kernel_rfl) M.drew ?_; intro _; replace M:=M.drew; have hdr:=(Below.refl w3.heap.size w3).drew; clear hdr; generalize w3.drew=w6 at M  ⊢; refine xrH 0 11 rfl (.int .i64 ((i:Nat):Int)) (fun _ hS=>(by kernel_rfl)) M ?_
     refine xrH 1 12 rfl (.pointer (some ⟨R,0,none⟩)) (fun _ hS=>(by kernel_rfl)) M ?_; refine xrH 2 13 rfl (.pointer (some ⟨R,0,none⟩)) (fun _ hS=>(by kernel_rfl)) M ?_; refine xrH 3 14 rfl (.pointer (some ⟨R,0,none⟩)) (fun _ hS=>(by kernel_rfl)) M ?_
     refine xrH 4 15 rfl (.slice (some adr) L.length cap) (fun _ hS=>load1 27 _ ⟨R,0,none⟩ _ rfl rfl (fun _=>by kernel_rfl) (cellT hS.below hRA)) M ?_; refine xrH 5 16 rfl (.int .i64 ((L.length:Nat):Int)) (fun _ hS=>lenS _ 27 34 (some adr) L.length cap rfl Try.underlying27 rfl _) M ?_
     refine xrH 6 17 rfl (.bool true) (fun _ hS=>lssI .i64 _ _ _ _ _ _ rfl rfl rfl true (decide_eq_true (by omega)) _) M ?_; refine xrH 7 18 rfl (.bool true) (fun _ hS=>(by kernel_rfl)) M ?_; refine xrH 8 19 rfl (.pointer (some ⟨R,0,none⟩)) (fun _ hS=>(by kernel_rfl)) M ?_; refine xrH 9 20 rfl (.pointer (some ⟨R,0,none⟩)) (fun _ hS=>(by kernel_rfl)) M ?_
     refine xrH 10 21 rfl (.pointer (some ⟨R,0,none⟩)) (fun _ hS=>(by kernel_rfl)) M ?_; refine xrH 11 22 rfl (.slice (some adr) L.length cap) (fun _ hS=>load1 27 _ ⟨R,0,none⟩ _ rfl rfl (fun _=>by kernel_rfl) (cellT hS.below hRA)) M ?_; refine xrH 12 23 rfl (.int .i64 ((i:Nat):Int)) (fun _ hS=>(by kernel_rfl)) M ?_
     refine xrH 13 24 rfl (.pointer (some (adr.add (i*2)))) (fun _ hS=>idxR2 adr _ _ i hi _ _ rfl rfl rfl _) M ?_; refine xrH 14 25 rfl (.pointer (some ((adr.add (i*2)).add 0))) (fun _ hS=>(by kernel_rfl)) M ?_; refine xrH 15 26 rfl (.int .i64 p.1) (fun _ hS=>load1 3 _ ((adr.add (i*2)).add 0) _ rfl rfl (fun _=>by kernel_rfl) (NewW.rng (NewW.below NA hS.below) hp 0 _ rfl)) M ?_
     refine xrH 16 27 rfl (.int .i64 (max n 0)) (fun _ hS=>load1 3 _ ⟨B1,0,none⟩ _ rfl rfl (fun _=>by kernel_rfl) (hS.get mS 0 _ rfl)) M ?_; refine xrH 17 28 rfl (.bool false) (fun _ hS=>leqI .i64 _ _ _ _ _ _ rfl rfl rfl false (decide_eq_false (by omega)) _) M ?_; refine xrH 18 29 rfl (.bool false) (fun _ hS=>(by kernel_rfl)) M ?_
     refine wpAnyH_done (by kernel_rfl) ?_ _
     first | show Exit.then _ _ _ _ _ | show Exit.inBlock _ _ _ _ _
     go_upto_region 5 with fail; refine wp_region_list ?_; refine xaL (.int .i64 (max n 0)) (load1 3 _ ⟨B1,0,none⟩ _ rfl rfl (fun _=>by kernel_rfl) (M.get mS 0 _ rfl)) ?_; refine xpL (.int .i64 (max n 0)) ?_; refine xT ?_; have hE:=show Hid _ from (show rnxt L n=_ from nx_miss hc hA hp (by omega)); have hbel:=M.below; clear M hA; go_wp2; go_ret
     exact ⟨by rw [hE.out]; try rfl,hbel⟩
 · go_upto_region 3 with fail
   refine wp_region_held_drew (S:=fun w'=>Mm w ((B1,[.int .i64 (max n 0)])::([]:List (Nat × List Value))) w') (by kernel_rfl) M.drew ?_; intro _; replace M:=M.drew; have hdr:=(Below.refl w3.heap.size w3).drew; clear hdr; generalize w3.drew=w4 at M  ⊢; refine xrH 0 11 rfl (.int .i64 ((i:Nat):Int)) (fun _ hS=>(by kernel_rfl)) M ?_
   refine xrH 1 12 rfl (.pointer (some ⟨R,0,none⟩)) (fun _ hS=>(by kernel_rfl)) M ?_; refine xrH 2 13 rfl (.pointer (some ⟨R,0,none⟩)) (fun _ hS=>(by kernel_rfl)) M ?_; refine xrH 3 14 rfl (.pointer (some ⟨R,0,none⟩)) (fun _ hS=>(by kernel_rfl)) M ?_
   refine xrH 4 15 rfl (.slice sp L.length cap) (fun _ hS=>load1 27 _ ⟨R,0,none⟩ _ rfl rfl (fun _=>by kernel_rfl) (cellT hS.below hR)) M ?_; refine xrH 5 16 rfl (.int .i64 ((L.length:Nat):Int)) (fun _ hS=>lenS _ 27 34 sp L.length cap rfl Try.underlying27 rfl _) M ?_
   refine xrH 6 17 rfl (.bool false) (fun _ hS=>lssI .i64 _ _ _ _ _ _ rfl rfl rfl false (decide_eq_false (by omega)) _) M ?_; refine xrH 7 18 rfl (.bool false) (fun _ hS=>(by kernel_rfl)) M ?_; refine mayH (i:=8) (some 19) rfl false undef undef rfl rfl rfl (fun hc=>by cases hc) (by kernel_rfl) (by kernel_rfl) (by kernel_rfl) (fun _ _ _ h=>h) M ?_; simp only [aP,lI,l0,lS]
   refine mayH (i:=9) (some 20) rfl false undef undef rfl rfl rfl (fun hc=>by cases hc) (by kernel_rfl) (by kernel_rfl) (by kernel_rfl) (fun _ _ _ h=>h) M ?_; simp only [aP,lI,l0,lS]; refine mayH (i:=10) (some 21) rfl false undef undef rfl rfl rfl (fun hc=>by cases hc) (by kernel_rfl) (by kernel_rfl) (by kernel_rfl) (fun _ _ _ h=>h) M ?_; simp only [aP,lI,l0,lS]
   refine mayH (i:=11) (some 22) rfl false undef undef rfl rfl rfl (fun hc=>by cases hc) (by kernel_rfl) (by kernel_rfl) (by kernel_rfl) (fun _ _ _ h=>h) M ?_; simp only [aP,lI,l0,lS]; refine mayH (i:=12) (some 23) rfl false undef undef rfl rfl rfl (fun hc=>by cases hc) (by kernel_rfl) (by kernel_rfl) (by kernel_rfl) (fun _ _ _ h=>h) M ?_; simp only [aP,lI,l0,lS]
   refine mayH (i:=13) (some 24) rfl false undef undef rfl rfl rfl (fun hc=>by cases hc) (by kernel_rfl) (by kernel_rfl) (by kernel_rfl) (fun _ _ _ h=>h) M ?_; simp only [aP,lI,l0,lS]; refine mayH (i:=14) (some 25) rfl false undef undef rfl rfl rfl (fun hc=>by cases hc) (by kernel_rfl) (by kernel_rfl) (by kernel_rfl) (fun _ _ _ h=>h) M ?_; simp only [aP,lI,l0,lS]
   refine mayH (i:=15) (some 26) rfl false undef undef rfl rfl rfl (fun hc=>by cases hc) (by kernel_rfl) (by kernel_rfl) (by kernel_rfl) (fun _ _ _ h=>h) M ?_; simp only [aP,lI,l0,lS]; refine mayH (i:=16) (some 27) rfl false undef undef rfl rfl rfl (fun hc=>by cases hc) (by kernel_rfl) (by kernel_rfl) (by kernel_rfl) (fun _ _ _ h=>h) M ?_; simp only [aP,lI,l0,lS]
   refine mayH (i:=17) (some 28) rfl false undef undef rfl rfl rfl (fun hc=>by cases hc) (by kernel_rfl) (by kernel_rfl) (by kernel_rfl) (fun _ _ _ h=>h) M ?_; simp only [aP,lI,l0,lS]; refine xrH 18 29 rfl (.bool false) (fun _ hS=>(by kernel_rfl)) M ?_
   refine wpAnyH_done (by kernel_rfl) ?_ _
   first | show Exit.then _ _ _ _ _ | show Exit.inBlock _ _ _ _ _
   go_upto_region 5 with fail; refine wp_region_list ?_; refine xaL (.int .i64 (max n 0)) (load1 3 _ ⟨B1,0,none⟩ _ rfl rfl (fun _=>by kernel_rfl) (M.get mS 0 _ rfl)) ?_; refine xpL (.int .i64 (max n 0)) ?_; refine xT ?_; have hE:=show Hid _ from (show rnxt L n=_ from nx_end hA (by omega)); have hbel:=M.below; clear M hA; go_wp2; go_ret
   exact ⟨by rw [hE.out]; try rfl,hbel⟩
theorem vhas_any (R:Nat) (sp:Option Addr) (cap:Nat) (L:Rgs17) (hc:Can L) (hln:L.length<1000000) (n:Int) (w:World) (hR:w.cell? ⟨R,0,none⟩=some (.slice sp L.length cap)) (N:NewW w 0 L (.slice sp L.length cap)) :
 Calls Try.prog 20 #[.pointer (some ⟨R,0,none⟩),.int .i64 n] w fun e w'=>e=.returned (.bool (rhas L n))∧Below w.heap.size w w':=by
 have M:=Mm.init w
 go_enter Try.func20,Try.ntmps20
 go_upto_region 0 with fail; refine wp_region_list ?_; refine xpL (.bool false) ?_; refine xT ?_
 by_cases h0:n≥0
 · go_upto_region 1 with fail
   refine wp_region_list ?_; refine xpL (.int .i64 n) ?_; refine xaL (.bool true) (geqI .i64 _ _ _ _ _ _ rfl rfl rfl true (decide_eq_true (by omega)) _) ?_; refine xpL (.bool true) ?_; refine xpL (.pointer (some ⟨R,0,none⟩)) ?_; refine xpL (.int .i64 n) ?_; have key:=vnext_any R sp cap L hc hln n _ (cellT M.below hR) (NewW.below N M.below); refine xcL key ?_; clear key; rintro e w1 ⟨rfl,l⟩
   replace M:=M.call l; clear l; refine xeL ?_; refine xpL (.int .i64 n) ?_; refine xaL (.bool (rnxt L n != n)) (neqI .i64 _ _ _ _ _ _ rfl rfl rfl (rnxt L n != n) rfl _) ?_; refine xpL (.bool (rnxt L n != n)) ?_; refine xpL (.bool (rnxt L n != n)) ?_; refine xT ?_; have hE:=show Hid _ from (show rhas L n=(rnxt L n != n) by rw [has_next hc,decide_eq_true h0,Bool.true_and])
   have hbel:=M.below; clear M; go_wp2; go_ret
   exact ⟨by rw [hE.out]; try rfl,hbel⟩
 · go_upto_region 1 with fail
   refine wp_region_list ?_; refine xpL (.int .i64 n) ?_; refine xaL (.bool false) (geqI .i64 _ _ _ _ _ _ rfl rfl rfl false (decide_eq_false (by omega)) _) ?_; refine xpL (.bool false) ?_
   with_reducible refine skipL ?_ ?_
   · rfl
   simp only [aP,lI,l0,lS]
   with_reducible refine skipL ?_ ?_
   · rfl
   simp only [aP,lI,l0,lS]
   with_reducible refine skipL ?_ ?_
   · rfl
   simp only [aP,lI,l0,lS]
   with_reducible refine skipL ?_ ?_
   · rfl
   simp only [aP,lI,l0,lS]
   with_reducible refine skipL ?_ ?_
   · rfl
   simp only [aP,lI,l0,lS]; refine xpL (.bool false) ?_; refine xpL (.bool false) ?_; refine xT ?_; have hE:=show Hid _ from (show rhas L n=false by rw [has_next hc,decide_eq_false h0]; rfl); have hbel:=M.below; clear M; go_wp2; go_ret
   exact ⟨by rw [hE.out]; try rfl,hbel⟩
theorem vgap_any (R:Nat) (sp:Option Addr) (cap:Nat) (L:Rgs17) (hc:Can L) (hln:L.length<1000000) (f t:Int) (w:World) (hR:w.cell? ⟨R,0,none⟩=some (.slice sp L.length cap)) (N:NewW w 0 L (.slice sp L.length cap)) :
 Calls Try.prog 14 #[.pointer (some ⟨R,0,none⟩),.int .i64 f,.int .i64 t] w fun e w'=>e=.returned (.tuple #[.agg #[.int .i64 (rgF L f t),.int .i64 (rgT L f t)],.bool (rgB L f t)])∧Below w.heap.size w w':=by
 have M:=Mm.init w
 go_enter Try.func14,Try.ntmps14
 go_upto_region 0 with fail; refine wp_region_list ?_; refine actL (w':=w.alloc (.cells #[.int .i64 0,.int .i64 0] 34)) (.pointer (some ⟨w.heap.size,0,none⟩)) rfl (by kernel_rfl) ?_; simp only [aP,lI,l0,lS]
 have hB_B1:w.heap.size≤w.heap.size:=M.below.size
 replace M:=M.box #[.int .i64 0,.int .i64 0] 34 w.heap.size rfl; generalize w.alloc (.cells #[.int .i64 0,.int .i64 0] 34)=w1 at M  ⊢; generalize eB:w.heap.size=B1 at M hB_B1  ⊢
 have hE_B1:w.heap.size≤B1:=Nat.le_of_eq eB
 have hF_B1:B1≤w.heap.size:=Nat.le_of_eq eB.symm
 clear eB
 replace M:Mm w ((B1,[.int .i64 0,.int .i64 0])::([]:List (Nat × List Value))) w1:=M
 refine xpL (.bool false) ?_; refine xT ?_; go_upto_region 1 with fail; refine wp_region_list ?_; refine xpL (.int .i64 f) ?_; refine xpL (.int .i64 t) ?_; have key:=vwith_any f t w1; refine xcL key ?_; clear key; rintro e w2 ⟨rfl,l⟩; replace M:=M.call l; clear l; refine xeL ?_
 refine actL (w':=w2.alloc (.cells #[.int .i64 0,.int .i64 0] 34)) (.pointer (some ⟨w2.heap.size,0,none⟩)) rfl (by kernel_rfl) ?_; simp only [aP,lI,l0,lS]
 have hB_B3:w.heap.size≤w2.heap.size:=M.below.size
 replace M:=M.box #[.int .i64 0,.int .i64 0] 34 w2.heap.size rfl; generalize w2.alloc (.cells #[.int .i64 0,.int .i64 0] 34)=w3 at M  ⊢; generalize eB:w2.heap.size=B3 at M hB_B3  ⊢
 have hE_B3:w2.heap.size≤B3:=Nat.le_of_eq eB
 have hF_B3:B3≤w2.heap.size:=Nat.le_of_eq eB.symm
 clear eB
 replace M:Mm w ((B3,[.int .i64 0,.int .i64 0])::(B1,[.int .i64 0,.int .i64 0])::([]:List (Nat × List Value))) w3:=M
 refine skipOpL rfl (storeP [.int .i64 (rlo f),.int .i64 (rhi t)] B3 0 34 _ _ rfl rfl rfl (M.thereP mS 0 2 (Nat.le_of_ble_eq_true rfl)) (by kernel_rfl) (List.all_eq_true.1 (rfl:([.int .i64 (rlo f),.int .i64 (rhi t)]:List Value).all (fun u=>u.oneCell')=true))) ?_; simp only [Act.put]; replace M:=M.setPart [.int .i64 (rlo f),.int .i64 (rhi t)] 0 (Nat.le_of_ble_eq_true rfl)
 generalize w3.setCells B3 0 [.int .i64 (rlo f),.int .i64 (rhi t)]=w4 at M  ⊢
 replace M:Mm w ((B3,[.int .i64 (rlo f),.int .i64 (rhi t)])::(B1,[.int .i64 0,.int .i64 0])::([]:List (Nat × List Value))) w4:=M
 refine xT ?_; go_upto_region 2 with fail; refine wp_region_list ?_; refine xpL (.pointer (some ⟨R,0,none⟩)) ?_; refine xpL (.pointer (some ⟨B3,0,none⟩)) ?_; refine xaL (.int .i64 (rlo f)) (load1 3 _ ⟨B3,0,none⟩ _ rfl rfl (fun _=>by kernel_rfl) (M.get mS 0 _ rfl)) ?_; have key:=vnext_any R sp cap L hc hln (rlo f) _ (cellT M.below hR) (NewW.below N M.below)
 rw [rnxt_lo] at key
 refine xcL key ?_; clear key; rintro e w5 ⟨rfl,l⟩; replace M:=M.call l; clear l; refine xeL ?_; refine xpL (.pointer (some ⟨B3,0,none⟩)) ?_; refine skipOpL rfl (storeAny (.int .i64 (rnx L (rlo f))) B3 0 3 _ _ rfl rfl rfl rfl rfl (M.isSome mS 0 (by simp)) (M.free mS 0 (by simp)) (by kernel_rfl)) ?_; simp only [Act.put]; replace M:=M.set 0 (by simp) (.int .i64 (rnx L (rlo f)))
 generalize w5.setCell ⟨B3,0,none⟩ (.int .i64 (rnx L (rlo f)))=w6 at M  ⊢
 replace M:Mm w ((B3,[.int .i64 (rnx L (rlo f)),.int .i64 (rhi t)])::(B1,[.int .i64 0,.int .i64 0])::([]:List (Nat × List Value))) w6:=M
 refine xT ?_
 by_cases hge:rhi t≤rnx L (rlo f)
 · go_upto_region 3 with fail
   refine wp_region_list ?_; refine xaL (.agg #[.int .i64 (rnx L (rlo f)),.int .i64 (rhi t)]) (loadN 34 _ ⟨B3,0,none⟩ [.int .i64 (rnx L (rlo f)),.int .i64 (rhi t)] rfl rfl (fun _=>by kernel_rfl) (fun _=>by kernel_rfl) (M.rangeAt mS)) ?_; have key:=vempty_any (rnx L (rlo f)) (rhi t) w6
   rw [show decide (rnx L (rlo f)≥rhi t)=true from decide_eq_true (by omega)] at key
   refine xcL key ?_; clear key; rintro e w7 ⟨rfl,l_⟩; replace M:=M.call l_; clear l_; refine xeL ?_; refine xT ?_; go_upto_region 4 with fail; refine wp_region_list ?_; refine xpL (.agg #[.int .i64 0,.int .i64 0]) ?_; replace M:=M.swap
   refine skipOpL rfl (storeP [.int .i64 0,.int .i64 0] B1 0 34 _ _ rfl rfl rfl (M.thereP mS 0 2 (Nat.le_of_ble_eq_true rfl)) (by kernel_rfl) (List.all_eq_true.1 (rfl:([.int .i64 0,.int .i64 0]:List Value).all (fun u=>u.oneCell')=true))) ?_; simp only [Act.put]; replace M:=M.setPart [.int .i64 0,.int .i64 0] 0 (Nat.le_of_ble_eq_true rfl)
   generalize w7.setCells B1 0 [.int .i64 0,.int .i64 0]=w8 at M  ⊢
   replace M:Mm w ((B1,[.int .i64 0,.int .i64 0])::(B3,[.int .i64 (rnx L (rlo f)),.int .i64 (rhi t)])::([]:List (Nat × List Value))) w8:=M
   refine xpL (.bool false) ?_; refine xT ?_; have hbel:=M.below; have hcs:=M.rangeAt mS; clear M; go_wp2
   obtain ⟨e1,e2,e3⟩:=rg_nil hge
   exact bodyPost_ret (v:=.tuple #[.agg #[.int .i64 0,.int .i64 0],.bool false]) (results_row_tmp (cs:=[.int .i64 0,.int .i64 0]) Try.results14 rfl rfl (rangeT hcs) Try.underlying34 rfl (by kernel_rfl)) rfl ⟨by rw [e1,e2,e3],hbel⟩
 · go_upto_region 3 with fail
   refine wp_region_list ?_; refine xaL (.agg #[.int .i64 (rnx L (rlo f)),.int .i64 (rhi t)]) (loadN 34 _ ⟨B3,0,none⟩ [.int .i64 (rnx L (rlo f)),.int .i64 (rhi t)] rfl rfl (fun _=>by kernel_rfl) (fun _=>by kernel_rfl) (M.rangeAt mS)) ?_; have key:=vempty_any (rnx L (rlo f)) (rhi t) w6
   rw [show decide (rnx L (rlo f)≥rhi t)=false from decide_eq_false (by omega)] at key
   refine xcL key ?_; clear key; rintro e w9 ⟨rfl,l_⟩; replace M:=M.call l_; clear l_; refine xeL ?_; refine xT ?_; go_upto_region 5 with fail; refine wp_region_list ?_; refine xpL (.pointer (some ⟨R,0,none⟩)) ?_; refine xpL (.func (.func 34) #[] #[.pointer (some ⟨B3,0,none⟩)]) ?_
   have key:=vfirst_any 34 B3 R (fun x=>decide (x.1>rnx L (rlo f))) sp cap L hln (hc.mono fun x y _ _ _ h=>by simp only [decide_eq_true_eq] at h ⊢; omega) _ ⟨by simp,fun w' l x=>vc_gap x B3 _ w' (cellT l (M.get mS 0 _ rfl))⟩ (cellT M.below hR) (NewW.below N M.below); refine xcL key ?_; clear key; rintro e w10 ⟨i,rfl,hA,l⟩; replace M:=M.call l; clear l; refine xeL ?_
   refine xpL (.int .i64 ((i:Nat):Int)) ?_; refine xT ?_
   by_cases hi:i<L.length
   · obtain ⟨p,hp⟩:∃ p,L[i]?=some p:=⟨_,List.getElem?_eq_getElem (by omega)⟩
     obtain ⟨adr,hadr,_,_⟩:=NewW.at N hp
     have NA:=N
     rw [hadr] at NA
     have hRA:=hR
     rw [hadr] at hRA
     clear hadr; go_upto_region 6 with fail; refine wp_region_list ?_; refine xpL (.int .i64 ((i:Nat):Int)) ?_; refine xpL (.pointer (some ⟨R,0,none⟩)) ?_; refine xpL (.pointer (some ⟨R,0,none⟩)) ?_; refine xpL (.pointer (some ⟨R,0,none⟩)) ?_; refine xaL (.slice sp L.length cap) (load1 27 _ ⟨R,0,none⟩ _ rfl rfl (fun _=>by kernel_rfl) (cellT M.below hR)) ?_
     refine xaL (.int .i64 ((L.length:Nat):Int)) (lenS _ 27 34 sp L.length cap rfl Try.underlying27 rfl _) ?_; refine xaL (.bool true) (lssI .i64 _ _ _ _ _ _ rfl rfl rfl true (decide_eq_true (by omega)) _) ?_; refine xT ?_; go_upto_region 7 with fail; replace M:=M.drew
     refine wp_region_C (S:=fun w'=>Mm w ((B3,[.int .i64 (rnx L (rlo f)),.int .i64 (rhi t)])::(B1,[.int .i64 0,.int .i64 0])::([]:List (Nat × List Value))) w') 12 (by kernel_rfl) M ?_; intro _; generalize w10.drew=w11 at M ⊢
     refine readC (i:=0) (some 31) rfl (.pointer (some ⟨B3,1,none⟩)) rfl rfl (by kernel_rfl) rfl (fun _ hS=>(by kernel_rfl)) (by kernel_rfl) (by kernel_rfl) (by kernel_rfl) (by kernel_rfl) (fun _ _ _ h=>h) M ?_; simp only [aP,lI,l0,lS]
     refine readC (i:=1) (some 32) rfl (.int .i64 (rhi t)) rfl rfl (by kernel_rfl) rfl (fun _ hS=>load1 3 _ ⟨B3,1,none⟩ _ rfl rfl (fun _=>by kernel_rfl) (hS.get mS 1 _ rfl)) (by kernel_rfl) (by kernel_rfl) (by kernel_rfl) (by kernel_rfl) (fun _ _ _ h=>h) M ?_; simp only [aP,lI,l0,lS]
     refine readC (i:=2) (some 33) rfl (.pointer (some ⟨R,0,none⟩)) rfl rfl (by kernel_rfl) rfl (fun _ hS=>(by kernel_rfl)) (by kernel_rfl) (by kernel_rfl) (by kernel_rfl) (by kernel_rfl) (fun _ _ _ h=>h) M ?_; simp only [aP,lI,l0,lS]
     refine readC (i:=3) (some 34) rfl (.pointer (some ⟨R,0,none⟩)) rfl rfl (by kernel_rfl) rfl (fun _ hS=>(by kernel_rfl)) (by kernel_rfl) (by kernel_rfl) (by kernel_rfl) (by kernel_rfl) (fun _ _ _ h=>h) M ?_; simp only [aP,lI,l0,lS]
     refine readC (i:=4) (some 35) rfl (.pointer (some ⟨R,0,none⟩)) rfl rfl (by kernel_rfl) rfl (fun _ hS=>(by kernel_rfl)) (by kernel_rfl) (by kernel_rfl) (by kernel_rfl) (by kernel_rfl) (fun _ _ _ h=>h) M ?_; simp only [aP,lI,l0,lS]
     refine readC (i:=5) (some 36) rfl (.slice (some adr) L.length cap) rfl rfl (by kernel_rfl) rfl (fun _ hS=>load1 27 _ ⟨R,0,none⟩ _ rfl rfl (fun _=>by kernel_rfl) (cellT hS.below hRA)) (by kernel_rfl) (by kernel_rfl) (by kernel_rfl) (by kernel_rfl) (fun _ _ _ h=>h) M ?_; simp only [aP,lI,l0,lS]
     refine readC (i:=6) (some 37) rfl (.int .i64 ((i:Nat):Int)) rfl rfl (by kernel_rfl) rfl (fun _ hS=>(by kernel_rfl)) (by kernel_rfl) (by kernel_rfl) (by kernel_rfl) (by kernel_rfl) (fun _ _ _ h=>h) M ?_; simp only [aP,lI,l0,lS]
     refine readC (i:=7) (some 38) rfl (.pointer (some (adr.add (i*2)))) rfl rfl (by kernel_rfl) rfl (fun _ hS=>idxR2 adr _ _ i hi _ _ rfl rfl rfl _) (by kernel_rfl) (by kernel_rfl) (by kernel_rfl) (by kernel_rfl) (fun _ _ _ h=>h) M ?_; simp only [aP,lI,l0,lS]
     refine readC (i:=8) (some 39) rfl (.pointer (some ((adr.add (i*2)).add 0))) rfl rfl (by kernel_rfl) rfl (fun _ hS=>(by kernel_rfl)) (by kernel_rfl) (by kernel_rfl) (by kernel_rfl) (by kernel_rfl) (fun _ _ _ h=>h) M ?_; simp only [aP,lI,l0,lS]
     refine readC (i:=9) (some 40) rfl (.int .i64 p.1) rfl rfl (by kernel_rfl) rfl (fun _ hS=>load1 3 _ ((adr.add (i*2)).add 0) _ rfl rfl (fun _=>by kernel_rfl) (NewW.rng (NewW.below NA hS.below) hp 0 _ rfl)) (by kernel_rfl) (by kernel_rfl) (by kernel_rfl) (by kernel_rfl) (fun _ _ _ h=>h) M ?_; simp only [aP,lI,l0,lS]
     refine readC (i:=10) (some 41) rfl (.int .i64 (min (rhi t) p.1)) rfl rfl (by kernel_rfl) rfl (fun _ hS=>minI .i64 .i64 _ _ _ _ _ _ _ rfl rfl rfl (by split <;> omega) _) (by kernel_rfl) (by kernel_rfl) (by kernel_rfl) (by kernel_rfl) (fun _ _ _ h=>h) M ?_; simp only [aP,lI,l0,lS]
     refine readC (i:=11) (some 42) rfl (.pointer (some ⟨B3,1,none⟩)) rfl rfl (by kernel_rfl) rfl (fun _ hS=>(by kernel_rfl)) (by kernel_rfl) (by kernel_rfl) (by kernel_rfl) (by kernel_rfl) (fun _ _ _ h=>h) M ?_; simp only [aP,lI,l0,lS]
     refine skipC (S2:=fun _=>True) none rfl (by kernel_rfl) rfl rfl (storeAny (.int .i64 (min (rhi t) p.1)) B3 1 3 _ _ rfl rfl rfl rfl rfl (M.isSome mS 1 (by simp)) (M.free mS 1 (by simp)) (by kernel_rfl)) (by kernel_rfl) ?_; simp only [Act.put]; replace M:=M.set 1 (by simp) (.int .i64 (min (rhi t) p.1)); generalize w11.setCell ⟨B3,1,none⟩ (.int .i64 (min (rhi t) p.1))=w12 at M ⊢
     replace M:Mm w ((B3,[.int .i64 (rnx L (rlo f)),.int .i64 (min (rhi t) p.1)])::(B1,[.int .i64 0,.int .i64 0])::([]:List (Nat × List Value))) w12:=M
     refine wpAnyH_done (by kernel_rfl) ?_ _
     first | show Exit.then _ _ _ _ _ | show Exit.inBlock _ _ _ _ _
     go_upto_region 8 with fail; refine wp_region_list ?_; refine xaL (.agg #[.int .i64 (rnx L (rlo f)),.int .i64 (min (rhi t) p.1)]) (loadN 34 _ ⟨B3,0,none⟩ [.int .i64 (rnx L (rlo f)),.int .i64 (min (rhi t) p.1)] rfl rfl (fun _=>by kernel_rfl) (fun _=>by kernel_rfl) (M.rangeAt mS)) ?_; replace M:=M.swap
     refine skipOpL rfl (storeP [.int .i64 (rnx L (rlo f)),.int .i64 (min (rhi t) p.1)] B1 0 34 _ _ rfl rfl rfl (M.thereP mS 0 2 (Nat.le_of_ble_eq_true rfl)) (by kernel_rfl) (List.all_eq_true.1 (rfl:([.int .i64 (rnx L (rlo f)),.int .i64 (min (rhi t) p.1)]:List Value).all (fun u=>u.oneCell')=true))) ?_; simp only [Act.put]
     replace M:=M.setPart [.int .i64 (rnx L (rlo f)),.int .i64 (min (rhi t) p.1)] 0 (Nat.le_of_ble_eq_true rfl); generalize w12.setCells B1 0 [.int .i64 (rnx L (rlo f)),.int .i64 (min (rhi t) p.1)]=w13 at M  ⊢
     replace M:Mm w ((B1,[.int .i64 (rnx L (rlo f)),.int .i64 (min (rhi t) p.1)])::(B3,[.int .i64 (rnx L (rlo f)),.int .i64 (min (rhi t) p.1)])::([]:List (Nat × List Value))) w13:=M
     refine xpL (.bool true) ?_; refine xT ?_; have hE:=show Hid _ from (show rbg L (rnx L (rlo f)) (rhi t)=min (rhi t) p.1 from bg_row hc hA hp); have hbel:=M.below; have hcs:=M.rangeAt mS; clear M; go_wp2
     obtain ⟨e1,e2,e3⟩:=rg_is (L:=L) (f:=f) (t:=t) (by omega)
     exact bodyPost_ret (v:=.tuple #[.agg #[.int .i64 (rnx L (rlo f)),.int .i64 (min (rhi t) p.1)],.bool true]) (results_row_tmp (cs:=[.int .i64 (rnx L (rlo f)),.int .i64 (min (rhi t) p.1)]) Try.results14 rfl rfl (rangeT hcs) Try.underlying34 rfl (by kernel_rfl)) rfl ⟨by rw [e1,e2,e3,hE.out],hbel⟩
   · go_upto_region 6 with fail
     refine wp_region_list ?_; refine xpL (.int .i64 ((i:Nat):Int)) ?_; refine xpL (.pointer (some ⟨R,0,none⟩)) ?_; refine xpL (.pointer (some ⟨R,0,none⟩)) ?_; refine xpL (.pointer (some ⟨R,0,none⟩)) ?_; refine xaL (.slice sp L.length cap) (load1 27 _ ⟨R,0,none⟩ _ rfl rfl (fun _=>by kernel_rfl) (cellT M.below hR)) ?_
     refine xaL (.int .i64 ((L.length:Nat):Int)) (lenS _ 27 34 sp L.length cap rfl Try.underlying27 rfl _) ?_; refine xaL (.bool false) (lssI .i64 _ _ _ _ _ _ rfl rfl rfl false (decide_eq_false (by omega)) _) ?_; refine xT ?_; go_upto_region 8 with fail; refine wp_region_list ?_
     refine xaL (.agg #[.int .i64 (rnx L (rlo f)),.int .i64 (rhi t)]) (loadN 34 _ ⟨B3,0,none⟩ [.int .i64 (rnx L (rlo f)),.int .i64 (rhi t)] rfl rfl (fun _=>by kernel_rfl) (fun _=>by kernel_rfl) (M.rangeAt mS)) ?_; replace M:=M.swap
     refine skipOpL rfl (storeP [.int .i64 (rnx L (rlo f)),.int .i64 (rhi t)] B1 0 34 _ _ rfl rfl rfl (M.thereP mS 0 2 (Nat.le_of_ble_eq_true rfl)) (by kernel_rfl) (List.all_eq_true.1 (rfl:([.int .i64 (rnx L (rlo f)),.int .i64 (rhi t)]:List Value).all (fun u=>u.oneCell')=true))) ?_; simp only [Act.put]
     replace M:=M.setPart [.int .i64 (rnx L (rlo f)),.int .i64 (rhi t)] 0 (Nat.le_of_ble_eq_true rfl); generalize w10.setCells B1 0 [.int .i64 (rnx L (rlo f)),.int .i64 (rhi t)]=w14 at M  ⊢
     replace M:Mm w ((B1,[.int .i64 (rnx L (rlo f)),.int .i64 (rhi t)])::(B3,[.int .i64 (rnx L (rlo f)),.int .i64 (rhi t)])::([]:List (Nat × List Value))) w14:=M
     refine xpL (.bool true) ?_; refine xT ?_; have hE:=show Hid _ from (show rbg L (rnx L (rlo f)) (rhi t)=rhi t from bg_end hA (by omega)); have hbel:=M.below; have hcs:=M.rangeAt mS; clear M; go_wp2
     obtain ⟨e1,e2,e3⟩:=rg_is (L:=L) (f:=f) (t:=t) (by omega)
     exact bodyPost_ret (v:=.tuple #[.agg #[.int .i64 (rnx L (rlo f)),.int .i64 (rhi t)],.bool true]) (results_row_tmp (cs:=[.int .i64 (rnx L (rlo f)),.int .i64 (rhi t)]) Try.results14 rfl rfl (rangeT hcs) Try.underlying34 rfl (by kernel_rfl)) rfl ⟨by rw [e1,e2,e3,hE.out],hbel⟩
theorem vcov_any (R:Nat) (sp:Option Addr) (cap:Nat) (L:Rgs17) (hc:Can L) (hln:L.length<1000000) (f t:Int) (w:World) (hR:w.cell? ⟨R,0,none⟩=some (.slice sp L.length cap)) (N:NewW w 0 L (.slice sp L.length cap)) :
 Calls Try.prog 24 #[.pointer (some ⟨R,0,none⟩),.int .i64 f,.int .i64 t] w fun e w'=>e=.returned (.bool (!rgB L f t))∧Below w.heap.size w w':=by
 have M:=Mm.init w
 go_enter Try.func24,Try.ntmps24
 go_upto_region 0 with fail; refine wp_region_list ?_; refine readL (.bool false) rfl (by kernel_rfl) ?_; simp only [aP,lI,l0,lS]; refine xT ?_; go_upto_region 1 with fail; refine wp_region_list ?_; refine readL (.pointer (some ⟨R,0,none⟩)) rfl (by kernel_rfl) ?_; simp only [aP,lI,l0,lS]; refine readL (.int .i64 f) rfl (by kernel_rfl) ?_; simp only [aP,lI,l0,lS]
 refine readL (.int .i64 t) rfl (by kernel_rfl) ?_; simp only [aP,lI,l0,lS]; have key:=vgap_any R sp cap L hc hln f t _ (cellT M.below hR) (NewW.below N M.below); refine callL rfl (fun _=>by kernel_rfl) key ?_; clear key; rintro e w1 ⟨rfl,l⟩; replace M:=M.call l; clear l
 refine ⟨_,rfl,?_⟩
 simp only [aP,lI,l0,lS]; refine readL (.tuple #[.agg #[.int .i64 (rgF L f t),.int .i64 (rgT L f t)],.bool (rgB L f t)]) rfl (by kernel_rfl) ?_; simp only [aP,lI,l0,lS]; refine readL (.agg #[.int .i64 (rgF L f t),.int .i64 (rgT L f t)]) rfl (by kernel_rfl) ?_; simp only [aP,lI,l0,lS]; refine readL (.bool (rgB L f t)) rfl (by kernel_rfl) ?_; simp only [aP,lI,l0,lS]
 refine actL (w':=w1.alloc (.cells #[.int .i64 0,.int .i64 0] 34)) (.pointer (some ⟨w1.heap.size,0,none⟩)) rfl (by kernel_rfl) ?_; simp only [aP,lI,l0,lS]
 have hB_B2:w.heap.size≤w1.heap.size:=M.below.size
 replace M:=M.box #[.int .i64 0,.int .i64 0] 34 w1.heap.size rfl; generalize w1.alloc (.cells #[.int .i64 0,.int .i64 0] 34)=w2 at M  ⊢; generalize eB:w1.heap.size=B2 at M hB_B2  ⊢
 have hE_B2:w1.heap.size≤B2:=Nat.le_of_eq eB
 have hF_B2:B2≤w1.heap.size:=Nat.le_of_eq eB.symm
 clear eB
 replace M:Mm w ((B2,[.int .i64 0,.int .i64 0])::([]:List (Nat × List Value))) w2:=M
 refine skipOpL rfl (storeP [.int .i64 (rgF L f t),.int .i64 (rgT L f t)] B2 0 34 _ _ rfl rfl rfl (M.thereP mS 0 2 (Nat.le_of_ble_eq_true rfl)) (by kernel_rfl) (List.all_eq_true.1 (rfl:([.int .i64 (rgF L f t),.int .i64 (rgT L f t)]:List Value).all (fun u=>u.oneCell')=true))) ?_; simp only [Act.put]
 replace M:=M.setPart [.int .i64 (rgF L f t),.int .i64 (rgT L f t)] 0 (Nat.le_of_ble_eq_true rfl); generalize w2.setCells B2 0 [.int .i64 (rgF L f t),.int .i64 (rgT L f t)]=w3 at M  ⊢
 replace M:Mm w ((B2,[.int .i64 (rgF L f t),.int .i64 (rgT L f t)])::([]:List (Nat × List Value))) w3:=M
 refine readL (.bool (rgB L f t)) rfl (by kernel_rfl) ?_; simp only [aP,lI,l0,lS]; refine xT ?_; go_upto_region 2 with fail; refine wp_region_list ?_; refine readL (.bool (rgB L f t)) rfl (by kernel_rfl) ?_; simp only [aP,lI,l0,lS]; refine readL (.bool (!rgB L f t)) rfl (by cases rgB L f t <;> rfl) ?_; simp only [aP,lI,l0,lS]; refine readL (.bool (!rgB L f t)) rfl (by kernel_rfl) ?_
 simp only [aP,lI,l0,lS]; refine xT ?_; have hbel:=M.below; clear M; go_wp2; go_ret
 exact ⟨rfl,hbel⟩
theorem vtot_any (R:Nat) (sp:Option Addr) (cap:Nat) (L:Rgs17) (hc:Can L) (hln:L.length<1000000) (w:World) (hR:w.cell? ⟨R,0,none⟩=some (.slice sp L.length cap)) (N:NewW w 0 L (.slice sp L.length cap)) :
 Calls Try.prog 18 #[.pointer (some ⟨R,0,none⟩)] w fun e w'=>e=.returned (.int .i64 (rtot L))∧Below w.heap.size w w':=by
 have M:=Mm.init w
 go_enter Try.func18,Try.ntmps18
 go_upto_region 0 with fail; refine wp_region_list ?_; refine xpL (.int .i64 0) ?_; refine xT ?_; go_upto_region 1 with fail; refine wp_region_list ?_; refine xpL (.pointer (some ⟨R,0,none⟩)) ?_; refine xpL (.pointer (some ⟨R,0,none⟩)) ?_; refine xpL (.pointer (some ⟨R,0,none⟩)) ?_
 refine xaL (.slice sp L.length cap) (load1 27 _ ⟨R,0,none⟩ _ rfl rfl (fun _=>by kernel_rfl) (cellT M.below hR)) ?_; have key:=vsum_any sp cap L hc hln _ (NewW.below N M.below); refine xcL key ?_; clear key; rintro e w1 ⟨rfl,l⟩; replace M:=M.call l; clear l; refine xeL ?_; refine xpL (.int .i64 (rtot L)) ?_; refine xT ?_; have hbel:=M.below; clear M; go_wp2; go_ret
 exact ⟨rfl,hbel⟩
theorem vclone17_any (sp:Option Addr) (cap:Nat) (L:Rgs17) (hln:L.length<1000000) (w:World) (N:NewW w 0 L (.slice sp L.length cap)) :
 Calls Try.prog 35 #[.slice sp L.length cap] w fun e w'=>∃ sq cq,e=.returned (.slice sq L.length cq)∧w'.ownsRow w.heap.size 34 2 (.slice sq L.length cq) L.length (wrc L)∧Below w.heap.size w w':=by
 have M:=Mm.init w
 go_enter Try.func35,Try.ntmps35
 go_upto_region 0 with fail; refine wp_region_list ?_; refine xpL (.slice none 0 0) ?_; refine xT ?_
 cases hs:sp with
 | none =>
   subst hs
   obtain rfl:L=[]:=by
    cases L with
    | nil=>rfl
    | cons a b=>obtain ⟨_,h_,_⟩:=NewW.at N (i:=0) rfl; cases h_
   go_upto_region 1 with fail; refine wp_region_list ?_; refine xpL (.slice none 0 cap) ?_; refine xaL (.bool true) (eqlN17 27 34 _ _ _ none _ _ true rfl rfl rfl Try.underlying27 rfl _) ?_; refine xT ?_; go_upto_region 2 with fail; refine wp_region_list ?_; refine xpL (.slice none 0 0) ?_; refine xT ?_; have hbel:=M.below; have hO:=World.ownsRow_nil w w.heap.size 34 2; clear M; go_wp2; go_ret
   exact ⟨_,_,rfl,hO,hbel⟩
 | some ad =>
   subst hs; go_upto_region 1 with fail; refine wp_region_list ?_; refine xpL (.slice (some ad) L.length cap) ?_; refine xaL (.bool false) (eqlN17 27 34 _ _ _ (some ad) _ _ false rfl rfl rfl Try.underlying27 rfl _) ?_; refine xT ?_; go_upto_region 3 with fail; refine wp_region_list ?_
   obtain ⟨bz,hbz,VR⟩:∃ bz,bz=w.heap.size∧(w.alloc (.cells #[] 34)).ownsRow w.heap.size 34 2 (.slice (some ⟨bz,0,none⟩) 0 0) 0 []:=⟨_,rfl,World.ownsRow_lit (e:=34) (size:=2) w #[] 0 M.below.size (by unfold maxLen; omega) rfl⟩
   refine actL (w':=w.alloc (.cells #[] 34)) (.slice (some ⟨w.heap.size,0,none⟩) 0 0) rfl (by kernel_rfl) ?_; simp only [aP,lI,l0,lS]; have hlb:=(Below.refl w.heap.size w).alloc (xnR _) (.cells #[] 34)
   have hgz:w.heap.size≤bz:=by have:=M.below.size; omega
   replace M:=M.call hlb; clear hlb
   rw [← hbz]
   generalize w.alloc (.cells #[] 34)=w1 at M VR ⊢; clear hbz; refine xpL (.slice (some ad) L.length cap) ?_
   obtain ⟨adr,hadr⟩:∃ c_:∀ j u,(wrc L)[j]?=some u→w1.cell? (ad.add j)=some u,True:=⟨fun j u hu=>by obtain ⟨_,_,e_,_,_,h_,_⟩:=NewW.below N M.below; injection e_ with e1_; subst e1_; obtain ⟨_,e2_,h2_⟩:=h_ j u hu; injection e2_ with e2_; subst e2_; exact h2_,trivial⟩
   obtain ⟨v2,w9,hr,V2,hgr,hg2⟩:=run_append_OwnV (P:=Try.prog) (ty:=27) Try.underlying27 manyW rfl (by decide) VR ad L.length cap (wrc L) (wrc_len L) adr (wrc_one L) (by unfold maxLen; omega) (by omega) M.below.size
   obtain ⟨sv,cv,rfl,_,_⟩:=row_form16 V2
   have hbel:=M.below.grown hgr M.below.size (fun b_ hb_=>by injection hb_ with hb_; simp only at hb_; omega); refine xaL _ (appendOp _ _ 27 _ _ _ rfl rfl rfl hr) ?_; clear hr hgr hg2 M VR adr hadr
   rw [Nat.zero_add] at V2 ⊢
   rw [List.nil_append] at V2
   refine xpL (.slice sv L.length cv) ?_; refine xT ?_; have HS:=show Hid _ from (And.intro V2 hbel); clear V2 hbel; go_wp2; go_ret
   exact ⟨sv,cv,rfl,HS.out⟩
theorem own_low17 {w:World} {b b':Nat} {v:Value} {n:Nat} {xs:List Value} (h:w.ownsRow b 34 2 v n xs) (hb:b'≤b):w.ownsRow b' 34 2 v n xs:=by
 refine ⟨h.1,?_⟩
 rcases h.2 with h0 | ⟨g,cap,cur,hv,hg,rest⟩
 · exact .inl h0
 · exact .inr ⟨g,cap,cur,hv,xnT hb hg,rest⟩
theorem vlist_any (R:Nat) (sp:Option Addr) (cap:Nat) (L:Rgs17) (hln:L.length<1000000) (w:World) (hR:w.cell? ⟨R,0,none⟩=some (.slice sp L.length cap)) (N:NewW w 0 L (.slice sp L.length cap)) :
 Calls Try.prog 17 #[.pointer (some ⟨R,0,none⟩)] w fun e w'=>∃ sq cq,e=.returned (.slice sq L.length cq)∧w'.ownsRow w.heap.size 34 2 (.slice sq L.length cq) L.length (wrc L)∧Below w.heap.size w w':=by
 have M:=Mm.init w
 go_enter Try.func17,Try.ntmps17
 go_upto_region 0 with fail; refine wp_region_list ?_; refine xpL (.slice none 0 0) ?_; refine xT ?_; go_upto_region 1 with fail; refine wp_region_list ?_; refine xpL (.pointer (some ⟨R,0,none⟩)) ?_; refine xpL (.pointer (some ⟨R,0,none⟩)) ?_; refine xpL (.pointer (some ⟨R,0,none⟩)) ?_
 refine xaL (.slice sp L.length cap) (load1 27 _ ⟨R,0,none⟩ _ rfl rfl (fun _=>by kernel_rfl) (cellT M.below hR)) ?_; have hz_:=M.below.size; have key:=vclone17_any sp cap L hln w (NewW.below N M.below); refine xcL key ?_; clear key; rintro e w1 ⟨sq,cq,rfl,O_,l⟩; replace O_:=own_low17 O_ hz_; replace M:=M.call l; clear l hz_; refine xeL ?_; refine xpL (.slice sq L.length cq) ?_
 refine xT ?_; have HS:=show Hid _ from (And.intro O_ M.below); clear O_ M; go_wp2; go_ret
 exact ⟨sq,cq,rfl,HS.out⟩
theorem vclone_any17 (w0 w:World) (R:Nat) (sp:Option Addr) (cap:Nat) (L:Rgs17) (l:List (Nat × List Value)) (hln:L.length<1000000) (M0:Mm w0 l w) (hR:w.cell? ⟨R,0,none⟩=some (.slice sp L.length cap)) (N:NewW w 0 L (.slice sp L.length cap)) :
 Calls Try.prog 13 #[.pointer (some ⟨R,0,none⟩)] w fun e w'=>∃ B sq cq,e=.returned (.pointer (some ⟨B,0,none⟩))∧Mm w0 ((B,[.slice sq L.length cq])::(obs sq++l)) w'∧w'.ownsRow 0 34 2 (.slice sq L.length cq) L.length (wrc L)∧Below w.heap.size w w':=by
 have M:=M0; clear M0; have hB:=Below.refl w.heap.size w
 go_enter Try.func13,Try.ntmps13
 go_upto_region 0 with fail; refine wp_region_list ?_; refine xpL (.pointer none) ?_; refine xT ?_; go_upto_region 1 with fail; refine wp_region_list ?_; refine xpL (.pointer (some ⟨R,0,none⟩)) ?_; have hz_:=hB.size; have key:=vlist_any R sp cap L hln w (cellT hB hR) (NewW.below N hB); refine xcL key ?_; clear key; rintro e w1 ⟨sq,cq,rfl,O_,lb⟩; replace M:=M.newW lb (NewW.ofOwn O_)
 replace O_:=own_low17 O_ (Nat.zero_le _); replace hB:=hB.trans (lb.mono hB.size); clear lb hz_; refine xeL ?_; refine xpL (.agg #[.slice sq L.length cq]) ?_; refine actL (w':=w1.alloc (.cells #[.slice sq L.length cq] 48)) (.pointer (some ⟨w1.heap.size,0,none⟩)) rfl (by kernel_rfl) ?_; simp only [aP,lI,l0,lS]
 have hlb:=(Below.refl w1.heap.size w1).alloc (xnR _) (.cells #[.slice sq L.length cq] 48); replace O_:=ownsRow_bel O_ hlb; replace hB:=hB.trans (hlb.mono hB.size); clear hlb
 have hB_B2:w0.heap.size≤w1.heap.size:=M.below.size
 replace M:=M.box #[.slice sq L.length cq] 48 w1.heap.size rfl; generalize w1.alloc (.cells #[.slice sq L.length cq] 48)=w2 at M O_ hB ⊢; generalize eB:w1.heap.size=B2 at M hB_B2  ⊢
 have hE_B2:w1.heap.size≤B2:=Nat.le_of_eq eB
 have hF_B2:B2≤w1.heap.size:=Nat.le_of_eq eB.symm
 clear eB
 replace M:Mm w0 ((B2,[.slice sq L.length cq])::(obs sq++l)) w2:=M
 refine xpL (.pointer (some ⟨B2,0,none⟩)) ?_; refine xT ?_; have HS:=show Hid _ from (And.intro M (And.intro O_ hB)); clear M O_ hB; go_wp2; go_ret
 exact ⟨B2,sq,cq,rfl,HS.out⟩
theorem vnew_any17 (w0 w:World) (l:List (Nat × List Value)) (M0:Mm w0 l w) :
 Calls Try.prog 7 #[] w fun e w'=>∃ B,e=.returned (.pointer (some ⟨B,0,none⟩))∧Mm w0 ((B,[.slice none 0 0])::l) w'∧Below w.heap.size w w':=by
 have M:=M0; clear M0; have hB:=Below.refl w.heap.size w
 go_enter Try.func7,Try.ntmps7
 go_upto_region 0 with fail; refine wp_region_list ?_; refine xpL (.pointer none) ?_; refine xT ?_; go_upto_region 1 with fail; refine wp_region_list ?_; refine xpL (.agg #[.slice none 0 0]) ?_; refine actL (w':=w.alloc (.cells #[.slice none 0 0] 48)) (.pointer (some ⟨w.heap.size,0,none⟩)) rfl (by kernel_rfl) ?_; simp only [aP,lI,l0,lS]
 have hlb:=(Below.refl w.heap.size w).alloc (xnR _) (.cells #[.slice none 0 0] 48); replace hB:=hB.trans (hlb.mono hB.size); clear hlb
 have hB_B1:w0.heap.size≤w.heap.size:=M.below.size
 replace M:=M.box #[.slice none 0 0] 48 w.heap.size rfl; generalize w.alloc (.cells #[.slice none 0 0] 48)=w1 at M hB ⊢; generalize eB:w.heap.size=B1 at M hB_B1  ⊢
 have hE_B1:w.heap.size≤B1:=Nat.le_of_eq eB
 have hF_B1:B1≤w.heap.size:=Nat.le_of_eq eB.symm
 clear eB
 replace M:Mm w0 ((B1,[.slice none 0 0])::l) w1:=M
 refine xpL (.pointer (some ⟨B1,0,none⟩)) ?_; refine xT ?_; have HS:=show Hid _ from (And.intro M hB); clear M hB; go_wp2; go_ret
 exact ⟨B1,rfl,HS.out⟩
def PI17:RngI:=fun w v L bs=>∃ R sp cap,v=.pointer (some ⟨R,0,none⟩)∧bs=(R,[.slice sp L.length cap])::obs sp∧w.cell? ⟨R,0,none⟩=some (.slice sp L.length cap)∧w.ownsRow 0 34 2 (.slice sp L.length cap) L.length (wrc L)
theorem PI17.off {w w':World} {v:Value} {L:Rgs17} {bs:List (Nat × List Value)} {X:List Nat} (h:PI17 w v L bs) (o:Off X w w') (hX:∀ b∈X,b∉bs.map Prod.fst):PI17 w' v L bs:=by
 obtain ⟨R,sp,cap,e1,e2,hc,O⟩:=h
 subst e2
 refine ⟨R,sp,cap,e1,rfl,o.cell hc fun hm=>hX _ hm mS,ownsRow_away O o fun b hb hm=>hX b hb ?_⟩
 rw [List.map_cons,obs_fst]
 exact mT _ hm
theorem vrng_any:RngOK PI17 where
 ptr:=fun _ _ _ _ h=>let ⟨R,_,_,e,_⟩:=h; ⟨R,e⟩
 off:=fun _ _ _ _ _ _ h o hX=>h.off o hX
 new:=fun w0 w l M=>Calls.mono (vnew_any17 w0 w l M) fun e w' ⟨B,h1,h2,h3⟩=>⟨_,_,h1,⟨B,none,0,rfl,rfl,h2.cell0,World.ownsRow_nil w' 0 34 2⟩,h2,h3⟩
 add:=fun w0 w v L bs l f t hc hl _ _ hI M=>by
  obtain ⟨R,sp,cap,rfl,rfl,_,O⟩:=hI
  refine Calls.mono (vadd_any w0 w R sp cap L l hc hl f t M O) fun e w' ⟨sq,cq,h1,h2,h3,h4⟩=>⟨_,h1,⟨R,sq,cq,rfl,rfl,h2.cell0,h3⟩,h2,?_⟩
  rw [List.map_cons,obs_fst]
  exact h4
 cut:=fun w0 w v L bs l f t hc hl _ _ hI M=>by
  obtain ⟨R,sp,cap,rfl,rfl,_,O⟩:=hI
  refine Calls.mono (vcut_any w0 w R sp cap L l hc hl f t M O) fun e w' ⟨sq,cq,h1,h2,h3,h4⟩=>⟨_,h1,⟨R,sq,cq,rfl,rfl,h2.cell0,h3⟩,h2,?_⟩
  rw [List.map_cons,obs_fst]
  exact h4
 has:=fun _ w v L _ _ n hc hl _ hI _=>by
  obtain ⟨R,sp,cap,rfl,rfl,hR,O⟩:=hI
  exact vhas_any R sp cap L hc hl n w hR (NewW.ofOwn O)
 cov:=fun _ w v L _ _ f t hc hl _ _ hI _=>by
  obtain ⟨R,sp,cap,rfl,rfl,hR,O⟩:=hI
  exact vcov_any R sp cap L hc hl f t w hR (NewW.ofOwn O)
 nxt:=fun _ w v L _ _ n hc hl _ hI _=>by
  obtain ⟨R,sp,cap,rfl,rfl,hR,O⟩:=hI
  exact vnext_any R sp cap L hc hl n w hR (NewW.ofOwn O)
 gap:=fun _ w v L _ _ f t hc hl _ _ hI _=>by
  obtain ⟨R,sp,cap,rfl,rfl,hR,O⟩:=hI
  exact vgap_any R sp cap L hc hl f t w hR (NewW.ofOwn O)
 lst:=fun _ w v L _ _ _ hl hI _=>by
  obtain ⟨R,sp,cap,rfl,rfl,hR,O⟩:=hI
  exact Calls.mono (vlist_any R sp cap L hl w hR (NewW.ofOwn O)) fun e w' ⟨sq,cq,h1,h2,h3⟩=>⟨sq,cq,h1,NewW.ofOwn h2,h3⟩
 tot:=fun _ w v L _ _ hc hl hI _=>by
  obtain ⟨R,sp,cap,rfl,rfl,hR,O⟩:=hI
  exact vtot_any R sp cap L hc hl w hR (NewW.ofOwn O)
theorem vrcl_any:RngCl PI17:=fun w0 w v L bs l _ hl hI M=>by
 obtain ⟨R,sp,cap,rfl,rfl,hR,O⟩:=hI
 exact Calls.mono (vclone_any17 w0 w R sp cap L _ hl M hR (NewW.ofOwn O)) fun e w' ⟨B,sq,cq,h1,h2,h3,h4⟩=>⟨_,(B,[.slice sq L.length cq])::obs sq,h1,⟨B,sq,cq,rfl,rfl,h2.cell0,h3⟩,h2,h4⟩
section
open Go.ChangeShapes Go.WideShapes Go.ChangeAt Go.WideMaps Go.WideElems Go.RowKit
section
variable {H:Type} {enc:TypeId × Value→H} {P:Program} {w:World} {base:Nat} {sp:Nat→Bool} {held:Bool}
end
theorem wf_i64 {n:Int}:(Lit.int .i64 n).wf=true↔-9223372036854775808≤n∧n≤9223372036854775807:=by
 simp [Lit.wf,IntKind.min,IntKind.max,IntKind.signed,IntKind.bits]
end
section
open Go.ChangeShapes Go.WideShapes Go.ChangeAt Go.WideMaps Go.WideElems Go.RowKit
theorem own:ownKnob Try.prog.godebug=none:=by kernel_rfl
theorem laidOut:laidOutB Try.prog=true:=by kernel_rfl
structure Fit (H:Type) (Q:TypeId→DataW H→Prop) (m:Nat):Prop where
 ints:∀ a b,Q 44 (.slice a b)→a.length≤m
 rowOp:∀ a b,Q 22 (.slice a b)→a.length≤m∧∀ d∈a,Q 31 d
theorem i64_of {n:Int} (h:(Lit.int .i64 n).wf=true):i64 n:=by have:=wf_i64.1 h; unfold i64; omega
def Wok {H:Type} (t:TypeId) (d:DataW H):Prop:=∀ n∈d.weights Try.prog t,n≤reachBytes
theorem weights_all {H:Type} {P:Program} {e:TypeId} {d:DataW H} {n:Nat} (hn:n∈d.weights P e):∀ {l:List (DataW H)},d∈l→n∈DataW.weightsAll P e l
 | x::l,h=>by
   simp only [DataW.weightsAll,List.mem_append]
   rcases xc1 h with rfl | h
   · exact .inl hn
   · exact .inr (weights_all hn h)
theorem fitWok (H:Type):Fit H Wok 140737488351232 where
 ints a b h:=by
  have h1:=h ((a.length+b.length)*Try.prog.bytesOf 3) (by simp only [DataW.weights,Try.underlying44]; exact mS)
  rw [show Try.prog.bytesOf 3=8 by kernel_rfl] at h1
  simp only [reachBytes] at h1
  omega
 rowOp a b h:=by
  have h1:=h ((a.length+b.length)*Try.prog.bytesOf 31) (by simp only [DataW.weights,Try.underlying22]; exact mS)
  rw [show Try.prog.bytesOf 31=24 by kernel_rfl] at h1
  simp only [reachBytes] at h1
  refine ⟨by omega,fun d hd n hn=>h n ?_⟩
  simp only [DataW.weights,Try.underlying22]
  exact mT _ (List.mem_append_left _ (weights_all hn hd))
section
variable {H:Type} {enc:TypeId × Value→H} {W:World} {Q:TypeId→DataW H→Prop} {m:Nat}
theorem again {t:TypeId} (hr:Try.prog.readableRec t=true) (hrow:t<Try.prog.types.size) {v:Value} {d:DataW H} {p:List MemPlace} (h:DataW.Trod enc Try.prog W 0 (fun _=>true) true t v d p) (W':World) (hb:Below W.heap.size W W'):DataW.Trod enc Try.prog W' 0 (fun b=>decide (b<W.heap.size)) true t v d p :=
 hb.trod laidOut hr hrow h (by obtain ⟨fuel,hf⟩:=h; exact fun x hx=>DataW.trod_lt _ _ _ _ hf x hx)
theorem field_of {fs:Array Field} {l:List (TypeId × Nat)} (h:fs.toList.map (fun f=>(f.type,f.offset))=l) (i:Nat) (t:TypeId) (o:Nat) (hi:l[i]?=some (t,o)):∃ f,fs[i]?=some f∧f.type=t∧f.offset=o:=by
 rw [← h,List.getElem?_map] at hi
 obtain ⟨f,h1,h2⟩:=Option.map_eq_some_iff.1 hi
 injection h2 with h2 h3
 exact ⟨f,by simpa using h1,h2,h3⟩
theorem fieldsOp:(Try.prog.fieldsOf 31).toList.map (fun f=>(f.type,f.offset))=[(3,0),(3,1),(3,2)]:=by kernel_rfl
theorem open_Op {fuel:Nat} {cs:List Value} {x:DataW H × List MemPlace} (h:DataW.trod enc Try.prog W 0 (fun _=>true) true fuel 31 cs=some x) :
 ∃ (v:Opv),cs=Opc v∧OpV W m v:=by
 obtain ⟨xs,n,_,hx,hl,hlen,hf⟩:=DataW.trod_struct (fs:=Try.prog.fieldsOf 31) (by kernel_rfl) h
 have hn:Try.prog.cellsOf 31=3:=by kernel_rfl
 have hc0:Try.prog.cellsOf 3=1:=by kernel_rfl
 have hs:xs.length=3:=by rw [hlen]; kernel_rfl
 rw [hn] at hl
 match cs,hl with
 | [c0,c1,c2],_ =>
   obtain ⟨f0,e0,t0,o0⟩:=field_of fieldsOp 0 3 0 rfl
   have g0:=hf 0 f0 e0
   rw [t0,o0,hc0,List.getElem?_eq_getElem (by omega)] at g0
   obtain ⟨f1,e1,t1,o1⟩:=field_of fieldsOp 1 3 1 rfl
   have g1:=hf 1 f1 e1
   rw [t1,o1,hc0,List.getElem?_eq_getElem (by omega)] at g1
   obtain ⟨f2,e2,t2,o2⟩:=field_of fieldsOp 2 3 2 rfl
   have g2:=hf 2 f2 e2
   rw [t2,o2,hc0,List.getElem?_eq_getElem (by omega)] at g2
   obtain ⟨x_k,q0,_,w0⟩:=DataW.trod_int Try.underlying3 g0
   obtain ⟨x_f,q1,_,w1⟩:=DataW.trod_int Try.underlying3 g1
   obtain ⟨x_t,q2,_,w2⟩:=DataW.trod_int Try.underlying3 g2
   simp at q0 q1 q2
   exact ⟨⟨x_k,x_f,x_t⟩,by rw [q0,q1,q2]; rfl,⟨i64_of w0,i64_of w1,i64_of w2⟩⟩
theorem open_Ops (F:Fit H Q m) {fuel:Nat} {cs:List Value} {x:DataW H × List MemPlace} (h:DataW.trod enc Try.prog W 0 (fun _=>true) true fuel 22 cs=some x) (hq:Q 22 x.1) :
 ∃ (sp:Option Addr) (cap:Nat) (l:List Opv),cs=[.slice sp l.length cap]∧OpsIn W m sp l∧l.length≤cap∧(sp=none→cap=0)∧l.length≤m:=by
 rcases DataW.trod_slice Try.underlying22 h with ⟨rfl,rfl⟩ | ⟨a,len,cap,elems,rest,n,_,rfl,rfl,hb,hl,hm,hlen,hel,_,_⟩
 · exact ⟨none,0,[],rfl,fun j v hv=>(by simp at hv),xnR _,fun _=>rfl,Nat.zero_le _⟩
 · have hc:Try.prog.cellsOf 31=3:=by kernel_rfl
   have hq2:=F.rowOp _ _ hq
   rw [List.length_map] at hq2
   have key:∀ k,k≤len→∃ l:List Opv,l.length=k∧∀ j v,l[j]?=some v→∃ ad,(some a:Option Addr)=some ad∧(∀ k x,(Opc v)[k]?=some x→W.cell? ((ad.add (j*3)).add k)=some x)∧OpV W m v:=by
    intro k
    induction k with
    | zero=>exact fun _=>⟨[],rfl,fun j f hj=>by simp at hj⟩
    | succ k ih =>
      intro hk
      obtain ⟨l,h1,h2⟩:=ih (by omega)
      have h3:=hel k (by omega)
      rw [hc,List.getElem?_eq_getElem (by omega)] at h3
      obtain ⟨cs,h4,h5⟩:=Option.bind_eq_some_iff.1 h3
      obtain ⟨v,rfl,hv⟩:=open_Op h5
      obtain ⟨_,_,h6⟩:=World.cells?_some h4
      refine ⟨l++[v],by rw [List.length_append,h1]; rfl,fun j g hj=>?_⟩
      by_cases hjk:j<l.length
      · rw [List.getElem?_append_left hjk] at hj
        exact h2 j g hj
      · rw [List.getElem?_append_right (by omega)] at hj
        have hj0:j=k:=by
         rcases Nat.lt_or_ge (j-l.length) 1 with h' | h'
         · omega
         · rw [List.getElem?_eq_none (by simpa using h')] at hj; cases hj
        subst hj0
        rw [h1,Nat.sub_self] at hj
        injection hj with hj
        subst hj
        refine ⟨a,rfl,fun i v hiv=>?_,hv⟩
        have hi:i<3:=by
         rcases Nat.lt_or_ge i 3 with h' | h'
         · exact h'
         · rw [List.getElem?_eq_none (by exact h')] at hiv; cases hiv
        rw [h6 i hi]
        exact hiv
   obtain ⟨l,h1,h2⟩:=key len (xnR _)
   exact ⟨some a,cap,l,by rw [h1],h2,by omega,fun e=>(by cases e),by omega⟩
theorem arg_Ops (F:Fit H Q m) {r:Reach} {b0:Nat} {v:Value} {d:DataW H} {p:List MemPlace} (hv:Value.okWide Try.prog W r b0 22 v) (h:DataW.Trod enc Try.prog W 0 (fun _=>true) true 22 v d p) (hq:Q 22 d) :
 ∃ (sp:Option Addr) (cap:Nat) (l:List Opv),v=.slice sp l.length cap∧OpsIn W m sp l∧l.length≤cap∧(sp=none→cap=0)∧l.length≤m:=by
 obtain ⟨sp,len,cap,rfl⟩:=okWide_slice Try.underlying22 hv
 obtain ⟨fuel,hf⟩:=h
 obtain ⟨sp',cap',l,h1,h2⟩:=open_Ops F hf hq
 simp [Value.cells] at h1
 obtain ⟨rfl,rfl,rfl⟩:=h1
 exact ⟨_,_,l,rfl,h2⟩
end
end
end Go.Proofs.Ytakfcgbiodfmhaa
