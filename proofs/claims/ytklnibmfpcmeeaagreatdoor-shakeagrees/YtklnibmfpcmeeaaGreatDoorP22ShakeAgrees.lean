/- Texts of Kb Kc, joined. -/
import Derived.Test.YtklnibmfpcmeeaaGreatDoorP21ShakeAgrees
set_option maxRecDepth 20000
set_option maxHeartbeats 64000000
namespace Go.Proofs.YtklnibmfpcmeeaaGreatDoor
open Go.RowKit
theorem vseal13_any (w0 w:World) (R:Nat) (l:List (Nat × List Value)) (v0:Value) (ps:List (List Value)) (s:Sym) (hg:SGlob w0) (hsw:SymW s) (hn:s.n<4611686018427387904) (sp:Option Addr) (cap:Nat) (b:List Int) (hlen:b.length≤140737488351232) (hcap:b.length≤cap) (hnil:sp=none→cap=0) (hb:Byts b) (M:Mm w0 ((R,pcx v0 ps s)::l) w) (hs:Src w sp b.length (bl b)):Calls Tryz.prog 51 #[.pointer (some ⟨R,1,none⟩),.slice sp b.length cap] w fun e w'=>(∃ v,e=.returned v∧NewL w' w.heap.size (sout s b) v)∧Mm w0 ((R,pcx v0 ps (sseal s b))::l) w'∧Off [R] w w':=by
 have hRw:=M.lt mS; have hR0:=M.below.size; have hwz:=xnR w.heap.size; have OF:=Off.refl [R] w
 go_enter Tryz.func51,Tryz.ntmps51
 go_upto_region 0 with fail; refine wp_region_list ?_; refine xpL (.slice none 0 0) ?_; refine xT ?_; go_upto_region 1 with fail; refine wp_region_list ?_; refine xpL (.slice sp b.length cap) ?_; refine xcL (clone_any sp b.length cap (by omega) hcap hnil (bl b) _ hs) ?_; rintro e w1 ⟨v,rfl,hO,l⟩
 have N_1:NewL w1 w.heap.size b v:=NewF.of_own (hO.lower hwz)
 replace M:=M.call l; replace hs:=hs.below l (xnR _); replace OF:=OF.below l; replace hwz:=xnT hwz l.size; clear l hO
 obtain ⟨p1,c1,rfl,hcc_1,hnn_1,_,_⟩:=id N_1
 refine xeL ?_; refine xpL (.slice p1 b.length c1) ?_; refine xT ?_; go_upto_region 2 with fail; refine wp_region_list ?_; refine xpL (.pointer (some ⟨R,1,none⟩)) ?_; refine xpL (.pointer (some ⟨R,1,none⟩)) ?_; refine xpL (.pointer (some ⟨R,97,none⟩)) ?_; refine xaL (.bool s.has) (load1 4 _ ⟨R,97,none⟩ _ rfl rfl (fun _=>by kernel_rfl) (M.get mS 97 _ (pcx_rest v0 ps s 0))) ?_
 refine xT ?_
 cases hhas:s.has with
 | true =>
   go_upto_region 3 with fail; refine wp_region_held_drew (S:=fun w'=>Mm w0 ((R,pcx v0 ps s)::l) w') (by kernel_rfl) M.drew ?_; clear M; intro M; have hdr:=(Below.refl w1.heap.size w1).drew; replace hs:=hs.below hdr (xnR _); replace OF:=OF.below hdr; replace N_1:=NewF.below N_1 hdr; replace hwz:=xnT hwz hdr.size; clear hdr; generalize w1.drew=w2 at M hwz OF hs N_1 ⊢
   refine xrH 0 12 rfl (.pointer (some ⟨R,1,none⟩)) (fun _ M=>(by kernel_rfl)) M ?_; refine xrH 1 13 rfl (.pointer (some ⟨R,1,none⟩)) (fun _ M=>(by kernel_rfl)) M ?_; refine xrH 2 14 rfl (.pointer (some ⟨R,65,none⟩)) (fun _ M=>(by kernel_rfl)) M ?_
   refine xrH 3 15 rfl (.agg (row .u8 32 s.k).toArray) (fun _ M=>loadN 23 _ ⟨R,65,none⟩ (row .u8 32 s.k) rfl rfl (fun _=>by kernel_rfl) (fun _=>by rw [row32]; kernel_rfl) (M.part mS 65 _ (pcx_k v0 ps s))) M ?_; refine xrH 4 16 rfl (.pointer (some ⟨R,1,none⟩)) (fun _ M=>(by kernel_rfl)) M ?_; refine xrH 5 17 rfl (.pointer (some ⟨R,1,none⟩)) (fun _ M=>(by kernel_rfl)) M ?_
   refine xrH 6 18 rfl (.pointer (some ⟨R,98,none⟩)) (fun _ M=>(by kernel_rfl)) M ?_; refine xrH 7 19 rfl (.int .u64 ((s.n:Nat):Int)) (fun _ M=>load1 58 _ ⟨R,98,none⟩ _ rfl rfl (fun _=>by kernel_rfl) (M.get mS 98 _ (pcx_rest v0 ps s 1))) M ?_; refine xrH 9 21 rfl (.pointer (some ⟨R,1,none⟩)) (fun _ M=>(by kernel_rfl)) M ?_
   refine xrH 10 22 rfl (.pointer (some ⟨R,1,none⟩)) (fun _ M=>(by kernel_rfl)) M ?_; refine xrH 11 23 rfl (.pointer (some ⟨R,1,none⟩)) (fun _ M=>(by kernel_rfl)) M ?_; refine xrH 12 24 rfl (.slice (some ⟨R,1,none⟩) 32 32) (fun _ M=>cutAll 23 _ _ _ rfl rfl (by kernel_rfl)) M ?_; refine xrH 13 25 rfl (.slice sp b.length cap) (fun _ M=>(by kernel_rfl)) M ?_
   refine callH (i:=8) (some 20) rfl (by kernel_rfl) rfl rfl (fun _=>by kernel_rfl) (vnonce12_any s.n _) ?_; rintro e w3 ⟨rfl,l⟩; replace M:=M.call l; replace hs:=hs.below l (xnR _); replace OF:=OF.below l; replace N_1:=NewF.below N_1 l; replace hwz:=xnT hwz l.size; clear l
   refine ⟨_,rfl,M,?_⟩
   simp only [aP,lI,l0,lS]; refine callH (i:=14) (some 26) rfl (by kernel_rfl) rfl rfl (fun _=>by kernel_rfl) (aseal_any s.k (snz s.n) hsw.k (snz_in s.n) (some ⟨R,1,none⟩) 32 32 (by decide) (by decide) (fun e=>by cases e) s.h hsw.h sp b.length cap hlen hcap hnil (bl b) hb.bl _ (hg.mm M).a (M.srcRow mS 1 32 _ (pcx_h v0 ps s)) hs) ?_; rintro e w4 ⟨B',c4,rfl,⟨hcc_4,hB1,hB2,HA⟩,l⟩
   replace M:=M.call l
   have N_4:NewL w4 w.heap.size (sout s b) (.slice (some ⟨B',0,none⟩) (b.length+16) c4):=by
    unfold NewL
    rw [sout_length,if_pos hhas]
    exact (NewF.of_has HA hcc_4 (xnT hwz hB1) hB2).congr (fun j hj=>(sout_bl hhas b j hj).symm)
   replace hs:=hs.below l (xnR _); replace OF:=OF.below l; replace N_1:=NewF.below N_1 l; replace hwz:=xnT hwz l.size; clear l HA hB1 hB2
   have hol:b.length+16=(sout s b).length:=by rw [sout_length,if_pos hhas]
   rw [hol] at N_4 hcc_4 ⊢
   clear hol
   refine ⟨_,rfl,M,?_⟩
   simp only [aP,lI,l0,lS]; refine xrH 15 5 rfl (.slice (some ⟨B',0,none⟩) ((sout s b).length) c4) (fun _ M=>(by kernel_rfl)) M ?_
   refine wpAnyH_done (by kernel_rfl) ?_ _
   first | show Exit.then _ _ _ _ _ | show Exit.inBlock _ _ _ _ _
   clear N_1; go_upto_region 4 with fail; refine wp_region_list ?_; refine xpL (.pointer (some ⟨R,1,none⟩)) ?_; refine xpL (.pointer (some ⟨R,1,none⟩)) ?_; refine xpL (.pointer (some ⟨R,98,none⟩)) ?_; refine xaL (.int .u64 ((s.n:Nat):Int)) (load1 58 _ ⟨R,98,none⟩ _ rfl rfl (fun _=>by kernel_rfl) (M.get mS 98 _ (pcx_rest v0 ps s 1))) ?_
   refine xaL (.int .u64 ((s.n+1:Nat):Int)) (addI .u64 _ _ _ _ _ _ _ rfl rfl rfl (by rw [IntKind.wrap_u64]; omega) _) ?_; refine xpL (.pointer (some ⟨R,1,none⟩)) ?_; refine xpL (.pointer (some ⟨R,98,none⟩)) ?_
   refine skipOpL rfl (storeAny (.int .u64 ((s.n+1:Nat):Int)) R 98 58 _ _ rfl rfl rfl rfl rfl (M.isSome mS 98 (by rw [pcx_len]; omega)) (M.free mS 98 (by rw [pcx_len]; omega)) (by kernel_rfl)) ?_; simp only [Act.put]; replace M:=M.set 98 (by rw [pcx_len]; omega) (.int .u64 ((s.n+1:Nat):Int))
   rw [show (.int .u64 ((s.n+1:Nat):Int):Value)=.int .u64 ((s.n+1:Nat):Int) from rfl,pcx_set98] at M
   clear hs; replace N_4:=NewF.off N_4 ((Off.refl [R] _).set (b:=R) mS 98 (.int .u64 ((s.n+1:Nat):Int))) (fun b hb=>by obtain rfl:=xm1 hb; omega); replace OF:=OF.and1 ((Off.refl [R] _).set (b:=R) mS 98 (.int .u64 ((s.n+1:Nat):Int))) (.inl mS); generalize w4.setCell ⟨R,98,none⟩ (.int .u64 ((s.n+1:Nat):Int))=w5 at M OF N_4 ⊢
   replace M:Mm w0 ((R,pcx v0 ps (⟨s.h,s.c,s.k,s.has,s.n+1⟩:Sym))::l) w5:=M
   refine xT ?_; go_upto_region 5 with fail; refine wp_region_list ?_; refine xpL (.pointer (some ⟨R,1,none⟩)) ?_; refine xpL (.slice (some ⟨B',0,none⟩) ((sout s b).length) c4) ?_
   refine xcL (vmix13_any w0 _ R _ v0 ps (⟨s.h,s.c,s.k,s.has,s.n+1⟩:Sym) hg (SymW.mk hsw.h hsw.c hsw.k) (some ⟨B',0,none⟩) c4 (sout s b) (by rw [sout_length,if_pos hhas]; omega) hcc_4 (fun e=>by cases e) (sout_byts hb) M (NewF.src N_4)) ?_; rintro e w6 ⟨rfl,M',o1⟩; clear M; have M:=M'; clear M'; replace OF:=OF.trans o1
   replace N_4:=NewF.off N_4 o1 (fun b hb=>by obtain rfl:=xm1 hb; omega); clear o1; refine xeL ?_; refine xT ?_; go_upto_region 6 with fail; refine wp_region_list ?_; refine xpL (.slice (some ⟨B',0,none⟩) ((sout s b).length) c4) ?_; refine xpL (.slice (some ⟨B',0,none⟩) ((sout s b).length) c4) ?_; refine xT ?_
   rw [← smix_next s (sout s b) hhas] at M
   have HS:=show Hid _ from (And.intro N_4 (And.intro M OF)); clear N_4 M OF; go_wp2; go_ret
   exact ⟨⟨_,rfl,HS.out.1⟩,HS.out.2⟩
 | false =>
   have hso:sout s b=b:=by unfold sout; rw [hhas]; rfl
   have hsn:snext s=s:=by unfold snext; rw [hhas]; rfl
   go_upto_region 5 with fail; refine wp_region_list ?_; refine xpL (.pointer (some ⟨R,1,none⟩)) ?_; refine xpL (.slice p1 b.length c1) ?_; clear hs; refine xcL (vmix13_any w0 _ R _ v0 ps s hg hsw p1 c1 b (by omega) hcc_1 hnn_1 hb M (NewF.src N_1)) ?_; rintro e w7 ⟨rfl,M',o1⟩; clear M; have M:=M'; clear M'; replace OF:=OF.trans o1
   replace N_1:=NewF.off N_1 o1 (fun b hb=>by obtain rfl:=xm1 hb; omega); clear o1; refine xeL ?_; refine xT ?_; go_upto_region 6 with fail; refine wp_region_list ?_; refine xpL (.slice p1 b.length c1) ?_; refine xpL (.slice p1 b.length c1) ?_; refine xT ?_
   have hss:sseal s b=smix s b:=by unfold sseal; rw [hso,hsn]
   have HS:=show Hid _ from (And.intro N_1 (And.intro M OF)); clear N_1 M OF; go_wp2; go_ret
   exact ⟨⟨_,rfl,by rw [hso]; exact HS.out.1⟩,by rw [hss]; exact HS.out.2.1,HS.out.2.2⟩
theorem vopen13_any (w0 w:World) (R:Nat) (l:List (Nat × List Value)) (v0:Value) (ps:List (List Value)) (s:Sym) (hg:SGlob w0) (hsw:SymW s) (hn:s.n<4611686018427387904) (sp:Option Addr) (cap:Nat) (b:List Int) (hlen:b.length≤140737488351248) (hcap:b.length≤cap) (hnil:sp=none→cap=0) (hb:Byts b) (M:Mm w0 ((R,pcx v0 ps s)::l) w) (hs:SrcA [R] w sp b.length (bl b)):Calls Tryz.prog 53 #[.pointer (some ⟨R,1,none⟩),.slice sp b.length cap] w fun e w'=>(∃ v,e=.returned (.tuple #[v,.int .i64 (soE s b)])∧NewL w' w.heap.size (soT s b) v)∧Mm w0 ((R,pcx v0 ps (sopen s b))::l) w'∧Off [R] w w':=by
 have hRw:=M.lt mS; have hR0:=M.below.size; have hwz:=xnR w.heap.size; have OF:=Off.refl [R] w
 go_enter Tryz.func53,Tryz.ntmps53
 go_upto_region 0 with fail; refine wp_region_list ?_; refine xpL (.slice none 0 0) ?_; refine xpL (.int .i64 0) ?_; refine xT ?_; go_upto_region 1 with fail; refine wp_region_list ?_; refine xpL (.slice sp b.length cap) ?_; refine xcL (clone_any sp b.length cap (by omega) hcap hnil (bl b) _ (hs.off OF).1) ?_; rintro e w1 ⟨v,rfl,hO,l⟩
 have N_1:NewL w1 w.heap.size b v:=NewF.of_own (hO.lower hwz)
 replace M:=M.call l; replace OF:=OF.below l; replace hwz:=xnT hwz l.size; clear l hO
 obtain ⟨p1,c1,rfl,hcc_1,hnn_1,_,_⟩:=id N_1
 refine xeL ?_; refine xpL (.slice p1 b.length c1) ?_; refine xT ?_; go_upto_region 2 with fail; refine wp_region_list ?_; refine xpL (.pointer (some ⟨R,1,none⟩)) ?_; refine xpL (.pointer (some ⟨R,1,none⟩)) ?_; refine xpL (.pointer (some ⟨R,97,none⟩)) ?_; refine xaL (.bool s.has) (load1 4 _ ⟨R,97,none⟩ _ rfl rfl (fun _=>by kernel_rfl) (M.get mS 97 _ (pcx_rest v0 ps s 0))) ?_
 refine xT ?_
 cases hhas:s.has with
 | true =>
   go_upto_region 3 with fail; refine wp_region_list ?_; refine xpL (.int .i64 0) ?_; refine xT ?_; go_upto_region 4 with fail; refine wp_region_held_drew (S:=fun w'=>Mm w0 ((R,pcx v0 ps s)::l) w') (by kernel_rfl) M.drew ?_; clear M; intro M; have hdr:=(Below.refl w1.heap.size w1).drew; replace OF:=OF.below hdr; replace N_1:=NewF.below N_1 hdr; replace hwz:=xnT hwz hdr.size
   clear hdr; generalize w1.drew=w2 at M hwz OF N_1 ⊢; refine xrH 0 15 rfl (.pointer (some ⟨R,1,none⟩)) (fun _ M=>(by kernel_rfl)) M ?_; refine xrH 1 16 rfl (.pointer (some ⟨R,1,none⟩)) (fun _ M=>(by kernel_rfl)) M ?_; refine xrH 2 17 rfl (.pointer (some ⟨R,65,none⟩)) (fun _ M=>(by kernel_rfl)) M ?_
   refine xrH 3 18 rfl (.agg (row .u8 32 s.k).toArray) (fun _ M=>loadN 23 _ ⟨R,65,none⟩ (row .u8 32 s.k) rfl rfl (fun _=>by kernel_rfl) (fun _=>by rw [row32]; kernel_rfl) (M.part mS 65 _ (pcx_k v0 ps s))) M ?_; refine xrH 4 19 rfl (.pointer (some ⟨R,1,none⟩)) (fun _ M=>(by kernel_rfl)) M ?_; refine xrH 5 20 rfl (.pointer (some ⟨R,1,none⟩)) (fun _ M=>(by kernel_rfl)) M ?_
   refine xrH 6 21 rfl (.pointer (some ⟨R,98,none⟩)) (fun _ M=>(by kernel_rfl)) M ?_; refine xrH 7 22 rfl (.int .u64 ((s.n:Nat):Int)) (fun _ M=>load1 58 _ ⟨R,98,none⟩ _ rfl rfl (fun _=>by kernel_rfl) (M.get mS 98 _ (pcx_rest v0 ps s 1))) M ?_; refine xrH 9 24 rfl (.pointer (some ⟨R,1,none⟩)) (fun _ M=>(by kernel_rfl)) M ?_
   refine xrH 10 25 rfl (.pointer (some ⟨R,1,none⟩)) (fun _ M=>(by kernel_rfl)) M ?_; refine xrH 11 26 rfl (.pointer (some ⟨R,1,none⟩)) (fun _ M=>(by kernel_rfl)) M ?_; refine xrH 12 27 rfl (.slice (some ⟨R,1,none⟩) 32 32) (fun _ M=>cutAll 23 _ _ _ rfl rfl (by kernel_rfl)) M ?_; refine xrH 13 28 rfl (.slice sp b.length cap) (fun _ M=>(by kernel_rfl)) M ?_
   refine callH (i:=8) (some 23) rfl (by kernel_rfl) rfl rfl (fun _=>by kernel_rfl) (vnonce12_any s.n _) ?_; rintro e w3 ⟨rfl,l⟩; replace M:=M.call l; replace OF:=OF.below l; replace N_1:=NewF.below N_1 l; replace hwz:=xnT hwz l.size; clear l
   refine ⟨_,rfl,M,?_⟩
   simp only [aP,lI,l0,lS]; refine callH (i:=14) (some 29) rfl (by kernel_rfl) rfl rfl (fun _=>by kernel_rfl) (aopen_new s.k (snz s.n) hsw.k (snz_in s.n) (some ⟨R,1,none⟩) 32 32 (by decide) (by decide) s.h hsw.h sp b.length cap hlen hcap (bl b) hb.bl _ (hg.mm M).a (M.srcRow mS 1 32 _ (pcx_h v0 ps s)) (hs.off OF).1) ?_; rintro e w4 ⟨⟨v,rfl,hN⟩,l⟩; replace M:=M.call l
   rw [← soE_key hhas]
   have N_4:NewL w4 w.heap.size (soT s b) v:=by
    unfold NewL
    rw [soT_key hhas,List.length_map,List.length_range]
    exact (hN.lower hwz).congr (fun j hj=>(bl_range _ _ j hj).symm)
   replace OF:=OF.below l; replace N_1:=NewF.below N_1 l; replace hwz:=xnT hwz l.size; clear l hN
   refine ⟨_,rfl,M,?_⟩
   simp only [aP,lI,l0,lS]; refine xrH 15 14 rfl (.tuple #[v,.int .i64 (soE s b)]) (fun _ M=>(by kernel_rfl)) M ?_; refine xrH 16 30 rfl (v) (fun _ M=>(by kernel_rfl)) M ?_; refine xrH 17 31 rfl (.int .i64 (soE s b)) (fun _ M=>(by kernel_rfl)) M ?_; refine xrH 18 6 rfl (v) (fun _ M=>(by kernel_rfl)) M ?_; refine xrH 19 7 rfl (.int .i64 (soE s b)) (fun _ M=>(by kernel_rfl)) M ?_
   refine wpAnyH_done (by kernel_rfl) ?_ _
   first | show Exit.then _ _ _ _ _ | show Exit.inBlock _ _ _ _ _
   clear N_1
   by_cases hE:soE s b=0
   · go_upto_region 5 with fail
     refine wp_region_list ?_; refine xpL (.int .i64 (soE s b)) ?_; refine xaL (.bool false) (neqI .i64 _ _ _ _ _ _ rfl rfl rfl false (by rw [hE]; rfl) _) ?_; refine xT ?_; go_upto_region 7 with fail; refine wp_region_list ?_; refine xpL (.pointer (some ⟨R,1,none⟩)) ?_; refine xpL (.pointer (some ⟨R,1,none⟩)) ?_; refine xpL (.pointer (some ⟨R,98,none⟩)) ?_
     refine xaL (.int .u64 ((s.n:Nat):Int)) (load1 58 _ ⟨R,98,none⟩ _ rfl rfl (fun _=>by kernel_rfl) (M.get mS 98 _ (pcx_rest v0 ps s 1))) ?_; refine xaL (.int .u64 ((s.n+1:Nat):Int)) (addI .u64 _ _ _ _ _ _ _ rfl rfl rfl (by rw [IntKind.wrap_u64]; omega) _) ?_; refine xpL (.pointer (some ⟨R,1,none⟩)) ?_; refine xpL (.pointer (some ⟨R,98,none⟩)) ?_
     refine skipOpL rfl (storeAny (.int .u64 ((s.n+1:Nat):Int)) R 98 58 _ _ rfl rfl rfl rfl rfl (M.isSome mS 98 (by rw [pcx_len]; omega)) (M.free mS 98 (by rw [pcx_len]; omega)) (by kernel_rfl)) ?_; simp only [Act.put]; replace M:=M.set 98 (by rw [pcx_len]; omega) (.int .u64 ((s.n+1:Nat):Int))
     rw [show (.int .u64 ((s.n+1:Nat):Int):Value)=.int .u64 ((s.n+1:Nat):Int) from rfl,pcx_set98] at M
     replace N_4:=NewF.off N_4 ((Off.refl [R] _).set (b:=R) mS 98 (.int .u64 ((s.n+1:Nat):Int))) (fun b hb=>by obtain rfl:=xm1 hb; omega); replace OF:=OF.and1 ((Off.refl [R] _).set (b:=R) mS 98 (.int .u64 ((s.n+1:Nat):Int))) (.inl mS); generalize w4.setCell ⟨R,98,none⟩ (.int .u64 ((s.n+1:Nat):Int))=w5 at M OF N_4 ⊢
     replace M:Mm w0 ((R,pcx v0 ps (⟨s.h,s.c,s.k,s.has,s.n+1⟩:Sym))::l) w5:=M
     refine xT ?_; go_upto_region 8 with fail; refine wp_region_list ?_; refine xpL (.pointer (some ⟨R,1,none⟩)) ?_; refine xpL (.slice sp b.length cap) ?_; refine xcL (vmix13_any w0 _ R _ v0 ps (⟨s.h,s.c,s.k,s.has,s.n+1⟩:Sym) hg (SymW.mk hsw.h hsw.c hsw.k) sp cap b (by omega) hcap hnil hb M (hs.off OF).1) ?_; rintro e w6 ⟨rfl,M',o1⟩; clear M; have M:=M'; clear M'
     replace OF:=OF.trans o1; replace N_4:=NewF.off N_4 o1 (fun b hb=>by obtain rfl:=xm1 hb; omega); clear o1; refine xeL ?_; refine xT ?_; go_upto_region 9 with fail; refine wp_region_list ?_; refine xpL (v) ?_; refine xpL (v) ?_; refine xpL (.int .i64 0) ?_; refine xT ?_
     rw [← smix_next s b hhas] at M
     have HS:=show Hid _ from (And.intro N_4 (And.intro M OF)); clear N_4 M OF; go_wp2; go_ret2
     exact ⟨⟨v,by rw [hE]; rfl,HS.out.1⟩,by unfold sopen; rw [if_pos hE]; exact HS.out.2.1,HS.out.2.2⟩
   · go_upto_region 5 with fail
     refine wp_region_list ?_; refine xpL (.int .i64 (soE s b)) ?_; refine xaL (.bool true) (neqI .i64 _ _ _ _ _ _ rfl rfl rfl true (by rw [bne_iff_ne]; exact hE) _) ?_; refine xT ?_; go_upto_region 6 with fail; refine wp_region_list ?_; refine xpL (.int .i64 (soE s b)) ?_; refine xpL (.slice none 0 0) ?_; refine xpL (.int .i64 (soE s b)) ?_; refine xT ?_; clear N_4
     have N_e:NewL w4 w.heap.size (soT s b) (.slice none 0 0):=by rw [soT_err hE]; exact NewF.nil _ _ _
     have HS:=show Hid _ from (And.intro N_e (And.intro M OF)); clear N_e M OF; go_wp2; go_ret2
     exact ⟨⟨_,rfl,HS.out.1⟩,by unfold sopen; rw [if_neg hE]; exact HS.out.2.1,HS.out.2.2⟩
 | false =>
   have hso:soT s b=b:=by unfold soT; rw [hhas]; rfl
   have hsn:snext s=s:=by unfold snext; rw [hhas]; rfl
   have hE:soE s b=0:=by unfold soE; rw [hhas]; rfl
   go_upto_region 8 with fail; refine wp_region_list ?_; refine xpL (.pointer (some ⟨R,1,none⟩)) ?_; refine xpL (.slice sp b.length cap) ?_; refine xcL (vmix13_any w0 _ R _ v0 ps s hg hsw sp cap b (by omega) hcap hnil hb M (hs.off OF).1) ?_; rintro e w7 ⟨rfl,M',o1⟩; clear M; have M:=M'; clear M'; replace OF:=OF.trans o1
   replace N_1:=NewF.off N_1 o1 (fun b hb=>by obtain rfl:=xm1 hb; omega); clear o1; refine xeL ?_; refine xT ?_; go_upto_region 9 with fail; refine wp_region_list ?_; refine xpL (.slice p1 b.length c1) ?_; refine xpL (.slice p1 b.length c1) ?_; refine xpL (.int .i64 0) ?_; refine xT ?_
   have hss:sopen s b=smix s b:=by unfold sopen; rw [if_pos hE,hsn]
   have HS:=show Hid _ from (And.intro N_1 (And.intro M OF)); clear N_1 M OF; go_wp2; go_ret2
   exact ⟨⟨.slice p1 b.length c1,by rw [hE]; rfl,by rw [hso]; exact HS.out.1⟩,by rw [hss]; exact HS.out.2.1,HS.out.2.2⟩
theorem vclone13_any (w0 w:World) (R:Nat) (l:List (Nat × List Value)) (v0:Value) (ps:List (List Value)) (s:Sym) (M:Mm w0 ((R,pcx v0 ps s)::l) w) :
 Calls Tryz.prog 76 #[.pointer (some ⟨R,1,none⟩)] w fun e w'=>∃ Q,e=.returned (.pointer (some ⟨Q,0,none⟩))∧w.heap.size≤Q∧Mm w0 ((Q,pcs12 s)::(R,pcx v0 ps s)::l) w'∧Below w.heap.size w w':=by
 have OF:=Off.refl [] w; have hb0:=M.below
 go_enter Tryz.func76,Tryz.ntmps76
 go_upto_region 0 with fail; refine wp_region_list ?_; refine xpL (.pointer none) ?_; refine xT ?_; go_upto_region 1 with fail; refine wp_region_list ?_; refine xpL (.pointer (some ⟨R,1,none⟩)) ?_; refine xpL (.pointer (some ⟨R,1,none⟩)) ?_
 refine xaL (.agg (pcs12 s).toArray) (loadN 60 _ ⟨R,1,none⟩ (pcs12 s) rfl rfl (fun _=>by kernel_rfl) (fun _=>by rw [pcs12_len]; kernel_rfl) (M.part mS 1 _ (pcx_all v0 ps s))) ?_; have hz0_:=OF.size
 refine actL (w':=w.alloc (.cells #[.int .u8 0,.int .u8 0,.int .u8 0,.int .u8 0,.int .u8 0,.int .u8 0,.int .u8 0,.int .u8 0,.int .u8 0,.int .u8 0,.int .u8 0,.int .u8 0,.int .u8 0,.int .u8 0,.int .u8 0,.int .u8 0,.int .u8 0,.int .u8 0,.int .u8 0,.int .u8 0,.int .u8 0,.int .u8 0,.int .u8 0,.int .u8 0,.int .u8 0,.int .u8 0,.int .u8 0,.int .u8 0,.int .u8 0,.int .u8 0,.int .u8 0,.int .u8 0,.int .u8 0,.int .u8 0,.int .u8 0,.int .u8 0,.int .u8 0,.int .u8 0,.int .u8 0,.int .u8 0,.int .u8 0,.int .u8 0,.int .u8 0,.int .u8 0,.int .u8 0,.int .u8 0,.int .u8 0,.int .u8 0,.int .u8 0,.int .u8 0,.int .u8 0,.int .u8 0,.int .u8 0,.int .u8 0,.int .u8 0,.int .u8 0,.int .u8 0,.int .u8 0,.int .u8 0,.int .u8 0,.int .u8 0,.int .u8 0,.int .u8 0,.int .u8 0,.int .u8 0,.int .u8 0,.int .u8 0,.int .u8 0,.int .u8 0,.int .u8 0,.int .u8 0,.int .u8 0,.int .u8 0,.int .u8 0,.int .u8 0,.int .u8 0,.int .u8 0,.int .u8 0,.int .u8 0,.int .u8 0,.int .u8 0,.int .u8 0,.int .u8 0,.int .u8 0,.int .u8 0,.int .u8 0,.int .u8 0,.int .u8 0,.int .u8 0,.int .u8 0,.int .u8 0,.int .u8 0,.int .u8 0,.int .u8 0,.int .u8 0,.int .u8 0,.bool false,.int .u64 0] 60)) (.pointer (some ⟨w.heap.size,0,none⟩)) rfl (by kernel_rfl) ?_
 simp only [aP,lI,l0,lS]
 have hlb:=(Below.refl w.heap.size w).alloc (xnR _) (.cells #[.int .u8 0,.int .u8 0,.int .u8 0,.int .u8 0,.int .u8 0,.int .u8 0,.int .u8 0,.int .u8 0,.int .u8 0,.int .u8 0,.int .u8 0,.int .u8 0,.int .u8 0,.int .u8 0,.int .u8 0,.int .u8 0,.int .u8 0,.int .u8 0,.int .u8 0,.int .u8 0,.int .u8 0,.int .u8 0,.int .u8 0,.int .u8 0,.int .u8 0,.int .u8 0,.int .u8 0,.int .u8 0,.int .u8 0,.int .u8 0,.int .u8 0,.int .u8 0,.int .u8 0,.int .u8 0,.int .u8 0,.int .u8 0,.int .u8 0,.int .u8 0,.int .u8 0,.int .u8 0,.int .u8 0,.int .u8 0,.int .u8 0,.int .u8 0,.int .u8 0,.int .u8 0,.int .u8 0,.int .u8 0,.int .u8 0,.int .u8 0,.int .u8 0,.int .u8 0,.int .u8 0,.int .u8 0,.int .u8 0,.int .u8 0,.int .u8 0,.int .u8 0,.int .u8 0,.int .u8 0,.int .u8 0,.int .u8 0,.int .u8 0,.int .u8 0,.int .u8 0,.int .u8 0,.int .u8 0,.int .u8 0,.int .u8 0,.int .u8 0,.int .u8 0,.int .u8 0,.int .u8 0,.int .u8 0,.int .u8 0,.int .u8 0,.int .u8 0,.int .u8 0,.int .u8 0,.int .u8 0,.int .u8 0,.int .u8 0,.int .u8 0,.int .u8 0,.int .u8 0,.int .u8 0,.int .u8 0,.int .u8 0,.int .u8 0,.int .u8 0,.int .u8 0,.int .u8 0,.int .u8 0,.int .u8 0,.int .u8 0,.int .u8 0,.bool false,.int .u64 0] 60)
 replace OF:=OF.below hlb; clear hlb
 have hB_B1:w0.heap.size≤w.heap.size:=M.below.size
 replace M:=M.box #[.int .u8 0,.int .u8 0,.int .u8 0,.int .u8 0,.int .u8 0,.int .u8 0,.int .u8 0,.int .u8 0,.int .u8 0,.int .u8 0,.int .u8 0,.int .u8 0,.int .u8 0,.int .u8 0,.int .u8 0,.int .u8 0,.int .u8 0,.int .u8 0,.int .u8 0,.int .u8 0,.int .u8 0,.int .u8 0,.int .u8 0,.int .u8 0,.int .u8 0,.int .u8 0,.int .u8 0,.int .u8 0,.int .u8 0,.int .u8 0,.int .u8 0,.int .u8 0,.int .u8 0,.int .u8 0,.int .u8 0,.int .u8 0,.int .u8 0,.int .u8 0,.int .u8 0,.int .u8 0,.int .u8 0,.int .u8 0,.int .u8 0,.int .u8 0,.int .u8 0,.int .u8 0,.int .u8 0,.int .u8 0,.int .u8 0,.int .u8 0,.int .u8 0,.int .u8 0,.int .u8 0,.int .u8 0,.int .u8 0,.int .u8 0,.int .u8 0,.int .u8 0,.int .u8 0,.int .u8 0,.int .u8 0,.int .u8 0,.int .u8 0,.int .u8 0,.int .u8 0,.int .u8 0,.int .u8 0,.int .u8 0,.int .u8 0,.int .u8 0,.int .u8 0,.int .u8 0,.int .u8 0,.int .u8 0,.int .u8 0,.int .u8 0,.int .u8 0,.int .u8 0,.int .u8 0,.int .u8 0,.int .u8 0,.int .u8 0,.int .u8 0,.int .u8 0,.int .u8 0,.int .u8 0,.int .u8 0,.int .u8 0,.int .u8 0,.int .u8 0,.int .u8 0,.int .u8 0,.int .u8 0,.int .u8 0,.int .u8 0,.int .u8 0,.bool false,.int .u64 0] 60 w.heap.size rfl
 generalize w.alloc (.cells #[.int .u8 0,.int .u8 0,.int .u8 0,.int .u8 0,.int .u8 0,.int .u8 0,.int .u8 0,.int .u8 0,.int .u8 0,.int .u8 0,.int .u8 0,.int .u8 0,.int .u8 0,.int .u8 0,.int .u8 0,.int .u8 0,.int .u8 0,.int .u8 0,.int .u8 0,.int .u8 0,.int .u8 0,.int .u8 0,.int .u8 0,.int .u8 0,.int .u8 0,.int .u8 0,.int .u8 0,.int .u8 0,.int .u8 0,.int .u8 0,.int .u8 0,.int .u8 0,.int .u8 0,.int .u8 0,.int .u8 0,.int .u8 0,.int .u8 0,.int .u8 0,.int .u8 0,.int .u8 0,.int .u8 0,.int .u8 0,.int .u8 0,.int .u8 0,.int .u8 0,.int .u8 0,.int .u8 0,.int .u8 0,.int .u8 0,.int .u8 0,.int .u8 0,.int .u8 0,.int .u8 0,.int .u8 0,.int .u8 0,.int .u8 0,.int .u8 0,.int .u8 0,.int .u8 0,.int .u8 0,.int .u8 0,.int .u8 0,.int .u8 0,.int .u8 0,.int .u8 0,.int .u8 0,.int .u8 0,.int .u8 0,.int .u8 0,.int .u8 0,.int .u8 0,.int .u8 0,.int .u8 0,.int .u8 0,.int .u8 0,.int .u8 0,.int .u8 0,.int .u8 0,.int .u8 0,.int .u8 0,.int .u8 0,.int .u8 0,.int .u8 0,.int .u8 0,.int .u8 0,.int .u8 0,.int .u8 0,.int .u8 0,.int .u8 0,.int .u8 0,.int .u8 0,.int .u8 0,.int .u8 0,.int .u8 0,.int .u8 0,.int .u8 0,.bool false,.int .u64 0] 60)=w1 at M OF ⊢
 generalize eB:w.heap.size=B1 at M hB_B1  ⊢
 have hE_B1:w.heap.size≤B1:=Nat.le_of_eq eB
 have hF_B1:B1≤w.heap.size:=Nat.le_of_eq eB.symm
 clear eB
 replace M:Mm w0 ((B1,[.int .u8 0,.int .u8 0,.int .u8 0,.int .u8 0,.int .u8 0,.int .u8 0,.int .u8 0,.int .u8 0,.int .u8 0,.int .u8 0,.int .u8 0,.int .u8 0,.int .u8 0,.int .u8 0,.int .u8 0,.int .u8 0,.int .u8 0,.int .u8 0,.int .u8 0,.int .u8 0,.int .u8 0,.int .u8 0,.int .u8 0,.int .u8 0,.int .u8 0,.int .u8 0,.int .u8 0,.int .u8 0,.int .u8 0,.int .u8 0,.int .u8 0,.int .u8 0,.int .u8 0,.int .u8 0,.int .u8 0,.int .u8 0,.int .u8 0,.int .u8 0,.int .u8 0,.int .u8 0,.int .u8 0,.int .u8 0,.int .u8 0,.int .u8 0,.int .u8 0,.int .u8 0,.int .u8 0,.int .u8 0,.int .u8 0,.int .u8 0,.int .u8 0,.int .u8 0,.int .u8 0,.int .u8 0,.int .u8 0,.int .u8 0,.int .u8 0,.int .u8 0,.int .u8 0,.int .u8 0,.int .u8 0,.int .u8 0,.int .u8 0,.int .u8 0,.int .u8 0,.int .u8 0,.int .u8 0,.int .u8 0,.int .u8 0,.int .u8 0,.int .u8 0,.int .u8 0,.int .u8 0,.int .u8 0,.int .u8 0,.int .u8 0,.int .u8 0,.int .u8 0,.int .u8 0,.int .u8 0,.int .u8 0,.int .u8 0,.int .u8 0,.int .u8 0,.int .u8 0,.int .u8 0,.int .u8 0,.int .u8 0,.int .u8 0,.int .u8 0,.int .u8 0,.int .u8 0,.int .u8 0,.int .u8 0,.int .u8 0,.int .u8 0,.bool false,.int .u64 0])::(R,pcx v0 ps s)::l) w1:=M
 have hW_B1:w.heap.size≤B1:=by omega
 clear hz0_; refine skipOpL rfl (storeP (pcs12 s) B1 0 60 _ _ rfl rfl rfl (M.thereP mS 0 98 (Nat.le_of_ble_eq_true rfl)) (by rw [List.size_toArray,pcs12_len]; kernel_rfl) (pcs12_one _)) ?_; simp only [Act.put]; replace M:=M.setAll (pcs12 s) (by rw [pcs12_len]; rfl); replace OF:=OF.and1 ((Off.refl [B1] _).setAll mS 0 (pcs12 s)) (.inr (by omega))
 generalize w1.setCells B1 0 (pcs12 s)=w2 at M OF ⊢; refine xT ?_; go_upto_region 2 with fail; refine wp_region_list ?_; refine xpL (.pointer (some ⟨B1,0,none⟩)) ?_; refine xT ?_
 have hbel:Below w.heap.size w w2:=⟨M.below.os.trans hb0.os.symm,M.below.tape.trans hb0.tape.symm,M.below.output.trans hb0.output.symm,OF.size,fun b hb=>OF.blk b hb (fun h=>by cases h)⟩
 have HS:=show Hid _ from (And.intro hW_B1 (And.intro M hbel)); clear M OF hbel hW_B1; go_wp2; go_ret
 exact ⟨_,rfl,HS.out⟩
theorem flat_mid (pre mid post:List (List Value)) (o:Nat) (ho:(pre.map List.length).sum=o):((pre++(mid++post)).flatten.drop o).take mid.flatten.length=mid.flatten:=by
 rw [List.flatten_append,List.flatten_append,List.drop_left' (by rw [List.length_flatten]; exact ho),List.take_left]
def kfv (A:Nat):Value:=.func (.func 61) #[] #[.pointer (some ⟨A,0,none⟩)]
def atv (s:Shk):Int:=if s.step=2 then 5 else if s.step=1 then 3+(s.role:Int) else 2-(s.role:Int)
def kps (s:Shk) (A D:Nat):List (List Value):=[row .u8 32 (bl (LD.pub s.sec)),[kfv A],row .u8 32 (bl (LD.pub s.drw)),[kfv D],row .u8 32 (bl s.its),row .u8 32 (bl s.drn),row .u8 32 (fun _=>0),row .u8 32 (fun _=>0)]
def kcs (av:Int) (s:Shk) (A D:Nat):List Value:=pcx (.int .i64 av) (kps s A D) s.st
def szero:Sym:=⟨fun _=>0,fun _=>0,fun _=>0,false,0⟩
def kce (s:Shk):List Value:=pcx (.int .i64 5) [row .u8 32 (fun _=>0),[.nilFunc],row .u8 32 (fun _=>0),[.nilFunc],row .u8 32 (bl s.its),row .u8 32 (fun _=>0),row .u8 32 (kA s.st.c 0 (bl [])),row .u8 32 (kB s.st.c 0 (bl []))] szero
def KI (v:Value) (s:Shk) (bs:List (Nat × List Value)):Prop:=s.role≤1∧s.step≤2∧∃ R,v=.pointer (some ⟨R,0,none⟩)∧((s.step<2∧∃ A D,bs=[(R,kcs (atv s) s A D),(A,row .u8 32 s.sec),(D,row .u8 32 s.drw)])∨(s.step=2∧bs=[(R,kce s)]))
theorem mix32 (w0 w:World) (R:Nat) (l:List (Nat × List Value)) (v0:Value) (ps:List (List Value)) (s:Sym) (hg:SGlob w0) (hsw:SymW s) (sp:Option Addr) (cap:Nat) (hcap:32≤cap) (b:List Int) (hl:b.length=32) (hb:Byts b) (hnil:sp=none→cap=0) (M:Mm w0 ((R,pcx v0 ps s)::l) w) (hs:Src w sp 32 (bl b)) :
 Calls Tryz.prog 49 #[.pointer (some ⟨R,1,none⟩),.slice sp 32 cap] w fun e w'=>e=.returned (.tuple #[])∧Mm w0 ((R,pcx v0 ps (smix s b))::l) w'∧Off [R] w w':=by
 have:=vmix13_any w0 w R l v0 ps s hg hsw sp cap b (by rw [hl]; decide) (by rw [hl]; exact hcap) hnil hb M (by rw [hl]; exact hs)
 rw [hl] at this
 exact this
theorem mix12 (w0 w:World) (R:Nat) (l:List (Nat × List Value)) (s:Sym) (hg:SGlob w0) (hsw:SymW s) (sp:Option Addr) (cap:Nat) (hcap:32≤cap) (b:List Int) (hl:b.length=32) (hb:Byts b) (hnil:sp=none→cap=0) (M:Mm w0 ((R,pcs12 s)::l) w) (hs:SrcA [R] w sp 32 (bl b)) :
 Calls Tryz.prog 49 #[.pointer (some ⟨R,0,none⟩),.slice sp 32 cap] w fun e w'=>e=.returned (.tuple #[])∧Mm w0 ((R,pcs12 (smix s b))::l) w'∧Off [R] w w':=by
 have:=vmix12_any w0 w R l s hg hsw sp cap b (by rw [hl]; decide) (by rw [hl]; exact hcap) hnil hb M (by rw [hl]; exact hs)
 rw [hl] at this
 exact this
theorem key32 (w0 w:World) (R:Nat) (l:List (Nat × List Value)) (v0:Value) (ps:List (List Value)) (s:Sym) (hg:SGlob w0) (hsw:SymW s) (sp:Option Addr) (cap:Nat) (hcap:32≤cap) (x:Fin QN) (hnil:sp=none→cap=0) (M:Mm w0 ((R,pcx v0 ps s)::l) w) (hs:Src w sp 32 (bl (lby x))) :
 Calls Tryz.prog 79 #[.pointer (some ⟨R,1,none⟩),.slice sp 32 cap] w fun e w'=>e=.returned (.tuple #[])∧Mm w0 ((R,pcx v0 ps (skey s (lby x)))::l) w'∧Off [R] w w':=by
 have:=vkey13_any w0 w R l v0 ps s hg hsw sp cap (lby x) (by rw [lby_len]; decide) (by rw [lby_len]; exact hcap) hnil (lby_byts x) M (by rw [lby_len]; exact hs)
 rw [lby_len] at this
 exact this
theorem seal32 (w0 w:World) (R:Nat) (l:List (Nat × List Value)) (v0:Value) (ps:List (List Value)) (s:Sym) (hg:SGlob w0) (hsw:SymW s) (hn:s.n<4611686018427387904) (sp:Option Addr) (cap:Nat) (hcap:32≤cap) (b:List Int) (hl:b.length=32) (hb:Byts b) (hnil:sp=none→cap=0) (M:Mm w0 ((R,pcx v0 ps s)::l) w) (hs:Src w sp 32 (bl b)) :
 Calls Tryz.prog 51 #[.pointer (some ⟨R,1,none⟩),.slice sp 32 cap] w fun e w'=>(∃ v,e=.returned v∧NewL w' w.heap.size (sout s b) v)∧Mm w0 ((R,pcx v0 ps (sseal s b))::l) w'∧Off [R] w w':=by
 have:=vseal13_any w0 w R l v0 ps s hg hsw hn sp cap b (by rw [hl]; decide) (by rw [hl]; exact hcap) hnil hb M (by rw [hl]; exact hs)
 rw [hl] at this
 exact this
theorem openN (w0 w:World) (R:Nat) (l:List (Nat × List Value)) (v0:Value) (ps:List (List Value)) (s:Sym) (hg:SGlob w0) (hsw:SymW s) (hn:s.n<4611686018427387904) (sp:Option Addr) (cap n:Nat) (b:List Int) (hl:b.length=n) (hb:Byts b) (hlen:n≤1000) (hnil:sp=none→cap=0) (hcap:n≤cap) (M:Mm w0 ((R,pcx v0 ps s)::l) w) (hs:SrcA [R] w sp n (bl b)) :
 Calls Tryz.prog 53 #[.pointer (some ⟨R,1,none⟩),.slice sp n cap] w fun e w'=>(∃ v,e=.returned (.tuple #[v,.int .i64 (soE s b)])∧NewL w' w.heap.size (soT s b) v)∧Mm w0 ((R,pcx v0 ps (sopen s b))::l) w'∧Off [R] w w':=by
 subst hl
 exact vopen13_any w0 w R l v0 ps s hg hsw hn sp cap b (by omega) hcap hnil hb M hs
end Go.Proofs.YtklnibmfpcmeeaaGreatDoor
