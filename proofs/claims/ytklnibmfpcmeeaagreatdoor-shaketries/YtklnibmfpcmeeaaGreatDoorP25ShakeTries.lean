/- Texts of Kf, joined. -/
import Derived.Test.YtklnibmfpcmeeaaGreatDoorP24ShakeTries
set_option maxRecDepth 20000
set_option maxHeartbeats 64000000
namespace Go.Proofs.YtklnibmfpcmeeaaGreatDoor
open Go.RowKit
theorem cut_hiA {P:Program} {t:TypeId} (ht:P.underlying t=some (.slice (P.elem t))) (hsz:∀ w,(sizeOf (P.elem t)).run P w=.ok 1 w) (sp:Option Addr) (len cap m:Nat) (hm:m≤len) (hc:len≤cap) (h0:0<m) :
 ∃ sp',(∀ w,(Instr.sliceAt t (.slice sp len cap) none (some (.int .i64 (m:Int))) none).run P w=.ok (.slice sp' m cap) w)∧(∀ X w z,SrcA X w sp len z→SrcA X w sp' m z):=by
 refine ⟨sp.map (·.add (0*1)),fun w=>?_,fun X w z h=>⟨fun j hj=>?_,fun ad e _=>?_⟩⟩
 · rw [run_sliceAt_slice w t _ _ _ _ ht,run_slice_h w t sp len cap ht .i64 (m:Int) (by omega) (by omega),hsz]
   simp only [Result.andThen,sliced,Int.toNat_natCast,Nat.sub_zero]
   rw [if_neg (by omega)]
 · obtain ⟨ad,rfl,hc'⟩:=h.1 j (by omega)
   exact ⟨ad.add (0*1),rfl,by rw [Nat.zero_mul,Addr.add_add,Nat.zero_add]; exact hc'⟩
 · cases sp with
   | none=>cases e
   | some a =>
     injection e with e
     subst e
     rw [add_block]
     exact h.2 a rfl (by omega)
theorem ktakeSecond_any:InOK 34 (shTS LD) (fun s b=>¬ (s.role≠0∨s.step≠1)∧¬ b.length<48∧¬ 176<b.length):=by
 intro w0 w N A D l av s hg hw sp cap b ⟨hst,hl,hm⟩ hcap hnil hb M hs; have hNw:=M.lt mS; replace hst:=show Hid _ from hst; have hwz:=xnR w.heap.size; have OF:=Off.refl [N] w
 replace M:Mm w0 ((N,[[Value.int .i64 av],pcs12 s.st,row .u8 32 (bl (LD.pub s.sec)),[kfv A],row .u8 32 (bl (LD.pub s.drw)),[kfv D],row .u8 32 (bl s.its),row .u8 32 (bl s.drn),row .u8 32 (fun _=>0),row .u8 32 (fun _=>0)].flatten)::(A,row .u8 32 s.sec)::(D,row .u8 32 s.drw)::l) w:=M
 go_enter Tryz.func34,Tryz.ntmps34
 go_upto_region 0 with fail; refine wp_region_list ?_; refine xpL (.slice none 0 0) ?_; refine xpL (.int .i64 0) ?_; refine xT ?_
 obtain ⟨p1,hr_1,hs_1⟩:=cut_hiA (P:=Tryz.prog) (t:=32) (by kernel_rfl) (fun _=>by kernel_rfl) sp b.length cap 32 (by omega) hcap (by decide)
 obtain ⟨a1,rfl⟩:∃ a_,p1=some a_:=by
  obtain ⟨a_,e_,_⟩:=(hs_1 _ _ _ hs).1 0 (by decide)
  exact ⟨a_,e_⟩
 obtain ⟨p2,hr_2,hs_2,hn_2⟩:=cut_loA (P:=Tryz.prog) (t:=32) (by kernel_rfl) (fun _=>by kernel_rfl) sp b.length cap 32 (by omega) hcap hnil
 go_upto_region 1 with fail; refine wp_region_held_drew (S:=fun w'=>Mm w0 ((N,[[Value.int .i64 av],pcs12 s.st,row .u8 32 (bl (LD.pub s.sec)),[kfv A],row .u8 32 (bl (LD.pub s.drw)),[kfv D],row .u8 32 (bl s.its),row .u8 32 (bl s.drn),row .u8 32 (fun _=>0),row .u8 32 (fun _=>0)].flatten)::(A,row .u8 32 s.sec)::(D,row .u8 32 s.drw)::l) w') (by kernel_rfl) M.drew ?_; intro _
 replace M:=M.drew; have hdr:=(Below.refl w.heap.size w).drew; replace hwz:=xnT hwz hdr.size; replace OF:=OF.below hdr; clear hdr; generalize w.drew=w3 at M hwz OF ⊢; refine xrH 0 10 rfl (.slice sp b.length cap) (fun _ M=>(by kernel_rfl)) M ?_; refine xrH 1 11 rfl (.slice (some a1) 32 cap) (fun _ M=>cutHi _ _ _ _ _ _ rfl rfl rfl (hr_1 _)) M ?_
 refine xrH 2 12 rfl (.slice sp b.length cap) (fun _ M=>(by kernel_rfl)) M ?_; refine xrH 3 13 rfl (.slice p2 (b.length-32) (cap-32)) (fun _ M=>cutOp _ _ _ _ _ _ rfl rfl rfl (hr_2 _)) M ?_; refine xrH 4 6 rfl (.slice (some a1) 32 cap) (fun _ M=>(by kernel_rfl)) M ?_; refine xrH 5 7 rfl (.slice p2 (b.length-32) (cap-32)) (fun _ M=>(by kernel_rfl)) M ?_
 refine wpAnyH_done (by kernel_rfl) ?_ _
 first | show Exit.then _ _ _ _ _ | show Exit.inBlock _ _ _ _ _
 have hE1:(b.take 32).length=32:=by rw [List.length_take]; omega
 have hE2:=hb.take 32; go_upto_region 2 with fail; refine wp_region_list ?_; refine xpL (.pointer (some ⟨N,0,none⟩)) ?_; refine xpL (.pointer (some ⟨N,0,none⟩)) ?_; refine xpL (.pointer (some ⟨N,1,none⟩)) ?_; refine xpL (.slice (some a1) 32 cap) ?_
 refine xcL (mix32 w0 _ N _ _ _ s.st hg.s hw.st (some a1) cap (by omega) (b.take 32) hE1 hE2 (fun e=>by cases e) M ((hs_1 _ _ _ (hs.off OF)).1.congr (fun j hj=>bl_takeA _ _ _ hj))) ?_; rintro e w4 ⟨rfl,M',o1⟩; clear M; have M:=M'; clear M'; replace hwz:=xnT hwz (Off.size o1); replace OF:=OF.and1 o1 (.inl (by simp)); clear o1; refine xeL ?_
 replace M:Mm w0 ((N,[[Value.int .i64 av],pcs12 (smix s.st (b.take 32)),row .u8 32 (bl (LD.pub s.sec)),[kfv A],row .u8 32 (bl (LD.pub s.drw)),[kfv D],row .u8 32 (bl s.its),row .u8 32 (bl s.drn),row .u8 32 (fun _=>0),row .u8 32 (fun _=>0)].flatten)::(A,row .u8 32 s.sec)::(D,row .u8 32 s.drw)::l) w4:=M
 refine xT ?_
 have hw1:SymW (smix s.st (b.take 32)):=smix_w hw.st _
 go_upto_region 3 with fail
 refine wp_region_held_drew (S:=fun w'=>∃ (s1_:Sym),Mm w0 ((N,[[Value.int .i64 av],pcs12 s1_,row .u8 32 (bl (LD.pub s.sec)),[kfv A],row .u8 32 (bl (LD.pub s.drw)),[kfv D],row .u8 32 (bl s.its),row .u8 32 (bl s.drn),row .u8 32 (fun _=>0),row .u8 32 (fun _=>0)].flatten)::(A,row .u8 32 s.sec)::(D,row .u8 32 s.drw)::l) w'∧Off [N] w w') (by kernel_rfl) ⟨_,M.drew,((OF).below (Below.refl _ _).drew)⟩ ?_
 intro _; replace M:=M.drew; have hdr:=(Below.refl w4.heap.size w4).drew; replace hwz:=xnT hwz hdr.size; replace OF:=OF.below hdr; clear hdr; generalize w4.drew=w5 at M hwz OF ⊢; refine xrH 0 19 rfl (.pointer (some ⟨N,0,none⟩)) (fun _ ⟨_,M,OF⟩=>(by kernel_rfl)) ⟨_,M,OF⟩ ?_; refine xrH 1 20 rfl (.pointer (some ⟨N,0,none⟩)) (fun _ ⟨_,M,OF⟩=>(by kernel_rfl)) ⟨_,M,OF⟩ ?_
 refine xrH 2 21 rfl (.pointer (some ⟨N,0,none⟩)) (fun _ ⟨_,M,OF⟩=>(by kernel_rfl)) ⟨_,M,OF⟩ ?_; refine xrH 3 22 rfl (.pointer (some ⟨N,132,none⟩)) (fun _ ⟨_,M,OF⟩=>(by kernel_rfl)) ⟨_,M,OF⟩ ?_
 refine xrH 4 23 rfl (.agg ([row .u8 32 (bl (LD.pub s.drw)),[kfv D]].flatten).toArray) (fun _ ⟨_,M,OF⟩=>loadN 63 _ ⟨N,132,none⟩ ([row .u8 32 (bl (LD.pub s.drw)),[kfv D]].flatten) rfl rfl (fun _=>by kernel_rfl) (fun _=>by rw [flat_len _ [32,1] (by kernel_rfl)]; kernel_rfl) (M.part mS 132 _ (flat_mid [[Value.int .i64 av],_,row .u8 32 (bl (LD.pub s.sec)),[kfv A]] [row .u8 32 (bl (LD.pub s.drw)),[kfv D]] [row .u8 32 (bl s.its),row .u8 32 (bl s.drn),row .u8 32 (fun _=>0),row .u8 32 (fun _=>0)] 132 (by kernel_rfl)))) ⟨_,M,OF⟩ ?_
 refine xrH 5 24 rfl (.slice (some a1) 32 cap) (fun _ ⟨_,M,OF⟩=>(by kernel_rfl)) ⟨_,M,OF⟩ ?_; refine xrH 6 25 rfl (.pointer (some a1)) (fun _ ⟨_,M,OF⟩=>by kernel_rfl) ⟨_,M,OF⟩ ?_
 refine xrH 7 26 rfl (.agg (row .u8 32 (bl (b.take 32))).toArray) (fun _ ⟨_,M,OF⟩=>loadN 23 _ a1 (row .u8 32 (bl (b.take 32))) rfl rfl (fun _=>by kernel_rfl) (fun _=>by rw [row32]; kernel_rfl) (src_row (((hs_1 _ _ _ (hs.off OF)).1.congr (fun j hj=>bl_takeA _ _ _ hj))) (by decide))) ⟨_,M,OF⟩ ?_
 replace M:Mm w0 ((N,[[Value.int .i64 av],pcs12 (smix s.st (b.take 32)),row .u8 32 (bl (LD.pub s.sec)),[kfv A],row .u8 32 (bl (LD.pub s.drw)),[kfv D],row .u8 32 (bl s.its),row .u8 32 (bl s.drn),row .u8 32 (fun _=>0),row .u8 32 (fun _=>0)].flatten)::(A,row .u8 32 s.sec)::(D,row .u8 32 s.drw)::l) w5:=M
 refine callH (i:=8) (some 27) rfl (by kernel_rfl) rfl rfl (fun _=>by kernel_rfl) (kkey_any w0 _ N D _ _ _ (smix s.st (b.take 32)) hg hw1 (bl (LD.pub s.drw)) s.drw (bl (b.take 32)) hw.drw (hE2.bl32 hE1) (mT _ mS) M) ?_; rintro e w6 ⟨rfl,M',o1⟩; clear M; have M:=M'; clear M'; replace hwz:=xnT hwz (Off.size o1); replace OF:=OF.and1 o1 (.inl (by simp)); clear o1
 refine ⟨_,rfl,⟨_,M,OF⟩,?_⟩
 simp only [aP,lI,l0,lS]
 replace M:Mm w0 ((N,[[Value.int .i64 av],pcs12 (skd (smix s.st (b.take 32)) s.drw (bl (b.take 32))),row .u8 32 (bl (LD.pub s.sec)),[kfv A],row .u8 32 (bl (LD.pub s.drw)),[kfv D],row .u8 32 (bl s.its),row .u8 32 (bl s.drn),row .u8 32 (fun _=>0),row .u8 32 (fun _=>0)].flatten)::(A,row .u8 32 s.sec)::(D,row .u8 32 s.drw)::l) w6:=M
 refine xrH 9 8 rfl (.int .i64 (ekd s.drw (bl (b.take 32)))) (fun _ ⟨_,M,OF⟩=>(by kernel_rfl)) ⟨_,M,OF⟩ ?_
 refine wpAnyH_done (by kernel_rfl) ?_ _
 first | show Exit.then _ _ _ _ _ | show Exit.inBlock _ _ _ _ _
 by_cases h1:tm s.drw (bl (b.take 32))=0
 · replace h1:=show Hid _ from h1
   go_upto_region 4 with fail; refine wp_region_list ?_; refine xpL (.int .i64 (ekd s.drw (bl (b.take 32)))) ?_; refine xaL (.bool true) (neqI .i64 _ _ _ _ _ _ rfl rfl rfl true (by rw [ekd_zero h1.out]; rfl) _) ?_; refine xT ?_; go_upto_region 5 with fail; refine wp_region_list ?_; refine xpL (.int .i64 (ekd s.drw (bl (b.take 32)))) ?_; refine xpL (.slice none 0 0) ?_
   refine xpL (.int .i64 (ekd s.drw (bl (b.take 32)))) ?_; refine xT ?_; replace M:=M.rot3; replace M:=M.rot3; replace M:=M.rot3; have hE:=show Hid _ from shTS_z1 hst.out hl hm h1.out; have h20:=show Hid _ from (ekd_zero h1.out); have HS:=show Hid _ from (And.intro M OF); clear M OF; go_wp2; go_ret2
   exact ⟨_,_,by rw [hE.out,h20.out]; rfl,fun h=>absurd h (by rw [hE.out]; decide),HS.out⟩
 · replace h1:=show Hid _ from h1
   go_upto_region 4 with fail; refine wp_region_list ?_; refine xpL (.int .i64 (ekd s.drw (bl (b.take 32)))) ?_; refine xaL (.bool false) (neqI .i64 _ _ _ _ _ _ rfl rfl rfl false (by rw [ekd_pos h1.out]; rfl) _) ?_; refine xT ?_
   rw [skd_pos h1.out] at M
   have hw2:SymW (skey (smix s.st (b.take 32)) (lby (tm s.drw (bl (b.take 32))))):=skey_w hw1 _
   go_upto_region 6 with fail
   refine wp_region_held_drew (S:=fun w'=>∃ (s1_:Sym),Mm w0 ((N,[[Value.int .i64 av],pcs12 s1_,row .u8 32 (bl (LD.pub s.sec)),[kfv A],row .u8 32 (bl (LD.pub s.drw)),[kfv D],row .u8 32 (bl s.its),row .u8 32 (bl s.drn),row .u8 32 (fun _=>0),row .u8 32 (fun _=>0)].flatten)::(A,row .u8 32 s.sec)::(D,row .u8 32 s.drw)::l) w'∧Off [N] w w') (by kernel_rfl) ⟨_,M.drew,((OF).below (Below.refl _ _).drew)⟩ ?_
   intro _; replace M:=M.drew; have hdr:=(Below.refl w6.heap.size w6).drew; replace hwz:=xnT hwz hdr.size; replace OF:=OF.below hdr; clear hdr; generalize w6.drew=w7 at M hwz OF ⊢; refine xrH 0 31 rfl (.pointer (some ⟨N,0,none⟩)) (fun _ ⟨_,M,OF⟩=>(by kernel_rfl)) ⟨_,M,OF⟩ ?_; refine xrH 1 32 rfl (.pointer (some ⟨N,0,none⟩)) (fun _ ⟨_,M,OF⟩=>(by kernel_rfl)) ⟨_,M,OF⟩ ?_
   refine xrH 2 33 rfl (.pointer (some ⟨N,0,none⟩)) (fun _ ⟨_,M,OF⟩=>(by kernel_rfl)) ⟨_,M,OF⟩ ?_; refine xrH 3 34 rfl (.pointer (some ⟨N,99,none⟩)) (fun _ ⟨_,M,OF⟩=>(by kernel_rfl)) ⟨_,M,OF⟩ ?_
   refine xrH 4 35 rfl (.agg ([row .u8 32 (bl (LD.pub s.sec)),[kfv A]].flatten).toArray) (fun _ ⟨_,M,OF⟩=>loadN 63 _ ⟨N,99,none⟩ ([row .u8 32 (bl (LD.pub s.sec)),[kfv A]].flatten) rfl rfl (fun _=>by kernel_rfl) (fun _=>by rw [flat_len _ [32,1] (by kernel_rfl)]; kernel_rfl) (M.part mS 99 _ (flat_mid [[Value.int .i64 av],_] [row .u8 32 (bl (LD.pub s.sec)),[kfv A]] [row .u8 32 (bl (LD.pub s.drw)),[kfv D],row .u8 32 (bl s.its),row .u8 32 (bl s.drn),row .u8 32 (fun _=>0),row .u8 32 (fun _=>0)] 99 (by kernel_rfl)))) ⟨_,M,OF⟩ ?_
   refine xrH 5 36 rfl (.slice (some a1) 32 cap) (fun _ ⟨_,M,OF⟩=>(by kernel_rfl)) ⟨_,M,OF⟩ ?_; refine xrH 6 37 rfl (.pointer (some a1)) (fun _ ⟨_,M,OF⟩=>by kernel_rfl) ⟨_,M,OF⟩ ?_
   refine xrH 7 38 rfl (.agg (row .u8 32 (bl (b.take 32))).toArray) (fun _ ⟨_,M,OF⟩=>loadN 23 _ a1 (row .u8 32 (bl (b.take 32))) rfl rfl (fun _=>by kernel_rfl) (fun _=>by rw [row32]; kernel_rfl) (src_row (((hs_1 _ _ _ (hs.off OF)).1.congr (fun j hj=>bl_takeA _ _ _ hj))) (by decide))) ⟨_,M,OF⟩ ?_
   replace M:Mm w0 ((N,[[Value.int .i64 av],pcs12 (skey (smix s.st (b.take 32)) (lby (tm s.drw (bl (b.take 32))))),row .u8 32 (bl (LD.pub s.sec)),[kfv A],row .u8 32 (bl (LD.pub s.drw)),[kfv D],row .u8 32 (bl s.its),row .u8 32 (bl s.drn),row .u8 32 (fun _=>0),row .u8 32 (fun _=>0)].flatten)::(A,row .u8 32 s.sec)::(D,row .u8 32 s.drw)::l) w7:=M
   refine callH (i:=8) (some 39) rfl (by kernel_rfl) rfl rfl (fun _=>by kernel_rfl) (kkey_any w0 _ N A _ _ _ (skey (smix s.st (b.take 32)) (lby (tm s.drw (bl (b.take 32))))) hg hw2 (bl (LD.pub s.sec)) s.sec (bl (b.take 32)) hw.sec (hE2.bl32 hE1) mS M) ?_; rintro e w8 ⟨rfl,M',o1⟩; clear M; have M:=M'; clear M'; replace hwz:=xnT hwz (Off.size o1); replace OF:=OF.and1 o1 (.inl (by simp))
   clear o1
   refine ⟨_,rfl,⟨_,M,OF⟩,?_⟩
   simp only [aP,lI,l0,lS]
   replace M:Mm w0 ((N,[[Value.int .i64 av],pcs12 (skd (skey (smix s.st (b.take 32)) (lby (tm s.drw (bl (b.take 32))))) s.sec (bl (b.take 32))),row .u8 32 (bl (LD.pub s.sec)),[kfv A],row .u8 32 (bl (LD.pub s.drw)),[kfv D],row .u8 32 (bl s.its),row .u8 32 (bl s.drn),row .u8 32 (fun _=>0),row .u8 32 (fun _=>0)].flatten)::(A,row .u8 32 s.sec)::(D,row .u8 32 s.drw)::l) w8:=M
   refine xrH 9 9 rfl (.int .i64 (ekd s.sec (bl (b.take 32)))) (fun _ ⟨_,M,OF⟩=>(by kernel_rfl)) ⟨_,M,OF⟩ ?_
   refine wpAnyH_done (by kernel_rfl) ?_ _
   first | show Exit.then _ _ _ _ _ | show Exit.inBlock _ _ _ _ _
   by_cases h2:tm s.sec (bl (b.take 32))=0
   · replace h2:=show Hid _ from h2
     go_upto_region 7 with fail; refine wp_region_list ?_; refine xpL (.int .i64 (ekd s.sec (bl (b.take 32)))) ?_; refine xaL (.bool true) (neqI .i64 _ _ _ _ _ _ rfl rfl rfl true (by rw [ekd_zero h2.out]; rfl) _) ?_; refine xT ?_; go_upto_region 8 with fail; refine wp_region_list ?_; refine xpL (.int .i64 (ekd s.sec (bl (b.take 32)))) ?_; refine xpL (.slice none 0 0) ?_
     refine xpL (.int .i64 (ekd s.sec (bl (b.take 32)))) ?_; refine xT ?_; replace M:=M.rot3; replace M:=M.rot3; replace M:=M.rot3; have hE:=show Hid _ from shTS_z2 hst.out hl hm h1.out h2.out; have h20:=show Hid _ from (ekd_zero h2.out); have HS:=show Hid _ from (And.intro M OF); clear M OF; go_wp2; go_ret2
     exact ⟨_,_,by rw [hE.out,h20.out]; rfl,fun h=>absurd h (by rw [hE.out]; decide),HS.out⟩
   · replace h2:=show Hid _ from h2
     go_upto_region 7 with fail; refine wp_region_list ?_; refine xpL (.int .i64 (ekd s.sec (bl (b.take 32)))) ?_; refine xaL (.bool false) (neqI .i64 _ _ _ _ _ _ rfl rfl rfl false (by rw [ekd_pos h2.out]; rfl) _) ?_; refine xT ?_
     rw [skd_pos h2.out] at M
     have hw3:SymW (skey (skey (smix s.st (b.take 32)) (lby (tm s.drw (bl (b.take 32))))) (lby (tm s.sec (bl (b.take 32))))):=skey_w hw2 _
     go_upto_region 9 with fail; refine wp_region_list ?_; refine xpL (.pointer (some ⟨N,0,none⟩)) ?_; refine xpL (.pointer (some ⟨N,0,none⟩)) ?_; refine xpL (.pointer (some ⟨N,1,none⟩)) ?_; refine xpL (.slice p2 (b.length-32) (cap-32)) ?_
     refine xcL (openN w0 _ N _ _ _ (skey (skey (smix s.st (b.take 32)) (lby (tm s.drw (bl (b.take 32))))) (lby (tm s.sec (bl (b.take 32))))) hg.s hw3 (show (0:Nat)<4611686018427387904 by decide) p2 (cap-32) (b.length-32) (b.drop 32) (by rw [List.length_drop]) (hb.drop 32) (by omega) hn_2 (by omega) M ((hs_2 _ _ _ (hs.off OF)).congr (fun j _=>bl_dropA _ _ _))) ?_
     rintro e w9 ⟨⟨v9,rfl,Nq_⟩,M',o1⟩; have N_9:=NewF.lower Nq_ hwz; clear Nq_; clear M; have M:=M'; clear M'; replace hwz:=xnT hwz (Off.size o1); replace OF:=OF.and1 o1 (.inl (by simp)); clear o1
     obtain ⟨p9,c9,rfl,hcc_9,hnn_9,_,ha_9⟩:=id N_9
     refine xeL ?_
     replace M:Mm w0 ((N,[[Value.int .i64 av],pcs12 (sopen (skey (skey (smix s.st (b.take 32)) (lby (tm s.drw (bl (b.take 32))))) (lby (tm s.sec (bl (b.take 32))))) (b.drop 32)),row .u8 32 (bl (LD.pub s.sec)),[kfv A],row .u8 32 (bl (LD.pub s.drw)),[kfv D],row .u8 32 (bl s.its),row .u8 32 (bl s.drn),row .u8 32 (fun _=>0),row .u8 32 (fun _=>0)].flatten)::(A,row .u8 32 s.sec)::(D,row .u8 32 s.drw)::l) w9:=M
     refine xpL (.slice p9 ((soT (skey (skey (smix s.st (b.take 32)) (lby (tm s.drw (bl (b.take 32))))) (lby (tm s.sec (bl (b.take 32))))) (b.drop 32)).length) c9) ?_; refine xpL (.int .i64 (soE (skey (skey (smix s.st (b.take 32)) (lby (tm s.drw (bl (b.take 32))))) (lby (tm s.sec (bl (b.take 32))))) (b.drop 32))) ?_
     refine xpL (.slice p9 ((soT (skey (skey (smix s.st (b.take 32)) (lby (tm s.drw (bl (b.take 32))))) (lby (tm s.sec (bl (b.take 32))))) (b.drop 32)).length) c9) ?_; refine xpL (.int .i64 (soE (skey (skey (smix s.st (b.take 32)) (lby (tm s.drw (bl (b.take 32))))) (lby (tm s.sec (bl (b.take 32))))) (b.drop 32))) ?_; refine xT ?_
     by_cases h3:soE (skey (skey (smix s.st (b.take 32)) (lby (tm s.drw (bl (b.take 32))))) (lby (tm s.sec (bl (b.take 32))))) (b.drop 32)=0
     · replace h3:=show Hid _ from h3
       replace M:=M.rot3; replace M:=M.rot3; replace M:=M.rot3; have hE:=show Hid _ from (shTS_ok hst.out hl hm h1.out h2.out rfl h3.out); have h0_:=h3; have HS:=show Hid _ from (And.intro N_9 (And.intro M OF)); clear M OF N_9 h3 ; go_wp2; go_ret2
       exact ⟨_,_,by rw [hE.out,h0_.out]; rfl,fun _=>⟨by rw [hE.out]; exact HS.out.1,by rw [hE.out]; rfl⟩,HS.out.2⟩
     · replace h3:=show Hid _ from h3
       replace M:=M.rot3; replace M:=M.rot3; replace M:=M.rot3; have hE:=show Hid _ from shTS_bad hst.out hl hm h1.out h2.out rfl h3.out; have hx_:=h3; have HS:=show Hid _ from (And.intro M OF); clear M OF N_9; go_wp2; go_ret2
       exact ⟨_,_,by rw [hE.out]; rfl,fun h=>absurd h (by rw [hE.out]; exact hx_.out),HS.out⟩
theorem ktakeFirst_any:InOK 32 (shTF LD) (fun s b=>¬ (s.role≠1∨s.step≠0)∧¬ b.length<96∧¬ 224<b.length):=by
 intro w0 w N A D l av s hg hw sp cap b ⟨hst,hl,hm⟩ hcap hnil hb M hs; have hNw:=M.lt mS; replace hst:=show Hid _ from hst; have hwz:=xnR w.heap.size; have OF:=Off.refl [N] w
 replace M:Mm w0 ((N,[[Value.int .i64 av],pcs12 s.st,row .u8 32 (bl (LD.pub s.sec)),[kfv A],row .u8 32 (bl (LD.pub s.drw)),[kfv D],row .u8 32 (bl s.its),row .u8 32 (bl s.drn),row .u8 32 (fun _=>0),row .u8 32 (fun _=>0)].flatten)::(A,row .u8 32 s.sec)::(D,row .u8 32 s.drw)::l) w:=M
 go_enter Tryz.func32,Tryz.ntmps32
 go_upto_region 0 with fail; refine wp_region_list ?_; refine xpL (.slice none 0 0) ?_; refine xpL (.int .i64 0) ?_; refine xT ?_
 obtain ⟨p1,hr_1,hs_1⟩:=cut_hiA (P:=Tryz.prog) (t:=32) (by kernel_rfl) (fun _=>by kernel_rfl) sp b.length cap 32 (by omega) hcap (by decide)
 obtain ⟨a1,rfl⟩:∃ a_,p1=some a_:=by
  obtain ⟨a_,e_,_⟩:=(hs_1 _ _ _ hs).1 0 (by decide)
  exact ⟨a_,e_⟩
 obtain ⟨p2,hr_2,hs_2,hn_2⟩:=cut_lhA (P:=Tryz.prog) (t:=32) (by kernel_rfl) (fun _=>by kernel_rfl) sp b.length cap 32 80 (by decide) (by omega) hcap hnil
 obtain ⟨p3,hr_3,hs_3,hn_3⟩:=cut_loA (P:=Tryz.prog) (t:=32) (by kernel_rfl) (fun _=>by kernel_rfl) sp b.length cap 80 (by omega) hcap hnil
 go_upto_region 1 with fail; refine wp_region_held_drew (S:=fun w'=>Mm w0 ((N,[[Value.int .i64 av],pcs12 s.st,row .u8 32 (bl (LD.pub s.sec)),[kfv A],row .u8 32 (bl (LD.pub s.drw)),[kfv D],row .u8 32 (bl s.its),row .u8 32 (bl s.drn),row .u8 32 (fun _=>0),row .u8 32 (fun _=>0)].flatten)::(A,row .u8 32 s.sec)::(D,row .u8 32 s.drw)::l) w') (by kernel_rfl) M.drew ?_; intro _
 replace M:=M.drew; have hdr:=(Below.refl w.heap.size w).drew; replace hwz:=xnT hwz hdr.size; replace OF:=OF.below hdr; clear hdr; generalize w.drew=w4 at M hwz OF ⊢; refine xrH 0 13 rfl (.slice sp b.length cap) (fun _ M=>(by kernel_rfl)) M ?_; refine xrH 1 14 rfl (.slice (some a1) 32 cap) (fun _ M=>cutHi _ _ _ _ _ _ rfl rfl rfl (hr_1 _)) M ?_
 refine xrH 2 15 rfl (.slice sp b.length cap) (fun _ M=>(by kernel_rfl)) M ?_; refine xrH 3 16 rfl (.slice p2 48 (cap-32)) (fun _ M=>cutLHop _ _ _ _ _ _ _ _ rfl rfl rfl rfl (hr_2 _)) M ?_; refine xrH 4 17 rfl (.slice sp b.length cap) (fun _ M=>(by kernel_rfl)) M ?_; refine xrH 5 18 rfl (.slice p3 (b.length-80) (cap-80)) (fun _ M=>cutOp _ _ _ _ _ _ rfl rfl rfl (hr_3 _)) M ?_
 refine xrH 6 6 rfl (.slice (some a1) 32 cap) (fun _ M=>(by kernel_rfl)) M ?_; refine xrH 7 7 rfl (.slice p2 48 (cap-32)) (fun _ M=>(by kernel_rfl)) M ?_; refine xrH 8 8 rfl (.slice p3 (b.length-80) (cap-80)) (fun _ M=>(by kernel_rfl)) M ?_
 refine wpAnyH_done (by kernel_rfl) ?_ _
 first | show Exit.then _ _ _ _ _ | show Exit.inBlock _ _ _ _ _
 have hE1:(b.take 32).length=32:=by rw [List.length_take]; omega
 have hE2:=hb.take 32; go_upto_region 2 with fail; refine wp_region_list ?_; refine xpL (.pointer (some ⟨N,0,none⟩)) ?_; refine xpL (.slice (some a1) 32 cap) ?_; refine xpL (.pointer (some a1)) ?_
 refine readL (.agg (row .u8 32 (bl (b.take 32))).toArray) rfl (loadN 23 _ a1 (row .u8 32 (bl (b.take 32))) rfl rfl (fun _=>by kernel_rfl) (fun _=>by rw [row32]; kernel_rfl) (src_row (((hs_1 _ _ _ (hs.off OF)).1.congr (fun j hj=>bl_takeA _ _ _ hj))) (by decide))) ?_; simp only [aP,lI,l0,lS]; refine xpL (.pointer (some ⟨N,0,none⟩)) ?_; refine xpL (.pointer (some ⟨N,197,none⟩)) ?_
 refine skipOpL rfl (storeP (row .u8 32 (bl (b.take 32))) N 197 23 _ _ rfl rfl rfl (M.thereP mS 197 32 (by rw [flat_len _ [1,98,32,1,32,1,32,32,32,32] (by kernel_rfl)]; decide)) (by kernel_rfl) (row_one .u8 32 (bl (b.take 32)))) ?_
 simp only [Act.put]; replace M:=M.setPart (row .u8 32 (bl (b.take 32))) 197 (by rw [row32,flat_len _ [1,98,32,1,32,1,32,32,32,32] (by kernel_rfl)]; decide)
 rw [flat_set _ [1,98,32,1,32,1,32,32,32,32] (by kernel_rfl) 7 197 _ (row .u8 32 (bl (b.take 32))) rfl rfl (by rw [row32,row32])] at M
 replace hwz:=xnT hwz (Off.size ((Off.refl [N] _).setAll (b:=N) mS 197 (row .u8 32 (bl (b.take 32))))); replace OF:=OF.and1 ((Off.refl [N] _).setAll (b:=N) mS 197 (row .u8 32 (bl (b.take 32)))) (.inl (by simp)); generalize w4.setCells N 197 (row .u8 32 (bl (b.take 32)))=w5 at M hwz OF ⊢
 replace M:Mm w0 ((N,[[Value.int .i64 av],pcs12 s.st,row .u8 32 (bl (LD.pub s.sec)),[kfv A],row .u8 32 (bl (LD.pub s.drw)),[kfv D],row .u8 32 (bl s.its),row .u8 32 (bl (b.take 32)),row .u8 32 (fun _=>0),row .u8 32 (fun _=>0)].flatten)::(A,row .u8 32 s.sec)::(D,row .u8 32 s.drw)::l) w5:=M
 refine xT ?_; go_upto_region 3 with fail; refine wp_region_list ?_; refine xpL (.pointer (some ⟨N,0,none⟩)) ?_; refine xpL (.pointer (some ⟨N,0,none⟩)) ?_; refine xpL (.pointer (some ⟨N,1,none⟩)) ?_; refine xpL (.slice (some a1) 32 cap) ?_
 refine xcL (mix32 w0 _ N _ _ _ s.st hg.s hw.st (some a1) cap (by omega) (b.take 32) hE1 hE2 (fun e=>by cases e) M ((hs_1 _ _ _ (hs.off OF)).1.congr (fun j hj=>bl_takeA _ _ _ hj))) ?_; rintro e w6 ⟨rfl,M',o1⟩; clear M; have M:=M'; clear M'; replace hwz:=xnT hwz (Off.size o1); replace OF:=OF.and1 o1 (.inl (by simp)); clear o1; refine xeL ?_
 replace M:Mm w0 ((N,[[Value.int .i64 av],pcs12 (smix s.st (b.take 32)),row .u8 32 (bl (LD.pub s.sec)),[kfv A],row .u8 32 (bl (LD.pub s.drw)),[kfv D],row .u8 32 (bl s.its),row .u8 32 (bl (b.take 32)),row .u8 32 (fun _=>0),row .u8 32 (fun _=>0)].flatten)::(A,row .u8 32 s.sec)::(D,row .u8 32 s.drw)::l) w6:=M
 refine xT ?_
 have hw1:SymW (smix s.st (b.take 32)):=smix_w hw.st _
 go_upto_region 4 with fail
 refine wp_region_held_drew (S:=fun w'=>∃ (s1_:Sym),Mm w0 ((N,[[Value.int .i64 av],pcs12 s1_,row .u8 32 (bl (LD.pub s.sec)),[kfv A],row .u8 32 (bl (LD.pub s.drw)),[kfv D],row .u8 32 (bl s.its),row .u8 32 (bl (b.take 32)),row .u8 32 (fun _=>0),row .u8 32 (fun _=>0)].flatten)::(A,row .u8 32 s.sec)::(D,row .u8 32 s.drw)::l) w') (by kernel_rfl) ⟨_,M.drew⟩ ?_; intro _
 replace M:=M.drew; have hdr:=(Below.refl w6.heap.size w6).drew; replace hwz:=xnT hwz hdr.size; replace OF:=OF.below hdr; clear hdr; generalize w6.drew=w7 at M hwz OF ⊢; refine xrH 0 30 rfl (.pointer (some ⟨N,0,none⟩)) (fun _ ⟨_,M⟩=>(by kernel_rfl)) ⟨_,M⟩ ?_; refine xrH 1 31 rfl (.pointer (some ⟨N,0,none⟩)) (fun _ ⟨_,M⟩=>(by kernel_rfl)) ⟨_,M⟩ ?_
 refine xrH 2 32 rfl (.pointer (some ⟨N,0,none⟩)) (fun _ ⟨_,M⟩=>(by kernel_rfl)) ⟨_,M⟩ ?_; refine xrH 3 33 rfl (.pointer (some ⟨N,99,none⟩)) (fun _ ⟨_,M⟩=>(by kernel_rfl)) ⟨_,M⟩ ?_
 refine xrH 4 34 rfl (.agg ([row .u8 32 (bl (LD.pub s.sec)),[kfv A]].flatten).toArray) (fun _ ⟨_,M⟩=>loadN 63 _ ⟨N,99,none⟩ ([row .u8 32 (bl (LD.pub s.sec)),[kfv A]].flatten) rfl rfl (fun _=>by kernel_rfl) (fun _=>by rw [flat_len _ [32,1] (by kernel_rfl)]; kernel_rfl) (M.part mS 99 _ (flat_mid [[Value.int .i64 av],_] [row .u8 32 (bl (LD.pub s.sec)),[kfv A]] [row .u8 32 (bl (LD.pub s.drw)),[kfv D],row .u8 32 (bl s.its),row .u8 32 (bl (b.take 32)),row .u8 32 (fun _=>0),row .u8 32 (fun _=>0)] 99 (by kernel_rfl)))) ⟨_,M⟩ ?_
 refine xrH 5 35 rfl (.pointer (some ⟨N,0,none⟩)) (fun _ ⟨_,M⟩=>(by kernel_rfl)) ⟨_,M⟩ ?_; refine xrH 6 36 rfl (.pointer (some ⟨N,0,none⟩)) (fun _ ⟨_,M⟩=>(by kernel_rfl)) ⟨_,M⟩ ?_; refine xrH 7 37 rfl (.pointer (some ⟨N,197,none⟩)) (fun _ ⟨_,M⟩=>(by kernel_rfl)) ⟨_,M⟩ ?_
 refine xrH 8 38 rfl (.agg (row .u8 32 (bl (b.take 32))).toArray) (fun _ ⟨_,M⟩=>loadN 23 _ ⟨N,197,none⟩ (row .u8 32 (bl (b.take 32))) rfl rfl (fun _=>by kernel_rfl) (fun _=>by rw [row32]; kernel_rfl) (M.part mS 197 _ (flat_part _ [1,98,32,1,32,1,32,32,32,32] (by kernel_rfl) 7 197 _ rfl rfl))) ⟨_,M⟩ ?_
 replace M:Mm w0 ((N,[[Value.int .i64 av],pcs12 (smix s.st (b.take 32)),row .u8 32 (bl (LD.pub s.sec)),[kfv A],row .u8 32 (bl (LD.pub s.drw)),[kfv D],row .u8 32 (bl s.its),row .u8 32 (bl (b.take 32)),row .u8 32 (fun _=>0),row .u8 32 (fun _=>0)].flatten)::(A,row .u8 32 s.sec)::(D,row .u8 32 s.drw)::l) w7:=M
 refine callH (i:=9) (some 39) rfl (by kernel_rfl) rfl rfl (fun _=>by kernel_rfl) (kkey_any w0 _ N A _ _ _ (smix s.st (b.take 32)) hg hw1 (bl (LD.pub s.sec)) s.sec (bl (b.take 32)) hw.sec (hE2.bl32 hE1) mS M) ?_; rintro e w8 ⟨rfl,M',o1⟩; clear M; have M:=M'; clear M'; replace hwz:=xnT hwz (Off.size o1); replace OF:=OF.and1 o1 (.inl (by simp)); clear o1
 refine ⟨_,rfl,⟨_,M⟩,?_⟩
 simp only [aP,lI,l0,lS]
 replace M:Mm w0 ((N,[[Value.int .i64 av],pcs12 (skd (smix s.st (b.take 32)) s.sec (bl (b.take 32))),row .u8 32 (bl (LD.pub s.sec)),[kfv A],row .u8 32 (bl (LD.pub s.drw)),[kfv D],row .u8 32 (bl s.its),row .u8 32 (bl (b.take 32)),row .u8 32 (fun _=>0),row .u8 32 (fun _=>0)].flatten)::(A,row .u8 32 s.sec)::(D,row .u8 32 s.drw)::l) w8:=M
 refine xrH 10 9 rfl (.int .i64 (ekd s.sec (bl (b.take 32)))) (fun _ ⟨_,M⟩=>(by kernel_rfl)) ⟨_,M⟩ ?_
 refine wpAnyH_done (by kernel_rfl) ?_ _
 first | show Exit.then _ _ _ _ _ | show Exit.inBlock _ _ _ _ _
 by_cases h1:tm s.sec (bl (b.take 32))=0
 · replace h1:=show Hid _ from h1
   go_upto_region 5 with fail; refine wp_region_list ?_; refine xpL (.int .i64 (ekd s.sec (bl (b.take 32)))) ?_; refine xaL (.bool true) (neqI .i64 _ _ _ _ _ _ rfl rfl rfl true (by rw [ekd_zero h1.out]; rfl) _) ?_; refine xT ?_; go_upto_region 6 with fail; refine wp_region_list ?_; refine xpL (.int .i64 (ekd s.sec (bl (b.take 32)))) ?_; refine xpL (.slice none 0 0) ?_
   refine xpL (.int .i64 (ekd s.sec (bl (b.take 32)))) ?_; refine xT ?_; replace M:=M.rot3; replace M:=M.rot3; replace M:=M.rot3; have hE:=show Hid _ from shTF_z1 hst.out hl hm h1.out; have h20:=show Hid _ from (ekd_zero h1.out); have HS:=show Hid _ from (And.intro M OF); clear M OF; go_wp2; go_ret2
   exact ⟨_,_,by rw [hE.out,h20.out]; rfl,fun h=>absurd h (by rw [hE.out]; decide),HS.out⟩
 · replace h1:=show Hid _ from h1
   go_upto_region 5 with fail; refine wp_region_list ?_; refine xpL (.int .i64 (ekd s.sec (bl (b.take 32)))) ?_; refine xaL (.bool false) (neqI .i64 _ _ _ _ _ _ rfl rfl rfl false (by rw [ekd_pos h1.out]; rfl) _) ?_; refine xT ?_
   rw [skd_pos h1.out] at M
   have hw2:SymW (skey (smix s.st (b.take 32)) (lby (tm s.sec (bl (b.take 32))))):=skey_w hw1 _
   go_upto_region 7 with fail; refine wp_region_list ?_; refine xpL (.pointer (some ⟨N,0,none⟩)) ?_; refine xpL (.pointer (some ⟨N,0,none⟩)) ?_; refine xpL (.pointer (some ⟨N,1,none⟩)) ?_; refine xpL (.slice p2 48 (cap-32)) ?_
   refine xcL (openN w0 _ N _ _ _ (skey (smix s.st (b.take 32)) (lby (tm s.sec (bl (b.take 32))))) hg.s hw2 (show (0:Nat)<4611686018427387904 by decide) p2 (cap-32) 48 ((b.drop 32).take 48) (by rw [List.length_take,List.length_drop]; omega) ((hb.drop 32).take 48) (by omega) hn_2 (by omega) M ((hs_2 _ _ _ (hs.off OF)).congr (fun j hj=>by rw [bl_dropA]; exact bl_takeA _ _ _ hj))) ?_
   rintro e w9 ⟨⟨v9,rfl,Nq_⟩,M',o1⟩; have N_9:=NewF.lower Nq_ hwz; clear Nq_; clear M; have M:=M'; clear M'; replace hwz:=xnT hwz (Off.size o1); replace OF:=OF.and1 o1 (.inl (by simp)); clear o1
   obtain ⟨p9,c9,rfl,hcc_9,hnn_9,_,ha_9⟩:=id N_9
   refine xeL ?_
   replace M:Mm w0 ((N,[[Value.int .i64 av],pcs12 (sopen (skey (smix s.st (b.take 32)) (lby (tm s.sec (bl (b.take 32))))) ((b.drop 32).take 48)),row .u8 32 (bl (LD.pub s.sec)),[kfv A],row .u8 32 (bl (LD.pub s.drw)),[kfv D],row .u8 32 (bl s.its),row .u8 32 (bl (b.take 32)),row .u8 32 (fun _=>0),row .u8 32 (fun _=>0)].flatten)::(A,row .u8 32 s.sec)::(D,row .u8 32 s.drw)::l) w9:=M
   refine xpL (.tuple #[.slice p9 ((soT (skey (smix s.st (b.take 32)) (lby (tm s.sec (bl (b.take 32))))) ((b.drop 32).take 48)).length) c9,.int .i64 (soE (skey (smix s.st (b.take 32)) (lby (tm s.sec (bl (b.take 32))))) ((b.drop 32).take 48))]) ?_; refine xpL (.slice p9 ((soT (skey (smix s.st (b.take 32)) (lby (tm s.sec (bl (b.take 32))))) ((b.drop 32).take 48)).length) c9) ?_
   refine xpL (.int .i64 (soE (skey (smix s.st (b.take 32)) (lby (tm s.sec (bl (b.take 32))))) ((b.drop 32).take 48))) ?_; refine xpL (.slice p9 ((soT (skey (smix s.st (b.take 32)) (lby (tm s.sec (bl (b.take 32))))) ((b.drop 32).take 48)).length) c9) ?_; refine xpL (.int .i64 (soE (skey (smix s.st (b.take 32)) (lby (tm s.sec (bl (b.take 32))))) ((b.drop 32).take 48))) ?_; refine xT ?_
   by_cases h2:soE (skey (smix s.st (b.take 32)) (lby (tm s.sec (bl (b.take 32))))) ((b.drop 32).take 48)=0
   · replace h2:=show Hid _ from h2
     go_upto_region 8 with fail; refine wp_region_list ?_; refine xpL (.int .i64 (soE (skey (smix s.st (b.take 32)) (lby (tm s.sec (bl (b.take 32))))) ((b.drop 32).take 48))) ?_; refine xaL (.bool false) (neqI .i64 _ _ _ _ _ _ rfl rfl rfl false (by rw [h2.out]; rfl) _) ?_; refine xT ?_
     have h48:((b.drop 32).take 48).length=48:=by rw [List.length_take,List.length_drop]; omega
     have h32:(soT (skey (smix s.st (b.take 32)) (lby (tm s.sec (bl (b.take 32))))) ((b.drop 32).take 48)).length=32:=by rw [soT_len rfl h2.out,h48]
     have hSb:Byts (soT (skey (smix s.st (b.take 32)) (lby (tm s.sec (bl (b.take 32))))) ((b.drop 32).take 48)):=soT_byts ((hb.drop 32).take 48)
     have N_k:NewF w9 w.heap.size 32 (bl (soT (skey (smix s.st (b.take 32)) (lby (tm s.sec (bl (b.take 32))))) ((b.drop 32).take 48))) (.slice p9 32 c9):=by
      have h:=N_9
      unfold NewL at h
      rw [h32] at h
      exact h
     clear N_9
     rw [h32]
     obtain ⟨a_k,e_k,_⟩:=(NewF.src N_k) 0 (by decide)
     subst e_k; replace h32:=show Hid _ from h32; replace h48:=show Hid _ from h48; go_upto_region 10 with fail; refine wp_region_list ?_; refine xpL (.pointer (some ⟨N,0,none⟩)) ?_; refine xpL (.slice (some a_k) 32 c9) ?_; refine xpL (.pointer (some a_k)) ?_
     refine readL (.agg (row .u8 32 (bl (soT (skey (smix s.st (b.take 32)) (lby (tm s.sec (bl (b.take 32))))) ((b.drop 32).take 48)))).toArray) rfl (loadN 23 _ a_k (row .u8 32 (bl (soT (skey (smix s.st (b.take 32)) (lby (tm s.sec (bl (b.take 32))))) ((b.drop 32).take 48)))) rfl rfl (fun _=>by kernel_rfl) (fun _=>by rw [row32]; kernel_rfl) (src_row ((NewF.src N_k)) (by decide))) ?_
     simp only [aP,lI,l0,lS]; refine xpL (.pointer (some ⟨N,0,none⟩)) ?_; refine xpL (.pointer (some ⟨N,165,none⟩)) ?_
     refine skipOpL rfl (storeP (row .u8 32 (bl (soT (skey (smix s.st (b.take 32)) (lby (tm s.sec (bl (b.take 32))))) ((b.drop 32).take 48)))) N 165 23 _ _ rfl rfl rfl (M.thereP mS 165 32 (by rw [flat_len _ [1,98,32,1,32,1,32,32,32,32] (by kernel_rfl)]; decide)) (by kernel_rfl) (row_one .u8 32 (bl (soT (skey (smix s.st (b.take 32)) (lby (tm s.sec (bl (b.take 32))))) ((b.drop 32).take 48))))) ?_
     simp only [Act.put]; replace M:=M.setPart (row .u8 32 (bl (soT (skey (smix s.st (b.take 32)) (lby (tm s.sec (bl (b.take 32))))) ((b.drop 32).take 48)))) 165 (by rw [row32,flat_len _ [1,98,32,1,32,1,32,32,32,32] (by kernel_rfl)]; decide)
     rw [flat_set _ [1,98,32,1,32,1,32,32,32,32] (by kernel_rfl) 6 165 _ (row .u8 32 (bl (soT (skey (smix s.st (b.take 32)) (lby (tm s.sec (bl (b.take 32))))) ((b.drop 32).take 48)))) rfl rfl (by rw [row32,row32])] at M
     replace hwz:=xnT hwz (Off.size ((Off.refl [N] _).setAll (b:=N) mS 165 (row .u8 32 (bl (soT (skey (smix s.st (b.take 32)) (lby (tm s.sec (bl (b.take 32))))) ((b.drop 32).take 48)))))); replace OF:=OF.and1 ((Off.refl [N] _).setAll (b:=N) mS 165 (row .u8 32 (bl (soT (skey (smix s.st (b.take 32)) (lby (tm s.sec (bl (b.take 32))))) ((b.drop 32).take 48))))) (.inl (by simp))
     replace N_k:=NewF.off N_k ((Off.refl [N] _).setAll (b:=N) mS 165 (row .u8 32 (bl (soT (skey (smix s.st (b.take 32)) (lby (tm s.sec (bl (b.take 32))))) ((b.drop 32).take 48))))) (fun b hb=>by obtain rfl:=xm1 hb; omega); generalize w9.setCells N 165 (row .u8 32 (bl (soT (skey (smix s.st (b.take 32)) (lby (tm s.sec (bl (b.take 32))))) ((b.drop 32).take 48))))=w10 at M hwz OF N_k ⊢
     replace M:Mm w0 ((N,[[Value.int .i64 av],pcs12 (sopen (skey (smix s.st (b.take 32)) (lby (tm s.sec (bl (b.take 32))))) ((b.drop 32).take 48)),row .u8 32 (bl (LD.pub s.sec)),[kfv A],row .u8 32 (bl (LD.pub s.drw)),[kfv D],row .u8 32 (bl (soT (skey (smix s.st (b.take 32)) (lby (tm s.sec (bl (b.take 32))))) ((b.drop 32).take 48))),row .u8 32 (bl (b.take 32)),row .u8 32 (fun _=>0),row .u8 32 (fun _=>0)].flatten)::(A,row .u8 32 s.sec)::(D,row .u8 32 s.drw)::l) w10:=M
     refine xT ?_; clear N_k
     have hw3:SymW (sopen (skey (smix s.st (b.take 32)) (lby (tm s.sec (bl (b.take 32))))) ((b.drop 32).take 48)):=sopen_w hw2 _
     go_upto_region 11 with fail
     refine wp_region_held_drew (S:=fun w'=>∃ (s1_:Sym),Mm w0 ((N,[[Value.int .i64 av],pcs12 s1_,row .u8 32 (bl (LD.pub s.sec)),[kfv A],row .u8 32 (bl (LD.pub s.drw)),[kfv D],row .u8 32 (bl (soT (skey (smix s.st (b.take 32)) (lby (tm s.sec (bl (b.take 32))))) ((b.drop 32).take 48))),row .u8 32 (bl (b.take 32)),row .u8 32 (fun _=>0),row .u8 32 (fun _=>0)].flatten)::(A,row .u8 32 s.sec)::(D,row .u8 32 s.drw)::l) w') (by kernel_rfl) ⟨_,M.drew⟩ ?_
     intro _; replace M:=M.drew; have hdr:=(Below.refl w10.heap.size w10).drew; replace hwz:=xnT hwz hdr.size; replace OF:=OF.below hdr; clear hdr; generalize w10.drew=w11 at M hwz OF ⊢; refine xrH 0 60 rfl (.pointer (some ⟨N,0,none⟩)) (fun _ ⟨_,M⟩=>(by kernel_rfl)) ⟨_,M⟩ ?_; refine xrH 1 61 rfl (.pointer (some ⟨N,0,none⟩)) (fun _ ⟨_,M⟩=>(by kernel_rfl)) ⟨_,M⟩ ?_
     refine xrH 2 62 rfl (.pointer (some ⟨N,0,none⟩)) (fun _ ⟨_,M⟩=>(by kernel_rfl)) ⟨_,M⟩ ?_; refine xrH 3 63 rfl (.pointer (some ⟨N,99,none⟩)) (fun _ ⟨_,M⟩=>(by kernel_rfl)) ⟨_,M⟩ ?_
     refine xrH 4 64 rfl (.agg ([row .u8 32 (bl (LD.pub s.sec)),[kfv A]].flatten).toArray) (fun _ ⟨_,M⟩=>loadN 63 _ ⟨N,99,none⟩ ([row .u8 32 (bl (LD.pub s.sec)),[kfv A]].flatten) rfl rfl (fun _=>by kernel_rfl) (fun _=>by rw [flat_len _ [32,1] (by kernel_rfl)]; kernel_rfl) (M.part mS 99 _ (flat_mid [[Value.int .i64 av],_] [row .u8 32 (bl (LD.pub s.sec)),[kfv A]] [row .u8 32 (bl (LD.pub s.drw)),[kfv D],row .u8 32 (bl (soT (skey (smix s.st (b.take 32)) (lby (tm s.sec (bl (b.take 32))))) ((b.drop 32).take 48))),row .u8 32 (bl (b.take 32)),row .u8 32 (fun _=>0),row .u8 32 (fun _=>0)] 99 (by kernel_rfl)))) ⟨_,M⟩ ?_
     refine xrH 5 65 rfl (.pointer (some ⟨N,0,none⟩)) (fun _ ⟨_,M⟩=>(by kernel_rfl)) ⟨_,M⟩ ?_; refine xrH 6 66 rfl (.pointer (some ⟨N,0,none⟩)) (fun _ ⟨_,M⟩=>(by kernel_rfl)) ⟨_,M⟩ ?_; refine xrH 7 67 rfl (.pointer (some ⟨N,165,none⟩)) (fun _ ⟨_,M⟩=>(by kernel_rfl)) ⟨_,M⟩ ?_
     refine xrH 8 68 rfl (.agg (row .u8 32 (bl (soT (skey (smix s.st (b.take 32)) (lby (tm s.sec (bl (b.take 32))))) ((b.drop 32).take 48)))).toArray) (fun _ ⟨_,M⟩=>loadN 23 _ ⟨N,165,none⟩ (row .u8 32 (bl (soT (skey (smix s.st (b.take 32)) (lby (tm s.sec (bl (b.take 32))))) ((b.drop 32).take 48)))) rfl rfl (fun _=>by kernel_rfl) (fun _=>by rw [row32]; kernel_rfl) (M.part mS 165 _ (flat_part _ [1,98,32,1,32,1,32,32,32,32] (by kernel_rfl) 6 165 _ rfl rfl))) ⟨_,M⟩ ?_
     replace M:Mm w0 ((N,[[Value.int .i64 av],pcs12 (sopen (skey (smix s.st (b.take 32)) (lby (tm s.sec (bl (b.take 32))))) ((b.drop 32).take 48)),row .u8 32 (bl (LD.pub s.sec)),[kfv A],row .u8 32 (bl (LD.pub s.drw)),[kfv D],row .u8 32 (bl (soT (skey (smix s.st (b.take 32)) (lby (tm s.sec (bl (b.take 32))))) ((b.drop 32).take 48))),row .u8 32 (bl (b.take 32)),row .u8 32 (fun _=>0),row .u8 32 (fun _=>0)].flatten)::(A,row .u8 32 s.sec)::(D,row .u8 32 s.drw)::l) w11:=M
     refine callH (i:=9) (some 69) rfl (by kernel_rfl) rfl rfl (fun _=>by kernel_rfl) (kkey_any w0 _ N A _ _ _ (sopen (skey (smix s.st (b.take 32)) (lby (tm s.sec (bl (b.take 32))))) ((b.drop 32).take 48)) hg hw3 (bl (LD.pub s.sec)) s.sec (bl (soT (skey (smix s.st (b.take 32)) (lby (tm s.sec (bl (b.take 32))))) ((b.drop 32).take 48))) hw.sec (hSb.bl32 h32.out) mS M) ?_
     rintro e w12 ⟨rfl,M',o1⟩; clear M; have M:=M'; clear M'; replace hwz:=xnT hwz (Off.size o1); replace OF:=OF.and1 o1 (.inl (by simp)); clear o1
     refine ⟨_,rfl,⟨_,M⟩,?_⟩
     simp only [aP,lI,l0,lS]
     replace M:Mm w0 ((N,[[Value.int .i64 av],pcs12 (skd (sopen (skey (smix s.st (b.take 32)) (lby (tm s.sec (bl (b.take 32))))) ((b.drop 32).take 48)) s.sec (bl (soT (skey (smix s.st (b.take 32)) (lby (tm s.sec (bl (b.take 32))))) ((b.drop 32).take 48)))),row .u8 32 (bl (LD.pub s.sec)),[kfv A],row .u8 32 (bl (LD.pub s.drw)),[kfv D],row .u8 32 (bl (soT (skey (smix s.st (b.take 32)) (lby (tm s.sec (bl (b.take 32))))) ((b.drop 32).take 48))),row .u8 32 (bl (b.take 32)),row .u8 32 (fun _=>0),row .u8 32 (fun _=>0)].flatten)::(A,row .u8 32 s.sec)::(D,row .u8 32 s.drw)::l) w12:=M
     refine xrH 10 12 rfl (.int .i64 (ekd s.sec (bl (soT (skey (smix s.st (b.take 32)) (lby (tm s.sec (bl (b.take 32))))) ((b.drop 32).take 48))))) (fun _ ⟨_,M⟩=>(by kernel_rfl)) ⟨_,M⟩ ?_
     refine wpAnyH_done (by kernel_rfl) ?_ _
     first | show Exit.then _ _ _ _ _ | show Exit.inBlock _ _ _ _ _
     by_cases h4:tm s.sec (bl (soT (skey (smix s.st (b.take 32)) (lby (tm s.sec (bl (b.take 32))))) ((b.drop 32).take 48)))=0
     · replace h4:=show Hid _ from h4
       go_upto_region 12 with fail; refine wp_region_list ?_; refine xpL (.int .i64 (ekd s.sec (bl (soT (skey (smix s.st (b.take 32)) (lby (tm s.sec (bl (b.take 32))))) ((b.drop 32).take 48))))) ?_; refine xaL (.bool true) (neqI .i64 _ _ _ _ _ _ rfl rfl rfl true (by rw [ekd_zero h4.out]; rfl) _) ?_; refine xT ?_; go_upto_region 13 with fail; refine wp_region_list ?_
       refine xpL (.int .i64 (ekd s.sec (bl (soT (skey (smix s.st (b.take 32)) (lby (tm s.sec (bl (b.take 32))))) ((b.drop 32).take 48))))) ?_; refine xpL (.slice none 0 0) ?_; refine xpL (.int .i64 (ekd s.sec (bl (soT (skey (smix s.st (b.take 32)) (lby (tm s.sec (bl (b.take 32))))) ((b.drop 32).take 48))))) ?_; refine xT ?_; replace M:=M.rot3; replace M:=M.rot3; replace M:=M.rot3
       have hE:=show Hid _ from shTF_z2 hst.out hl hm h1.out rfl h2.out h4.out; have h20:=show Hid _ from (ekd_zero h4.out); have HS:=show Hid _ from (And.intro M OF); clear M OF; go_wp2; go_ret2
       exact ⟨_,_,by rw [hE.out,h20.out]; rfl,fun h=>absurd h (by rw [hE.out]; decide),HS.out⟩
     · replace h4:=show Hid _ from h4
       go_upto_region 12 with fail; refine wp_region_list ?_; refine xpL (.int .i64 (ekd s.sec (bl (soT (skey (smix s.st (b.take 32)) (lby (tm s.sec (bl (b.take 32))))) ((b.drop 32).take 48))))) ?_; refine xaL (.bool false) (neqI .i64 _ _ _ _ _ _ rfl rfl rfl false (by rw [ekd_pos h4.out]; rfl) _) ?_; refine xT ?_
       rw [skd_pos h4.out] at M
       have hw4:SymW (skey (sopen (skey (smix s.st (b.take 32)) (lby (tm s.sec (bl (b.take 32))))) ((b.drop 32).take 48)) (lby (tm s.sec (bl (soT (skey (smix s.st (b.take 32)) (lby (tm s.sec (bl (b.take 32))))) ((b.drop 32).take 48)))))):=skey_w hw3 _
       go_upto_region 14 with fail; refine wp_region_list ?_; refine xpL (.pointer (some ⟨N,0,none⟩)) ?_; refine xpL (.pointer (some ⟨N,0,none⟩)) ?_; refine xpL (.pointer (some ⟨N,1,none⟩)) ?_; refine xpL (.slice p3 (b.length-80) (cap-80)) ?_
       refine xcL (openN w0 _ N _ _ _ (skey (sopen (skey (smix s.st (b.take 32)) (lby (tm s.sec (bl (b.take 32))))) ((b.drop 32).take 48)) (lby (tm s.sec (bl (soT (skey (smix s.st (b.take 32)) (lby (tm s.sec (bl (b.take 32))))) ((b.drop 32).take 48)))))) hg.s hw4 (show (0:Nat)<4611686018427387904 by decide) p3 (cap-80) (b.length-80) (b.drop 80) (by rw [List.length_drop]) (hb.drop 80) (by omega) hn_3 (by omega) M ((hs_3 _ _ _ (hs.off OF)).congr (fun j _=>bl_dropA _ _ _))) ?_
       rintro e w13 ⟨⟨v13,rfl,Nq_⟩,M',o1⟩; have N_13:=NewF.lower Nq_ hwz; clear Nq_; clear M; have M:=M'; clear M'; replace hwz:=xnT hwz (Off.size o1); replace OF:=OF.and1 o1 (.inl (by simp)); clear o1
       obtain ⟨p13,c13,rfl,hcc_13,hnn_13,_,ha_13⟩:=id N_13
       refine xeL ?_
       replace M:Mm w0 ((N,[[Value.int .i64 av],pcs12 (sopen (skey (sopen (skey (smix s.st (b.take 32)) (lby (tm s.sec (bl (b.take 32))))) ((b.drop 32).take 48)) (lby (tm s.sec (bl (soT (skey (smix s.st (b.take 32)) (lby (tm s.sec (bl (b.take 32))))) ((b.drop 32).take 48)))))) (b.drop 80)),row .u8 32 (bl (LD.pub s.sec)),[kfv A],row .u8 32 (bl (LD.pub s.drw)),[kfv D],row .u8 32 (bl (soT (skey (smix s.st (b.take 32)) (lby (tm s.sec (bl (b.take 32))))) ((b.drop 32).take 48))),row .u8 32 (bl (b.take 32)),row .u8 32 (fun _=>0),row .u8 32 (fun _=>0)].flatten)::(A,row .u8 32 s.sec)::(D,row .u8 32 s.drw)::l) w13:=M
       refine xpL (.slice p13 ((soT (skey (sopen (skey (smix s.st (b.take 32)) (lby (tm s.sec (bl (b.take 32))))) ((b.drop 32).take 48)) (lby (tm s.sec (bl (soT (skey (smix s.st (b.take 32)) (lby (tm s.sec (bl (b.take 32))))) ((b.drop 32).take 48)))))) (b.drop 80)).length) c13) ?_
       refine xpL (.int .i64 (soE (skey (sopen (skey (smix s.st (b.take 32)) (lby (tm s.sec (bl (b.take 32))))) ((b.drop 32).take 48)) (lby (tm s.sec (bl (soT (skey (smix s.st (b.take 32)) (lby (tm s.sec (bl (b.take 32))))) ((b.drop 32).take 48)))))) (b.drop 80))) ?_
       refine xpL (.slice p13 ((soT (skey (sopen (skey (smix s.st (b.take 32)) (lby (tm s.sec (bl (b.take 32))))) ((b.drop 32).take 48)) (lby (tm s.sec (bl (soT (skey (smix s.st (b.take 32)) (lby (tm s.sec (bl (b.take 32))))) ((b.drop 32).take 48)))))) (b.drop 80)).length) c13) ?_
       refine xpL (.int .i64 (soE (skey (sopen (skey (smix s.st (b.take 32)) (lby (tm s.sec (bl (b.take 32))))) ((b.drop 32).take 48)) (lby (tm s.sec (bl (soT (skey (smix s.st (b.take 32)) (lby (tm s.sec (bl (b.take 32))))) ((b.drop 32).take 48)))))) (b.drop 80))) ?_; refine xT ?_
       by_cases h3:soE (skey (sopen (skey (smix s.st (b.take 32)) (lby (tm s.sec (bl (b.take 32))))) ((b.drop 32).take 48)) (lby (tm s.sec (bl (soT (skey (smix s.st (b.take 32)) (lby (tm s.sec (bl (b.take 32))))) ((b.drop 32).take 48)))))) (b.drop 80)=0
       · replace h3:=show Hid _ from h3
         replace M:=M.rot3; replace M:=M.rot3; replace M:=M.rot3; have hE:=show Hid _ from (shTF_ok hst.out hl hm h1.out rfl h2.out h4.out rfl h3.out); have h0_:=h3; have HS:=show Hid _ from (And.intro N_13 (And.intro M OF)); clear M OF N_13 h3 ; go_wp2; go_ret2
         exact ⟨_,_,by rw [hE.out,h0_.out]; rfl,fun _=>⟨by rw [hE.out]; exact HS.out.1,by rw [hE.out]; rfl⟩,HS.out.2⟩
       · replace h3:=show Hid _ from h3
         replace M:=M.rot3; replace M:=M.rot3; replace M:=M.rot3; have hE:=show Hid _ from shTF_b2 hst.out hl hm h1.out rfl h2.out h4.out rfl h3.out; have hx_:=h3; have HS:=show Hid _ from (And.intro M OF); clear M OF N_13; go_wp2; go_ret2
         exact ⟨_,_,by rw [hE.out]; rfl,fun h=>absurd h (by rw [hE.out]; exact hx_.out),HS.out⟩
   · replace h2:=show Hid _ from h2
     go_upto_region 8 with fail; refine wp_region_list ?_; refine xpL (.int .i64 (soE (skey (smix s.st (b.take 32)) (lby (tm s.sec (bl (b.take 32))))) ((b.drop 32).take 48))) ?_; refine xaL (.bool true) (neqI .i64 _ _ _ _ _ _ rfl rfl rfl true (by rw [bne_iff_ne]; exact h2.out) _) ?_; refine xT ?_; go_upto_region 9 with fail; refine wp_region_list ?_
     refine xpL (.int .i64 (soE (skey (smix s.st (b.take 32)) (lby (tm s.sec (bl (b.take 32))))) ((b.drop 32).take 48))) ?_; refine xpL (.slice none 0 0) ?_; refine xpL (.int .i64 (soE (skey (smix s.st (b.take 32)) (lby (tm s.sec (bl (b.take 32))))) ((b.drop 32).take 48))) ?_; refine xT ?_; replace M:=M.rot3; replace M:=M.rot3; replace M:=M.rot3
     have hE:=show Hid _ from shTF_b1 hst.out hl hm h1.out rfl h2.out; have hx_:=h2; have HS:=show Hid _ from (And.intro M OF); clear M OF N_9; go_wp2; go_ret2
     exact ⟨_,_,by rw [hE.out]; rfl,fun h=>absurd h (by rw [hE.out]; exact hx_.out),HS.out⟩
end Go.Proofs.YtklnibmfpcmeeaaGreatDoor
