/- Texts of Ke Zh, joined. -/
import Derived.Test.YtklnibmfpcmeeaaGreatDoorP23ShakeTries
set_option maxRecDepth 20000
set_option maxHeartbeats 64000000
namespace Go.Proofs.YtklnibmfpcmeeaaGreatDoor
open Go.RowKit
def InP (w0 w:World) (N A D:Nat) (l:List (Nat × List Value)) (av:Int) (s:Shk) (x:Except Int (List Int × Shk)) (e:Ending) (w':World):Prop :=
 ∃ u cs,e=.returned (.tuple #[u,.int .i64 (shE x)])∧(shE x=0→NewL w' w.heap.size (shB x) u∧cs=kcs av (shN s x) A D)∧Mm w0 ((N,cs)::(A,row .u8 32 s.sec)::(D,row .u8 32 s.drw)::l) w'∧Off [N] w w'
def InOK (F:FuncId) (r:Shk→List Int→Except Int (List Int × Shk)) (g:Shk→List Int→Prop):Prop :=
 ∀ (w0 w:World) (N A D:Nat) (l:List (Nat × List Value)) (av:Int) (s:Shk),HGlob13 w0→ShkW s→∀ (sp:Option Addr) (cap:Nat) (b:List Int),g s b→b.length≤cap→(sp=none→cap=0)→Byts b →
  Mm w0 ((N,kcs av s A D)::(A,row .u8 32 s.sec)::(D,row .u8 32 s.drw)::l) w→SrcA [N] w sp b.length (bl b) →
  Calls Tryz.prog F #[.pointer (some ⟨N,0,none⟩),.slice sp b.length cap] w (InP w0 w N A D l av s (r s b))
theorem newL_cat2 {w:World} {base n:Nat} {a b:List Int} {v:Value} (hn:a.length=n) (h:Own w base 5 .u8 (tot (pk2 n b.length) 2) (catz (pk2 n b.length) (pk2 (bl a) (bl b)) 2) v):NewL w base (a++b) v:=by
 subst hn
 rw [tot2] at h
 unfold NewL
 rw [List.length_append]
 exact NewF.of_own (h.congr fun j _=>by rw [catz2,bl_app'])
theorem newL_cat3 {w:World} {base n:Nat} {a b c:List Int} {v:Value} (hn:a.length=n) (h:Own w base 5 .u8 (tot (pk3 n b.length c.length) 3) (catz (pk3 n b.length c.length) (pk3 (bl a) (bl b) (bl c)) 3) v):NewL w base (a++(b++c)) v:=by
 subst hn
 rw [tot3] at h
 unfold NewL
 rw [← List.append_assoc,List.length_append,List.length_append]
 exact NewF.of_own (h.congr fun j _=>by
  rw [catz3,← bl_app',List.length_append]
  unfold app
  split
  · exact bl_app' a b j
  · rfl)
theorem kfirst_any:InOK 31 (shF LD) (fun s b=>¬ (s.role≠0∨s.step≠0)∧¬ 128<b.length):=by
 intro w0 w N A D l av s hg hw sp cap b ⟨hst,hl⟩ hcap hnil hb M hs; have hNw:=M.lt mS; replace hst:=show Hid _ from hst; have hwz:=xnR w.heap.size; have OF:=Off.refl [N] w
 replace M:Mm w0 ((N,[[Value.int .i64 av],pcs12 s.st,row .u8 32 (bl (LD.pub s.sec)),[kfv A],row .u8 32 (bl (LD.pub s.drw)),[kfv D],row .u8 32 (bl s.its),row .u8 32 (bl s.drn),row .u8 32 (fun _=>0),row .u8 32 (fun _=>0)].flatten)::(A,row .u8 32 s.sec)::(D,row .u8 32 s.drw)::l) w:=M
 go_enter Tryz.func31,Tryz.ntmps31
 go_upto_region 0 with fail; refine wp_region_list ?_; refine xpL (.slice none 0 0) ?_; refine xpL (.int .i64 0) ?_; refine xT ?_; go_upto_region 1 with fail
 refine wp_region_held_drew (S:=fun w'=>∃ (s1_:Sym),Mm w0 ((N,[[Value.int .i64 av],pcs12 s1_,row .u8 32 (bl (LD.pub s.sec)),[kfv A],row .u8 32 (bl (LD.pub s.drw)),[kfv D],row .u8 32 (bl s.its),row .u8 32 (bl s.drn),row .u8 32 (fun _=>0),row .u8 32 (fun _=>0)].flatten)::(A,row .u8 32 s.sec)::(D,row .u8 32 s.drw)::l) w') (by kernel_rfl) ⟨_,M.drew⟩ ?_; intro _
 replace M:=M.drew; have hdr:=(Below.refl w.heap.size w).drew; replace hwz:=xnT hwz hdr.size; replace OF:=OF.below hdr; clear hdr; generalize w.drew=w1 at M hwz OF ⊢; refine xrH 0 9 rfl (.pointer (some ⟨N,0,none⟩)) (fun _ ⟨_,M⟩=>(by kernel_rfl)) ⟨_,M⟩ ?_; refine xrH 1 10 rfl (.pointer (some ⟨N,0,none⟩)) (fun _ ⟨_,M⟩=>(by kernel_rfl)) ⟨_,M⟩ ?_
 refine xrH 2 11 rfl (.pointer (some ⟨N,1,none⟩)) (fun _ ⟨_,M⟩=>(by kernel_rfl)) ⟨_,M⟩ ?_; refine xrH 3 12 rfl (.pointer (some ⟨N,0,none⟩)) (fun _ ⟨_,M⟩=>(by kernel_rfl)) ⟨_,M⟩ ?_; refine xrH 4 13 rfl (.pointer (some ⟨N,0,none⟩)) (fun _ ⟨_,M⟩=>(by kernel_rfl)) ⟨_,M⟩ ?_; refine xrH 5 14 rfl (.pointer (some ⟨N,132,none⟩)) (fun _ ⟨_,M⟩=>(by kernel_rfl)) ⟨_,M⟩ ?_
 refine xrH 6 15 rfl (.pointer (some ⟨N,132,none⟩)) (fun _ ⟨_,M⟩=>(by kernel_rfl)) ⟨_,M⟩ ?_; refine xrH 7 16 rfl (.slice (some ⟨N,132,none⟩) 32 32) (fun _ ⟨_,M⟩=>cutAll 23 _ _ _ rfl rfl (by kernel_rfl)) ⟨_,M⟩ ?_
 refine callH (i:=8) (some 17) rfl (by kernel_rfl) rfl rfl (fun _=>by kernel_rfl) (mix32 w0 _ N _ _ _ s.st hg.s hw.st (some ⟨N,132,none⟩) 32 (by decide) (LD.pub s.drw) (LD_ok.len s.drw) (LD_ok.byt s.drw) (fun e=>by cases e) M (M.srcRow mS 132 32 (bl (LD.pub s.drw)) (flat_part _ [1,98,32,1,32,1,32,32,32,32] (by kernel_rfl) 4 132 _ rfl rfl))) ?_; rintro e w2 ⟨rfl,M',o1⟩; clear M
 have M:=M'; clear M'; replace hwz:=xnT hwz (Off.size o1); replace OF:=OF.and1 o1 (.inl (by simp)); clear o1
 refine ⟨_,rfl,⟨_,M⟩,?_⟩
 simp only [aP,lI,l0,lS]
 replace M:Mm w0 ((N,[[Value.int .i64 av],pcs12 (smix s.st (LD.pub s.drw)),row .u8 32 (bl (LD.pub s.sec)),[kfv A],row .u8 32 (bl (LD.pub s.drw)),[kfv D],row .u8 32 (bl s.its),row .u8 32 (bl s.drn),row .u8 32 (fun _=>0),row .u8 32 (fun _=>0)].flatten)::(A,row .u8 32 s.sec)::(D,row .u8 32 s.drw)::l) w2:=M
 refine wpAnyH_done (by kernel_rfl) ?_ _
 first | show Exit.then _ _ _ _ _ | show Exit.inBlock _ _ _ _ _
 have hw1:SymW (smix s.st (LD.pub s.drw)):=smix_w hw.st _
 go_upto_region 2 with fail
 refine wp_region_held_drew (S:=fun w'=>∃ (s1_:Sym),Mm w0 ((N,[[Value.int .i64 av],pcs12 s1_,row .u8 32 (bl (LD.pub s.sec)),[kfv A],row .u8 32 (bl (LD.pub s.drw)),[kfv D],row .u8 32 (bl s.its),row .u8 32 (bl s.drn),row .u8 32 (fun _=>0),row .u8 32 (fun _=>0)].flatten)::(A,row .u8 32 s.sec)::(D,row .u8 32 s.drw)::l) w') (by kernel_rfl) ⟨_,M.drew⟩ ?_; intro _
 replace M:=M.drew; have hdr:=(Below.refl w2.heap.size w2).drew; replace hwz:=xnT hwz hdr.size; replace OF:=OF.below hdr; clear hdr; generalize w2.drew=w3 at M hwz OF ⊢; refine xrH 0 18 rfl (.pointer (some ⟨N,0,none⟩)) (fun _ ⟨_,M⟩=>(by kernel_rfl)) ⟨_,M⟩ ?_; refine xrH 1 19 rfl (.pointer (some ⟨N,0,none⟩)) (fun _ ⟨_,M⟩=>(by kernel_rfl)) ⟨_,M⟩ ?_
 refine xrH 2 20 rfl (.pointer (some ⟨N,0,none⟩)) (fun _ ⟨_,M⟩=>(by kernel_rfl)) ⟨_,M⟩ ?_; refine xrH 3 21 rfl (.pointer (some ⟨N,132,none⟩)) (fun _ ⟨_,M⟩=>(by kernel_rfl)) ⟨_,M⟩ ?_
 refine xrH 4 22 rfl (.agg ([row .u8 32 (bl (LD.pub s.drw)),[kfv D]].flatten).toArray) (fun _ ⟨_,M⟩=>loadN 63 _ ⟨N,132,none⟩ ([row .u8 32 (bl (LD.pub s.drw)),[kfv D]].flatten) rfl rfl (fun _=>by kernel_rfl) (fun _=>by rw [flat_len _ [32,1] (by kernel_rfl)]; kernel_rfl) (M.part mS 132 _ (flat_mid [[Value.int .i64 av],_,row .u8 32 (bl (LD.pub s.sec)),[kfv A]] [row .u8 32 (bl (LD.pub s.drw)),[kfv D]] [row .u8 32 (bl s.its),row .u8 32 (bl s.drn),row .u8 32 (fun _=>0),row .u8 32 (fun _=>0)] 132 (by kernel_rfl)))) ⟨_,M⟩ ?_
 refine xrH 5 23 rfl (.pointer (some ⟨N,0,none⟩)) (fun _ ⟨_,M⟩=>(by kernel_rfl)) ⟨_,M⟩ ?_; refine xrH 6 24 rfl (.pointer (some ⟨N,0,none⟩)) (fun _ ⟨_,M⟩=>(by kernel_rfl)) ⟨_,M⟩ ?_; refine xrH 7 25 rfl (.pointer (some ⟨N,165,none⟩)) (fun _ ⟨_,M⟩=>(by kernel_rfl)) ⟨_,M⟩ ?_
 refine xrH 8 26 rfl (.agg (row .u8 32 (bl s.its)).toArray) (fun _ ⟨_,M⟩=>loadN 23 _ ⟨N,165,none⟩ (row .u8 32 (bl s.its)) rfl rfl (fun _=>by kernel_rfl) (fun _=>by rw [row32]; kernel_rfl) (M.part mS 165 _ (flat_part _ [1,98,32,1,32,1,32,32,32,32] (by kernel_rfl) 6 165 _ rfl rfl))) ⟨_,M⟩ ?_
 replace M:Mm w0 ((N,[[Value.int .i64 av],pcs12 (smix s.st (LD.pub s.drw)),row .u8 32 (bl (LD.pub s.sec)),[kfv A],row .u8 32 (bl (LD.pub s.drw)),[kfv D],row .u8 32 (bl s.its),row .u8 32 (bl s.drn),row .u8 32 (fun _=>0),row .u8 32 (fun _=>0)].flatten)::(A,row .u8 32 s.sec)::(D,row .u8 32 s.drw)::l) w3:=M
 refine callH (i:=9) (some 27) rfl (by kernel_rfl) rfl rfl (fun _=>by kernel_rfl) (kkey_any w0 _ N D _ _ _ (smix s.st (LD.pub s.drw)) hg hw1 (bl (LD.pub s.drw)) s.drw (bl s.its) hw.drw (hw.its.2.bl32 hw.its.1) (mT _ mS) M) ?_; rintro e w4 ⟨rfl,M',o1⟩; clear M; have M:=M'; clear M'; replace hwz:=xnT hwz (Off.size o1); replace OF:=OF.and1 o1 (.inl (by simp)); clear o1
 refine ⟨_,rfl,⟨_,M⟩,?_⟩
 simp only [aP,lI,l0,lS]
 replace M:Mm w0 ((N,[[Value.int .i64 av],pcs12 (skd (smix s.st (LD.pub s.drw)) s.drw (bl s.its)),row .u8 32 (bl (LD.pub s.sec)),[kfv A],row .u8 32 (bl (LD.pub s.drw)),[kfv D],row .u8 32 (bl s.its),row .u8 32 (bl s.drn),row .u8 32 (fun _=>0),row .u8 32 (fun _=>0)].flatten)::(A,row .u8 32 s.sec)::(D,row .u8 32 s.drw)::l) w4:=M
 refine xrH 10 6 rfl (.int .i64 (ekd s.drw (bl s.its))) (fun _ ⟨_,M⟩=>(by kernel_rfl)) ⟨_,M⟩ ?_
 refine wpAnyH_done (by kernel_rfl) ?_ _
 first | show Exit.then _ _ _ _ _ | show Exit.inBlock _ _ _ _ _
 by_cases h1:tm s.drw (bl s.its)=0
 · replace h1:=show Hid _ from h1
   go_upto_region 3 with fail; refine wp_region_list ?_; refine xpL (.int .i64 (ekd s.drw (bl s.its))) ?_; refine xaL (.bool true) (neqI .i64 _ _ _ _ _ _ rfl rfl rfl true (by rw [ekd_zero h1.out]; rfl) _) ?_; refine xT ?_; go_upto_region 4 with fail; refine wp_region_list ?_; refine xpL (.int .i64 (ekd s.drw (bl s.its))) ?_; refine xpL (.slice none 0 0) ?_
   refine xpL (.int .i64 (ekd s.drw (bl s.its))) ?_; refine xT ?_; replace M:=M.rot3; replace M:=M.rot3; replace M:=M.rot3; have hE:=show Hid _ from shF_z1 hst.out hl h1.out; have h20:=show Hid _ from (ekd_zero h1.out); have HS:=show Hid _ from (And.intro M OF); clear M OF; go_wp2; go_ret2
   exact ⟨_,_,by rw [hE.out,h20.out]; rfl,fun h=>absurd h (by rw [hE.out]; decide),HS.out⟩
 · replace h1:=show Hid _ from h1
   go_upto_region 3 with fail; refine wp_region_list ?_; refine xpL (.int .i64 (ekd s.drw (bl s.its))) ?_; refine xaL (.bool false) (neqI .i64 _ _ _ _ _ _ rfl rfl rfl false (by rw [ekd_pos h1.out]; rfl) _) ?_; refine xT ?_
   rw [skd_pos h1.out] at M
   have hw2:SymW (skey (smix s.st (LD.pub s.drw)) (lby (tm s.drw (bl s.its)))):=skey_w hw1 _
   have hk2:(sout (skey (smix s.st (LD.pub s.drw)) (lby (tm s.drw (bl s.its)))) (LD.pub s.sec)).length=48:=by rw [sout_len rfl,LD_ok.len]
   go_upto_region 5 with fail
   refine wp_region_held_drew (S:=fun w'=>∃ (s1_:Sym),Mm w0 ((N,[[Value.int .i64 av],pcs12 s1_,row .u8 32 (bl (LD.pub s.sec)),[kfv A],row .u8 32 (bl (LD.pub s.drw)),[kfv D],row .u8 32 (bl s.its),row .u8 32 (bl s.drn),row .u8 32 (fun _=>0),row .u8 32 (fun _=>0)].flatten)::(A,row .u8 32 s.sec)::(D,row .u8 32 s.drw)::l) w') (by kernel_rfl) ⟨_,M.drew⟩ ?_; intro _
   replace M:=M.drew; have hdr:=(Below.refl w4.heap.size w4).drew; replace hwz:=xnT hwz hdr.size; replace OF:=OF.below hdr; clear hdr; generalize w4.drew=w5 at M hwz OF ⊢; refine xrH 0 31 rfl (.pointer (some ⟨N,0,none⟩)) (fun _ ⟨_,M⟩=>(by kernel_rfl)) ⟨_,M⟩ ?_; refine xrH 1 32 rfl (.pointer (some ⟨N,0,none⟩)) (fun _ ⟨_,M⟩=>(by kernel_rfl)) ⟨_,M⟩ ?_
   refine xrH 2 33 rfl (.pointer (some ⟨N,1,none⟩)) (fun _ ⟨_,M⟩=>(by kernel_rfl)) ⟨_,M⟩ ?_; refine xrH 3 34 rfl (.pointer (some ⟨N,0,none⟩)) (fun _ ⟨_,M⟩=>(by kernel_rfl)) ⟨_,M⟩ ?_; refine xrH 4 35 rfl (.pointer (some ⟨N,0,none⟩)) (fun _ ⟨_,M⟩=>(by kernel_rfl)) ⟨_,M⟩ ?_; refine xrH 5 36 rfl (.pointer (some ⟨N,99,none⟩)) (fun _ ⟨_,M⟩=>(by kernel_rfl)) ⟨_,M⟩ ?_
   refine xrH 6 37 rfl (.pointer (some ⟨N,99,none⟩)) (fun _ ⟨_,M⟩=>(by kernel_rfl)) ⟨_,M⟩ ?_; refine xrH 7 38 rfl (.slice (some ⟨N,99,none⟩) 32 32) (fun _ ⟨_,M⟩=>cutAll 23 _ _ _ rfl rfl (by kernel_rfl)) ⟨_,M⟩ ?_
   refine callH (i:=8) (some 39) rfl (by kernel_rfl) rfl rfl (fun _=>by kernel_rfl) (seal32 w0 _ N _ _ _ (skey (smix s.st (LD.pub s.drw)) (lby (tm s.drw (bl s.its)))) hg.s hw2 (show (0:Nat)<4611686018427387904 by decide) (some ⟨N,99,none⟩) 32 (by decide) (LD.pub s.sec) (LD_ok.len s.sec) (LD_ok.byt s.sec) (fun e=>by cases e) M (M.srcRow mS 99 32 (bl (LD.pub s.sec)) (flat_part _ [1,98,32,1,32,1,32,32,32,32] (by kernel_rfl) 2 99 _ rfl rfl))) ?_
   rintro e w6 ⟨⟨v6,rfl,Nq_⟩,M',o1⟩; have N_6:=NewF.lower Nq_ hwz; clear Nq_; clear M; have M:=M'; clear M'; replace hwz:=xnT hwz (Off.size o1); replace OF:=OF.and1 o1 (.inl (by simp)); clear o1
   obtain ⟨p6,c6,rfl,hcc_6,hnn_6,_,_⟩:=id N_6
   refine ⟨_,rfl,⟨_,M⟩,?_⟩
   simp only [aP,lI,l0,lS]
   replace M:Mm w0 ((N,[[Value.int .i64 av],pcs12 (sseal (skey (smix s.st (LD.pub s.drw)) (lby (tm s.drw (bl s.its)))) (LD.pub s.sec)),row .u8 32 (bl (LD.pub s.sec)),[kfv A],row .u8 32 (bl (LD.pub s.drw)),[kfv D],row .u8 32 (bl s.its),row .u8 32 (bl s.drn),row .u8 32 (fun _=>0),row .u8 32 (fun _=>0)].flatten)::(A,row .u8 32 s.sec)::(D,row .u8 32 s.drw)::l) w6:=M
   refine xrH 9 7 rfl (.slice p6 ((sout (skey (smix s.st (LD.pub s.drw)) (lby (tm s.drw (bl s.its)))) (LD.pub s.sec)).length) c6) (fun _ ⟨_,M⟩=>(by kernel_rfl)) ⟨_,M⟩ ?_
   refine wpAnyH_done (by kernel_rfl) ?_ _
   first | show Exit.then _ _ _ _ _ | show Exit.inBlock _ _ _ _ _
   have hw3:SymW (sseal (skey (smix s.st (LD.pub s.drw)) (lby (tm s.drw (bl s.its)))) (LD.pub s.sec)):=sseal_w hw2 _
   go_upto_region 6 with fail
   refine wp_region_held_drew (S:=fun w'=>∃ (s1_:Sym),Mm w0 ((N,[[Value.int .i64 av],pcs12 s1_,row .u8 32 (bl (LD.pub s.sec)),[kfv A],row .u8 32 (bl (LD.pub s.drw)),[kfv D],row .u8 32 (bl s.its),row .u8 32 (bl s.drn),row .u8 32 (fun _=>0),row .u8 32 (fun _=>0)].flatten)::(A,row .u8 32 s.sec)::(D,row .u8 32 s.drw)::l) w') (by kernel_rfl) ⟨_,M.drew⟩ ?_; intro _
   replace M:=M.drew; have hdr:=(Below.refl w6.heap.size w6).drew; replace hwz:=xnT hwz hdr.size; replace OF:=OF.below hdr; replace N_6:=NewF.below N_6 hdr; clear hdr; generalize w6.drew=w7 at M hwz OF N_6 ⊢; refine xrH 0 40 rfl (.pointer (some ⟨N,0,none⟩)) (fun _ ⟨_,M⟩=>(by kernel_rfl)) ⟨_,M⟩ ?_
   refine xrH 1 41 rfl (.pointer (some ⟨N,0,none⟩)) (fun _ ⟨_,M⟩=>(by kernel_rfl)) ⟨_,M⟩ ?_; refine xrH 2 42 rfl (.pointer (some ⟨N,0,none⟩)) (fun _ ⟨_,M⟩=>(by kernel_rfl)) ⟨_,M⟩ ?_; refine xrH 3 43 rfl (.pointer (some ⟨N,99,none⟩)) (fun _ ⟨_,M⟩=>(by kernel_rfl)) ⟨_,M⟩ ?_
   refine xrH 4 44 rfl (.agg ([row .u8 32 (bl (LD.pub s.sec)),[kfv A]].flatten).toArray) (fun _ ⟨_,M⟩=>loadN 63 _ ⟨N,99,none⟩ ([row .u8 32 (bl (LD.pub s.sec)),[kfv A]].flatten) rfl rfl (fun _=>by kernel_rfl) (fun _=>by rw [flat_len _ [32,1] (by kernel_rfl)]; kernel_rfl) (M.part mS 99 _ (flat_mid [[Value.int .i64 av],_] [row .u8 32 (bl (LD.pub s.sec)),[kfv A]] [row .u8 32 (bl (LD.pub s.drw)),[kfv D],row .u8 32 (bl s.its),row .u8 32 (bl s.drn),row .u8 32 (fun _=>0),row .u8 32 (fun _=>0)] 99 (by kernel_rfl)))) ⟨_,M⟩ ?_
   refine xrH 5 45 rfl (.pointer (some ⟨N,0,none⟩)) (fun _ ⟨_,M⟩=>(by kernel_rfl)) ⟨_,M⟩ ?_; refine xrH 6 46 rfl (.pointer (some ⟨N,0,none⟩)) (fun _ ⟨_,M⟩=>(by kernel_rfl)) ⟨_,M⟩ ?_; refine xrH 7 47 rfl (.pointer (some ⟨N,165,none⟩)) (fun _ ⟨_,M⟩=>(by kernel_rfl)) ⟨_,M⟩ ?_
   refine xrH 8 48 rfl (.agg (row .u8 32 (bl s.its)).toArray) (fun _ ⟨_,M⟩=>loadN 23 _ ⟨N,165,none⟩ (row .u8 32 (bl s.its)) rfl rfl (fun _=>by kernel_rfl) (fun _=>by rw [row32]; kernel_rfl) (M.part mS 165 _ (flat_part _ [1,98,32,1,32,1,32,32,32,32] (by kernel_rfl) 6 165 _ rfl rfl))) ⟨_,M⟩ ?_
   replace M:Mm w0 ((N,[[Value.int .i64 av],pcs12 (sseal (skey (smix s.st (LD.pub s.drw)) (lby (tm s.drw (bl s.its)))) (LD.pub s.sec)),row .u8 32 (bl (LD.pub s.sec)),[kfv A],row .u8 32 (bl (LD.pub s.drw)),[kfv D],row .u8 32 (bl s.its),row .u8 32 (bl s.drn),row .u8 32 (fun _=>0),row .u8 32 (fun _=>0)].flatten)::(A,row .u8 32 s.sec)::(D,row .u8 32 s.drw)::l) w7:=M
   refine callH (i:=9) (some 49) rfl (by kernel_rfl) rfl rfl (fun _=>by kernel_rfl) (kkey_any w0 _ N A _ _ _ (sseal (skey (smix s.st (LD.pub s.drw)) (lby (tm s.drw (bl s.its)))) (LD.pub s.sec)) hg hw3 (bl (LD.pub s.sec)) s.sec (bl s.its) hw.sec (hw.its.2.bl32 hw.its.1) mS M) ?_; rintro e w8 ⟨rfl,M',o1⟩; clear M; have M:=M'; clear M'; replace hwz:=xnT hwz (Off.size o1)
   replace OF:=OF.and1 o1 (.inl (by simp)); replace N_6:=NewF.off N_6 o1 (fun b hb=>by obtain rfl:=xm1 hb; omega); clear o1
   refine ⟨_,rfl,⟨_,M⟩,?_⟩
   simp only [aP,lI,l0,lS]
   replace M:Mm w0 ((N,[[Value.int .i64 av],pcs12 (skd (sseal (skey (smix s.st (LD.pub s.drw)) (lby (tm s.drw (bl s.its)))) (LD.pub s.sec)) s.sec (bl s.its)),row .u8 32 (bl (LD.pub s.sec)),[kfv A],row .u8 32 (bl (LD.pub s.drw)),[kfv D],row .u8 32 (bl s.its),row .u8 32 (bl s.drn),row .u8 32 (fun _=>0),row .u8 32 (fun _=>0)].flatten)::(A,row .u8 32 s.sec)::(D,row .u8 32 s.drw)::l) w8:=M
   refine xrH 10 8 rfl (.int .i64 (ekd s.sec (bl s.its))) (fun _ ⟨_,M⟩=>(by kernel_rfl)) ⟨_,M⟩ ?_
   refine wpAnyH_done (by kernel_rfl) ?_ _
   first | show Exit.then _ _ _ _ _ | show Exit.inBlock _ _ _ _ _
   by_cases h2:tm s.sec (bl s.its)=0
   · replace h2:=show Hid _ from h2
     go_upto_region 7 with fail; refine wp_region_list ?_; refine xpL (.int .i64 (ekd s.sec (bl s.its))) ?_; refine xaL (.bool true) (neqI .i64 _ _ _ _ _ _ rfl rfl rfl true (by rw [ekd_zero h2.out]; rfl) _) ?_; refine xT ?_; go_upto_region 8 with fail; refine wp_region_list ?_; refine xpL (.int .i64 (ekd s.sec (bl s.its))) ?_; refine xpL (.slice none 0 0) ?_
     refine xpL (.int .i64 (ekd s.sec (bl s.its))) ?_; refine xT ?_; replace M:=M.rot3; replace M:=M.rot3; replace M:=M.rot3; have hE:=show Hid _ from shF_z2 hst.out hl h1.out h2.out; have h20:=show Hid _ from (ekd_zero h2.out); have HS:=show Hid _ from (And.intro M OF); clear M OF; go_wp2; go_ret2
     exact ⟨_,_,by rw [hE.out,h20.out]; rfl,fun h=>absurd h (by rw [hE.out]; decide),HS.out⟩
   · replace h2:=show Hid _ from h2
     go_upto_region 7 with fail; refine wp_region_list ?_; refine xpL (.int .i64 (ekd s.sec (bl s.its))) ?_; refine xaL (.bool false) (neqI .i64 _ _ _ _ _ _ rfl rfl rfl false (by rw [ekd_pos h2.out]; rfl) _) ?_; refine xT ?_
     rw [skd_pos h2.out] at M
     have hw4:SymW (skey (sseal (skey (smix s.st (LD.pub s.drw)) (lby (tm s.drw (bl s.its)))) (LD.pub s.sec)) (lby (tm s.sec (bl s.its)))):=skey_w hw3 _
     have hk3:(sout (skey (sseal (skey (smix s.st (LD.pub s.drw)) (lby (tm s.drw (bl s.its)))) (LD.pub s.sec)) (lby (tm s.sec (bl s.its)))) b).length=b.length+16:=sout_len rfl b
     go_upto_region 9 with fail
     refine wp_region_held_drew (S:=fun w'=>∃ (s1_:Sym),Mm w0 ((N,[[Value.int .i64 av],pcs12 s1_,row .u8 32 (bl (LD.pub s.sec)),[kfv A],row .u8 32 (bl (LD.pub s.drw)),[kfv D],row .u8 32 (bl s.its),row .u8 32 (bl s.drn),row .u8 32 (fun _=>0),row .u8 32 (fun _=>0)].flatten)::(A,row .u8 32 s.sec)::(D,row .u8 32 s.drw)::l) w') (by kernel_rfl) ⟨_,M.drew⟩ ?_; intro _
     replace M:=M.drew; have hdr:=(Below.refl w8.heap.size w8).drew; replace hwz:=xnT hwz hdr.size; replace OF:=OF.below hdr; replace N_6:=NewF.below N_6 hdr; clear hdr; generalize w8.drew=w9 at M hwz OF N_6 ⊢; refine xrH 0 53 rfl (.pointer (some ⟨N,0,none⟩)) (fun _ ⟨_,M⟩=>(by kernel_rfl)) ⟨_,M⟩ ?_
     refine xrH 1 54 rfl (.pointer (some ⟨N,0,none⟩)) (fun _ ⟨_,M⟩=>(by kernel_rfl)) ⟨_,M⟩ ?_; refine xrH 2 55 rfl (.pointer (some ⟨N,132,none⟩)) (fun _ ⟨_,M⟩=>(by kernel_rfl)) ⟨_,M⟩ ?_; refine xrH 3 56 rfl (.pointer (some ⟨N,132,none⟩)) (fun _ ⟨_,M⟩=>(by kernel_rfl)) ⟨_,M⟩ ?_
     refine xrH 4 57 rfl (.slice (some ⟨N,132,none⟩) 32 32) (fun _ ⟨_,M⟩=>cutAll 23 _ _ _ rfl rfl (by kernel_rfl)) ⟨_,M⟩ ?_; refine xrH 5 58 rfl (.slice p6 ((sout (skey (smix s.st (LD.pub s.drw)) (lby (tm s.drw (bl s.its)))) (LD.pub s.sec)).length) c6) (fun _ ⟨_,M⟩=>(by kernel_rfl)) ⟨_,M⟩ ?_; refine xrH 6 59 rfl (.pointer (some ⟨N,0,none⟩)) (fun _ ⟨_,M⟩=>(by kernel_rfl)) ⟨_,M⟩ ?_
     refine xrH 7 60 rfl (.pointer (some ⟨N,0,none⟩)) (fun _ ⟨_,M⟩=>(by kernel_rfl)) ⟨_,M⟩ ?_; refine xrH 8 61 rfl (.pointer (some ⟨N,1,none⟩)) (fun _ ⟨_,M⟩=>(by kernel_rfl)) ⟨_,M⟩ ?_; refine xrH 9 62 rfl (.slice sp b.length cap) (fun _ ⟨_,M⟩=>(by kernel_rfl)) ⟨_,M⟩ ?_
     refine callH (i:=10) (some 63) rfl (by kernel_rfl) rfl rfl (fun _=>by kernel_rfl) (vseal13_any w0 _ N _ _ _ (skey (sseal (skey (smix s.st (LD.pub s.drw)) (lby (tm s.drw (bl s.its)))) (LD.pub s.sec)) (lby (tm s.sec (bl s.its)))) hg.s hw4 (show (0:Nat)<4611686018427387904 by decide) sp cap b (by omega) hcap hnil hb M (hs.off OF).1) ?_; rintro e w10 ⟨⟨v10,rfl,Nq_⟩,M',o1⟩
     have N_10:=NewF.lower Nq_ hwz; clear Nq_; clear M; have M:=M'; clear M'; replace hwz:=xnT hwz (Off.size o1); replace OF:=OF.and1 o1 (.inl (by simp)); replace N_6:=NewF.off N_6 o1 (fun b hb=>by obtain rfl:=xm1 hb; omega); clear o1
     obtain ⟨p10,c10,rfl,hcc_10,hnn_10,_,_⟩:=id N_10
     refine ⟨_,rfl,⟨_,M⟩,?_⟩
     simp only [aP,lI,l0,lS]
     replace M:Mm w0 ((N,[[Value.int .i64 av],pcs12 (sseal (skey (sseal (skey (smix s.st (LD.pub s.drw)) (lby (tm s.drw (bl s.its)))) (LD.pub s.sec)) (lby (tm s.sec (bl s.its)))) b),row .u8 32 (bl (LD.pub s.sec)),[kfv A],row .u8 32 (bl (LD.pub s.drw)),[kfv D],row .u8 32 (bl s.its),row .u8 32 (bl s.drn),row .u8 32 (fun _=>0),row .u8 32 (fun _=>0)].flatten)::(A,row .u8 32 s.sec)::(D,row .u8 32 s.drw)::l) w10:=M
     have HC:=catIn3 w10.heap.size (some ⟨N,132,none⟩) p6 p10 32 ((sout (skey (smix s.st (LD.pub s.drw)) (lby (tm s.drw (bl s.its)))) (LD.pub s.sec)).length) ((sout (skey (sseal (skey (smix s.st (LD.pub s.drw)) (lby (tm s.drw (bl s.its)))) (LD.pub s.sec)) (lby (tm s.sec (bl s.its)))) b).length) 32 c6 c10 (bl (LD.pub s.drw)) (bl (sout (skey (smix s.st (LD.pub s.drw)) (lby (tm s.drw (bl s.its)))) (LD.pub s.sec))) (bl (sout (skey (sseal (skey (smix s.st (LD.pub s.drw)) (lby (tm s.drw (bl s.its)))) (LD.pub s.sec)) (lby (tm s.sec (bl s.its)))) b)) 32 rfl (M.srcRow mS 132 32 (bl (LD.pub s.drw)) (flat_part _ [1,98,32,1,32,1,32,32,32,32] (by kernel_rfl) 4 132 _ rfl rfl)) (NewF.src N_6) (NewF.src N_10) (fun e=>by cases e) hnn_6 hnn_10
     have hlb:=(Below.refl w10.heap.size w10).alloc (xnR _) (.cells #[.slice (some ⟨N,132,none⟩) 32 32,.slice p6 ((sout (skey (smix s.st (LD.pub s.drw)) (lby (tm s.drw (bl s.its)))) (LD.pub s.sec)).length) c6,.slice p10 ((sout (skey (sseal (skey (smix s.st (LD.pub s.drw)) (lby (tm s.drw (bl s.its)))) (LD.pub s.sec)) (lby (tm s.sec (bl s.its)))) b).length) c10] 32); replace M:=M.call hlb
     refine onlyH (i:=11) (w':=w10.alloc (.cells #[.slice (some ⟨N,132,none⟩) 32 32,.slice p6 ((sout (skey (smix s.st (LD.pub s.drw)) (lby (tm s.drw (bl s.its)))) (LD.pub s.sec)).length) c6,.slice p10 ((sout (skey (sseal (skey (smix s.st (LD.pub s.drw)) (lby (tm s.drw (bl s.its)))) (LD.pub s.sec)) (lby (tm s.sec (bl s.its)))) b).length) c10] 32)) (some 64) rfl (.slice (some ⟨w10.heap.size,0,none⟩) 3 3) (by kernel_rfl) rfl rfl (by kernel_rfl) ⟨_,M⟩ ?_
     simp only [aP,lI,l0,lS]; replace hwz:=xnT hwz hlb.size; replace OF:=OF.below hlb; replace N_6:=NewF.below N_6 hlb; replace N_10:=NewF.below N_10 hlb; clear hlb
     generalize w10.alloc (.cells #[.slice (some ⟨N,132,none⟩) 32 32,.slice p6 ((sout (skey (smix s.st (LD.pub s.drw)) (lby (tm s.drw (bl s.its)))) (LD.pub s.sec)).length) c6,.slice p10 ((sout (skey (sseal (skey (smix s.st (LD.pub s.drw)) (lby (tm s.drw (bl s.its)))) (LD.pub s.sec)) (lby (tm s.sec (bl s.its)))) b).length) c10] 32)=w11 at M HC hwz OF N_6 N_10 ⊢
     generalize hC:w10.heap.size=C at HC ⊢; clear hC; refine callH (i:=12) (some 65) rfl (by kernel_rfl) rfl rfl (fun _=>by kernel_rfl) (concat_any ⟨C,0,none⟩ 3 3 _ _ _ _ (by decide) (by rw [tot3]; omega) _ HC) ?_; rintro e w12 ⟨v12,rfl,hO,l⟩
     have N_12:NewL w12 w.heap.size ((LD.pub s.drw)++((sout (skey (smix s.st (LD.pub s.drw)) (lby (tm s.drw (bl s.its)))) (LD.pub s.sec))++(sout (skey (sseal (skey (smix s.st (LD.pub s.drw)) (lby (tm s.drw (bl s.its)))) (LD.pub s.sec)) (lby (tm s.sec (bl s.its)))) b))) v12:=NewF.lower (newL_cat3 (LD_ok.len s.drw) hO) hwz
     replace M:=M.call l; replace hwz:=xnT hwz l.size; replace OF:=OF.below l; replace N_6:=NewF.below N_6 l; replace N_10:=NewF.below N_10 l; clear l hO HC
     obtain ⟨p12,c12,rfl,hcc_12,hnn_12,_,_⟩:=id N_12
     refine ⟨_,rfl,⟨_,M⟩,?_⟩
     simp only [aP,lI,l0,lS]; refine xrH 13 4 rfl (.slice p12 (((LD.pub s.drw)++((sout (skey (smix s.st (LD.pub s.drw)) (lby (tm s.drw (bl s.its)))) (LD.pub s.sec))++(sout (skey (sseal (skey (smix s.st (LD.pub s.drw)) (lby (tm s.drw (bl s.its)))) (LD.pub s.sec)) (lby (tm s.sec (bl s.its)))) b))).length) c12) (fun _ ⟨_,M⟩=>(by kernel_rfl)) ⟨_,M⟩ ?_
     refine xrH 14 5 rfl (.int .i64 0) (fun _ ⟨_,M⟩=>(by kernel_rfl)) ⟨_,M⟩ ?_
     refine wpAnyH_done (by kernel_rfl) ?_ _
     first | show Exit.then _ _ _ _ _ | show Exit.inBlock _ _ _ _ _
     replace M:=M.rot3; replace M:=M.rot3; replace M:=M.rot3; have hE:=show Hid _ from (shF_eq (L:=LD) (s:=s) (t:=b) (Decidable.not_not.1 (not_or.1 hst.out).1) (Decidable.not_not.1 (not_or.1 hst.out).2) (by omega) (LD_some h1.out) (LD_some h2.out)); have HS:=show Hid _ from (And.intro N_12 (And.intro M OF)); clear M OF N_12 hk2 hk3
     generalize (Value.slice p12 (((LD.pub s.drw)++((sout (skey (smix s.st (LD.pub s.drw)) (lby (tm s.drw (bl s.its)))) (LD.pub s.sec))++(sout (skey (sseal (skey (smix s.st (LD.pub s.drw)) (lby (tm s.drw (bl s.its)))) (LD.pub s.sec)) (lby (tm s.sec (bl s.its)))) b))).length) c12)=u_ at HS ⊢; go_wp2; go_ret2
     exact ⟨_,_,by rw [hE.out]; rfl,fun _=>⟨by rw [hE.out]; exact HS.out.1,by rw [hE.out]; rfl⟩,HS.out.2⟩
theorem ksecond_any:InOK 33 (shS LD) (fun s b=>¬ (s.role≠1∨s.step≠1)∧¬ 128<b.length):=by
 intro w0 w N A D l av s hg hw sp cap b ⟨hst,hl⟩ hcap hnil hb M hs; have hNw:=M.lt mS; replace hst:=show Hid _ from hst; have hwz:=xnR w.heap.size; have OF:=Off.refl [N] w
 replace M:Mm w0 ((N,[[Value.int .i64 av],pcs12 s.st,row .u8 32 (bl (LD.pub s.sec)),[kfv A],row .u8 32 (bl (LD.pub s.drw)),[kfv D],row .u8 32 (bl s.its),row .u8 32 (bl s.drn),row .u8 32 (fun _=>0),row .u8 32 (fun _=>0)].flatten)::(A,row .u8 32 s.sec)::(D,row .u8 32 s.drw)::l) w:=M
 go_enter Tryz.func33,Tryz.ntmps33
 go_upto_region 0 with fail; refine wp_region_list ?_; refine xpL (.slice none 0 0) ?_; refine xpL (.int .i64 0) ?_; refine xT ?_; go_upto_region 1 with fail
 refine wp_region_held_drew (S:=fun w'=>∃ (s1_:Sym),Mm w0 ((N,[[Value.int .i64 av],pcs12 s1_,row .u8 32 (bl (LD.pub s.sec)),[kfv A],row .u8 32 (bl (LD.pub s.drw)),[kfv D],row .u8 32 (bl s.its),row .u8 32 (bl s.drn),row .u8 32 (fun _=>0),row .u8 32 (fun _=>0)].flatten)::(A,row .u8 32 s.sec)::(D,row .u8 32 s.drw)::l) w') (by kernel_rfl) ⟨_,M.drew⟩ ?_; intro _
 replace M:=M.drew; have hdr:=(Below.refl w.heap.size w).drew; replace hwz:=xnT hwz hdr.size; replace OF:=OF.below hdr; clear hdr; generalize w.drew=w1 at M hwz OF ⊢; refine xrH 0 8 rfl (.pointer (some ⟨N,0,none⟩)) (fun _ ⟨_,M⟩=>(by kernel_rfl)) ⟨_,M⟩ ?_; refine xrH 1 9 rfl (.pointer (some ⟨N,0,none⟩)) (fun _ ⟨_,M⟩=>(by kernel_rfl)) ⟨_,M⟩ ?_
 refine xrH 2 10 rfl (.pointer (some ⟨N,1,none⟩)) (fun _ ⟨_,M⟩=>(by kernel_rfl)) ⟨_,M⟩ ?_; refine xrH 3 11 rfl (.pointer (some ⟨N,0,none⟩)) (fun _ ⟨_,M⟩=>(by kernel_rfl)) ⟨_,M⟩ ?_; refine xrH 4 12 rfl (.pointer (some ⟨N,0,none⟩)) (fun _ ⟨_,M⟩=>(by kernel_rfl)) ⟨_,M⟩ ?_; refine xrH 5 13 rfl (.pointer (some ⟨N,132,none⟩)) (fun _ ⟨_,M⟩=>(by kernel_rfl)) ⟨_,M⟩ ?_
 refine xrH 6 14 rfl (.pointer (some ⟨N,132,none⟩)) (fun _ ⟨_,M⟩=>(by kernel_rfl)) ⟨_,M⟩ ?_; refine xrH 7 15 rfl (.slice (some ⟨N,132,none⟩) 32 32) (fun _ ⟨_,M⟩=>cutAll 23 _ _ _ rfl rfl (by kernel_rfl)) ⟨_,M⟩ ?_
 refine callH (i:=8) (some 16) rfl (by kernel_rfl) rfl rfl (fun _=>by kernel_rfl) (mix32 w0 _ N _ _ _ s.st hg.s hw.st (some ⟨N,132,none⟩) 32 (by decide) (LD.pub s.drw) (LD_ok.len s.drw) (LD_ok.byt s.drw) (fun e=>by cases e) M (M.srcRow mS 132 32 (bl (LD.pub s.drw)) (flat_part _ [1,98,32,1,32,1,32,32,32,32] (by kernel_rfl) 4 132 _ rfl rfl))) ?_; rintro e w2 ⟨rfl,M',o1⟩; clear M
 have M:=M'; clear M'; replace hwz:=xnT hwz (Off.size o1); replace OF:=OF.and1 o1 (.inl (by simp)); clear o1
 refine ⟨_,rfl,⟨_,M⟩,?_⟩
 simp only [aP,lI,l0,lS]
 replace M:Mm w0 ((N,[[Value.int .i64 av],pcs12 (smix s.st (LD.pub s.drw)),row .u8 32 (bl (LD.pub s.sec)),[kfv A],row .u8 32 (bl (LD.pub s.drw)),[kfv D],row .u8 32 (bl s.its),row .u8 32 (bl s.drn),row .u8 32 (fun _=>0),row .u8 32 (fun _=>0)].flatten)::(A,row .u8 32 s.sec)::(D,row .u8 32 s.drw)::l) w2:=M
 refine wpAnyH_done (by kernel_rfl) ?_ _
 first | show Exit.then _ _ _ _ _ | show Exit.inBlock _ _ _ _ _
 have hw1:SymW (smix s.st (LD.pub s.drw)):=smix_w hw.st _
 go_upto_region 2 with fail
 refine wp_region_held_drew (S:=fun w'=>∃ (s1_:Sym),Mm w0 ((N,[[Value.int .i64 av],pcs12 s1_,row .u8 32 (bl (LD.pub s.sec)),[kfv A],row .u8 32 (bl (LD.pub s.drw)),[kfv D],row .u8 32 (bl s.its),row .u8 32 (bl s.drn),row .u8 32 (fun _=>0),row .u8 32 (fun _=>0)].flatten)::(A,row .u8 32 s.sec)::(D,row .u8 32 s.drw)::l) w') (by kernel_rfl) ⟨_,M.drew⟩ ?_; intro _
 replace M:=M.drew; have hdr:=(Below.refl w2.heap.size w2).drew; replace hwz:=xnT hwz hdr.size; replace OF:=OF.below hdr; clear hdr; generalize w2.drew=w3 at M hwz OF ⊢; refine xrH 0 17 rfl (.pointer (some ⟨N,0,none⟩)) (fun _ ⟨_,M⟩=>(by kernel_rfl)) ⟨_,M⟩ ?_; refine xrH 1 18 rfl (.pointer (some ⟨N,0,none⟩)) (fun _ ⟨_,M⟩=>(by kernel_rfl)) ⟨_,M⟩ ?_
 refine xrH 2 19 rfl (.pointer (some ⟨N,0,none⟩)) (fun _ ⟨_,M⟩=>(by kernel_rfl)) ⟨_,M⟩ ?_; refine xrH 3 20 rfl (.pointer (some ⟨N,132,none⟩)) (fun _ ⟨_,M⟩=>(by kernel_rfl)) ⟨_,M⟩ ?_
 refine xrH 4 21 rfl (.agg ([row .u8 32 (bl (LD.pub s.drw)),[kfv D]].flatten).toArray) (fun _ ⟨_,M⟩=>loadN 63 _ ⟨N,132,none⟩ ([row .u8 32 (bl (LD.pub s.drw)),[kfv D]].flatten) rfl rfl (fun _=>by kernel_rfl) (fun _=>by rw [flat_len _ [32,1] (by kernel_rfl)]; kernel_rfl) (M.part mS 132 _ (flat_mid [[Value.int .i64 av],_,row .u8 32 (bl (LD.pub s.sec)),[kfv A]] [row .u8 32 (bl (LD.pub s.drw)),[kfv D]] [row .u8 32 (bl s.its),row .u8 32 (bl s.drn),row .u8 32 (fun _=>0),row .u8 32 (fun _=>0)] 132 (by kernel_rfl)))) ⟨_,M⟩ ?_
 refine xrH 5 22 rfl (.pointer (some ⟨N,0,none⟩)) (fun _ ⟨_,M⟩=>(by kernel_rfl)) ⟨_,M⟩ ?_; refine xrH 6 23 rfl (.pointer (some ⟨N,0,none⟩)) (fun _ ⟨_,M⟩=>(by kernel_rfl)) ⟨_,M⟩ ?_; refine xrH 7 24 rfl (.pointer (some ⟨N,197,none⟩)) (fun _ ⟨_,M⟩=>(by kernel_rfl)) ⟨_,M⟩ ?_
 refine xrH 8 25 rfl (.agg (row .u8 32 (bl s.drn)).toArray) (fun _ ⟨_,M⟩=>loadN 23 _ ⟨N,197,none⟩ (row .u8 32 (bl s.drn)) rfl rfl (fun _=>by kernel_rfl) (fun _=>by rw [row32]; kernel_rfl) (M.part mS 197 _ (flat_part _ [1,98,32,1,32,1,32,32,32,32] (by kernel_rfl) 7 197 _ rfl rfl))) ⟨_,M⟩ ?_
 replace M:Mm w0 ((N,[[Value.int .i64 av],pcs12 (smix s.st (LD.pub s.drw)),row .u8 32 (bl (LD.pub s.sec)),[kfv A],row .u8 32 (bl (LD.pub s.drw)),[kfv D],row .u8 32 (bl s.its),row .u8 32 (bl s.drn),row .u8 32 (fun _=>0),row .u8 32 (fun _=>0)].flatten)::(A,row .u8 32 s.sec)::(D,row .u8 32 s.drw)::l) w3:=M
 refine callH (i:=9) (some 26) rfl (by kernel_rfl) rfl rfl (fun _=>by kernel_rfl) (kkey_any w0 _ N D _ _ _ (smix s.st (LD.pub s.drw)) hg hw1 (bl (LD.pub s.drw)) s.drw (bl s.drn) hw.drw (hw.drn.2.bl32 hw.drn.1) (mT _ mS) M) ?_; rintro e w4 ⟨rfl,M',o1⟩; clear M; have M:=M'; clear M'; replace hwz:=xnT hwz (Off.size o1); replace OF:=OF.and1 o1 (.inl (by simp)); clear o1
 refine ⟨_,rfl,⟨_,M⟩,?_⟩
 simp only [aP,lI,l0,lS]
 replace M:Mm w0 ((N,[[Value.int .i64 av],pcs12 (skd (smix s.st (LD.pub s.drw)) s.drw (bl s.drn)),row .u8 32 (bl (LD.pub s.sec)),[kfv A],row .u8 32 (bl (LD.pub s.drw)),[kfv D],row .u8 32 (bl s.its),row .u8 32 (bl s.drn),row .u8 32 (fun _=>0),row .u8 32 (fun _=>0)].flatten)::(A,row .u8 32 s.sec)::(D,row .u8 32 s.drw)::l) w4:=M
 refine xrH 10 6 rfl (.int .i64 (ekd s.drw (bl s.drn))) (fun _ ⟨_,M⟩=>(by kernel_rfl)) ⟨_,M⟩ ?_
 refine wpAnyH_done (by kernel_rfl) ?_ _
 first | show Exit.then _ _ _ _ _ | show Exit.inBlock _ _ _ _ _
 by_cases h1:tm s.drw (bl s.drn)=0
 · replace h1:=show Hid _ from h1
   go_upto_region 3 with fail; refine wp_region_list ?_; refine xpL (.int .i64 (ekd s.drw (bl s.drn))) ?_; refine xaL (.bool true) (neqI .i64 _ _ _ _ _ _ rfl rfl rfl true (by rw [ekd_zero h1.out]; rfl) _) ?_; refine xT ?_; go_upto_region 4 with fail; refine wp_region_list ?_; refine xpL (.int .i64 (ekd s.drw (bl s.drn))) ?_; refine xpL (.slice none 0 0) ?_
   refine xpL (.int .i64 (ekd s.drw (bl s.drn))) ?_; refine xT ?_; replace M:=M.rot3; replace M:=M.rot3; replace M:=M.rot3; have hE:=show Hid _ from shS_z1 hst.out hl h1.out; have h20:=show Hid _ from (ekd_zero h1.out); have HS:=show Hid _ from (And.intro M OF); clear M OF; go_wp2; go_ret2
   exact ⟨_,_,by rw [hE.out,h20.out]; rfl,fun h=>absurd h (by rw [hE.out]; decide),HS.out⟩
 · replace h1:=show Hid _ from h1
   go_upto_region 3 with fail; refine wp_region_list ?_; refine xpL (.int .i64 (ekd s.drw (bl s.drn))) ?_; refine xaL (.bool false) (neqI .i64 _ _ _ _ _ _ rfl rfl rfl false (by rw [ekd_pos h1.out]; rfl) _) ?_; refine xT ?_
   rw [skd_pos h1.out] at M
   have hw2:SymW (skey (smix s.st (LD.pub s.drw)) (lby (tm s.drw (bl s.drn)))):=skey_w hw1 _
   go_upto_region 5 with fail
   refine wp_region_held_drew (S:=fun w'=>∃ (s1_:Sym),Mm w0 ((N,[[Value.int .i64 av],pcs12 s1_,row .u8 32 (bl (LD.pub s.sec)),[kfv A],row .u8 32 (bl (LD.pub s.drw)),[kfv D],row .u8 32 (bl s.its),row .u8 32 (bl s.drn),row .u8 32 (fun _=>0),row .u8 32 (fun _=>0)].flatten)::(A,row .u8 32 s.sec)::(D,row .u8 32 s.drw)::l) w') (by kernel_rfl) ⟨_,M.drew⟩ ?_; intro _
   replace M:=M.drew; have hdr:=(Below.refl w4.heap.size w4).drew; replace hwz:=xnT hwz hdr.size; replace OF:=OF.below hdr; clear hdr; generalize w4.drew=w5 at M hwz OF ⊢; refine xrH 0 30 rfl (.pointer (some ⟨N,0,none⟩)) (fun _ ⟨_,M⟩=>(by kernel_rfl)) ⟨_,M⟩ ?_; refine xrH 1 31 rfl (.pointer (some ⟨N,0,none⟩)) (fun _ ⟨_,M⟩=>(by kernel_rfl)) ⟨_,M⟩ ?_
   refine xrH 2 32 rfl (.pointer (some ⟨N,0,none⟩)) (fun _ ⟨_,M⟩=>(by kernel_rfl)) ⟨_,M⟩ ?_; refine xrH 3 33 rfl (.pointer (some ⟨N,132,none⟩)) (fun _ ⟨_,M⟩=>(by kernel_rfl)) ⟨_,M⟩ ?_
   refine xrH 4 34 rfl (.agg ([row .u8 32 (bl (LD.pub s.drw)),[kfv D]].flatten).toArray) (fun _ ⟨_,M⟩=>loadN 63 _ ⟨N,132,none⟩ ([row .u8 32 (bl (LD.pub s.drw)),[kfv D]].flatten) rfl rfl (fun _=>by kernel_rfl) (fun _=>by rw [flat_len _ [32,1] (by kernel_rfl)]; kernel_rfl) (M.part mS 132 _ (flat_mid [[Value.int .i64 av],_,row .u8 32 (bl (LD.pub s.sec)),[kfv A]] [row .u8 32 (bl (LD.pub s.drw)),[kfv D]] [row .u8 32 (bl s.its),row .u8 32 (bl s.drn),row .u8 32 (fun _=>0),row .u8 32 (fun _=>0)] 132 (by kernel_rfl)))) ⟨_,M⟩ ?_
   refine xrH 5 35 rfl (.pointer (some ⟨N,0,none⟩)) (fun _ ⟨_,M⟩=>(by kernel_rfl)) ⟨_,M⟩ ?_; refine xrH 6 36 rfl (.pointer (some ⟨N,0,none⟩)) (fun _ ⟨_,M⟩=>(by kernel_rfl)) ⟨_,M⟩ ?_; refine xrH 7 37 rfl (.pointer (some ⟨N,165,none⟩)) (fun _ ⟨_,M⟩=>(by kernel_rfl)) ⟨_,M⟩ ?_
   refine xrH 8 38 rfl (.agg (row .u8 32 (bl s.its)).toArray) (fun _ ⟨_,M⟩=>loadN 23 _ ⟨N,165,none⟩ (row .u8 32 (bl s.its)) rfl rfl (fun _=>by kernel_rfl) (fun _=>by rw [row32]; kernel_rfl) (M.part mS 165 _ (flat_part _ [1,98,32,1,32,1,32,32,32,32] (by kernel_rfl) 6 165 _ rfl rfl))) ⟨_,M⟩ ?_
   replace M:Mm w0 ((N,[[Value.int .i64 av],pcs12 (skey (smix s.st (LD.pub s.drw)) (lby (tm s.drw (bl s.drn)))),row .u8 32 (bl (LD.pub s.sec)),[kfv A],row .u8 32 (bl (LD.pub s.drw)),[kfv D],row .u8 32 (bl s.its),row .u8 32 (bl s.drn),row .u8 32 (fun _=>0),row .u8 32 (fun _=>0)].flatten)::(A,row .u8 32 s.sec)::(D,row .u8 32 s.drw)::l) w5:=M
   refine callH (i:=9) (some 39) rfl (by kernel_rfl) rfl rfl (fun _=>by kernel_rfl) (kkey_any w0 _ N D _ _ _ (skey (smix s.st (LD.pub s.drw)) (lby (tm s.drw (bl s.drn)))) hg hw2 (bl (LD.pub s.drw)) s.drw (bl s.its) hw.drw (hw.its.2.bl32 hw.its.1) (mT _ mS) M) ?_; rintro e w6 ⟨rfl,M',o1⟩; clear M; have M:=M'; clear M'; replace hwz:=xnT hwz (Off.size o1)
   replace OF:=OF.and1 o1 (.inl (by simp)); clear o1
   refine ⟨_,rfl,⟨_,M⟩,?_⟩
   simp only [aP,lI,l0,lS]
   replace M:Mm w0 ((N,[[Value.int .i64 av],pcs12 (skd (skey (smix s.st (LD.pub s.drw)) (lby (tm s.drw (bl s.drn)))) s.drw (bl s.its)),row .u8 32 (bl (LD.pub s.sec)),[kfv A],row .u8 32 (bl (LD.pub s.drw)),[kfv D],row .u8 32 (bl s.its),row .u8 32 (bl s.drn),row .u8 32 (fun _=>0),row .u8 32 (fun _=>0)].flatten)::(A,row .u8 32 s.sec)::(D,row .u8 32 s.drw)::l) w6:=M
   refine xrH 10 7 rfl (.int .i64 (ekd s.drw (bl s.its))) (fun _ ⟨_,M⟩=>(by kernel_rfl)) ⟨_,M⟩ ?_
   refine wpAnyH_done (by kernel_rfl) ?_ _
   first | show Exit.then _ _ _ _ _ | show Exit.inBlock _ _ _ _ _
   by_cases h2:tm s.drw (bl s.its)=0
   · replace h2:=show Hid _ from h2
     go_upto_region 6 with fail; refine wp_region_list ?_; refine xpL (.int .i64 (ekd s.drw (bl s.its))) ?_; refine xaL (.bool true) (neqI .i64 _ _ _ _ _ _ rfl rfl rfl true (by rw [ekd_zero h2.out]; rfl) _) ?_; refine xT ?_; go_upto_region 7 with fail; refine wp_region_list ?_; refine xpL (.int .i64 (ekd s.drw (bl s.its))) ?_; refine xpL (.slice none 0 0) ?_
     refine xpL (.int .i64 (ekd s.drw (bl s.its))) ?_; refine xT ?_; replace M:=M.rot3; replace M:=M.rot3; replace M:=M.rot3; have hE:=show Hid _ from shS_z2 hst.out hl h1.out h2.out; have h20:=show Hid _ from (ekd_zero h2.out); have HS:=show Hid _ from (And.intro M OF); clear M OF; go_wp2; go_ret2
     exact ⟨_,_,by rw [hE.out,h20.out]; rfl,fun h=>absurd h (by rw [hE.out]; decide),HS.out⟩
   · replace h2:=show Hid _ from h2
     go_upto_region 6 with fail; refine wp_region_list ?_; refine xpL (.int .i64 (ekd s.drw (bl s.its))) ?_; refine xaL (.bool false) (neqI .i64 _ _ _ _ _ _ rfl rfl rfl false (by rw [ekd_pos h2.out]; rfl) _) ?_; refine xT ?_
     rw [skd_pos h2.out] at M
     have hw3:SymW (skey (skey (smix s.st (LD.pub s.drw)) (lby (tm s.drw (bl s.drn)))) (lby (tm s.drw (bl s.its)))):=skey_w hw2 _
     have hk3:(sout (skey (skey (smix s.st (LD.pub s.drw)) (lby (tm s.drw (bl s.drn)))) (lby (tm s.drw (bl s.its)))) b).length=b.length+16:=sout_len rfl b
     go_upto_region 8 with fail
     refine wp_region_held_drew (S:=fun w'=>∃ (s1_:Sym),Mm w0 ((N,[[Value.int .i64 av],pcs12 s1_,row .u8 32 (bl (LD.pub s.sec)),[kfv A],row .u8 32 (bl (LD.pub s.drw)),[kfv D],row .u8 32 (bl s.its),row .u8 32 (bl s.drn),row .u8 32 (fun _=>0),row .u8 32 (fun _=>0)].flatten)::(A,row .u8 32 s.sec)::(D,row .u8 32 s.drw)::l) w') (by kernel_rfl) ⟨_,M.drew⟩ ?_; intro _
     replace M:=M.drew; have hdr:=(Below.refl w6.heap.size w6).drew; replace hwz:=xnT hwz hdr.size; replace OF:=OF.below hdr; clear hdr; generalize w6.drew=w7 at M hwz OF ⊢; refine xrH 0 43 rfl (.pointer (some ⟨N,0,none⟩)) (fun _ ⟨_,M⟩=>(by kernel_rfl)) ⟨_,M⟩ ?_; refine xrH 1 44 rfl (.pointer (some ⟨N,0,none⟩)) (fun _ ⟨_,M⟩=>(by kernel_rfl)) ⟨_,M⟩ ?_
     refine xrH 2 45 rfl (.pointer (some ⟨N,132,none⟩)) (fun _ ⟨_,M⟩=>(by kernel_rfl)) ⟨_,M⟩ ?_; refine xrH 3 46 rfl (.pointer (some ⟨N,132,none⟩)) (fun _ ⟨_,M⟩=>(by kernel_rfl)) ⟨_,M⟩ ?_; refine xrH 4 47 rfl (.slice (some ⟨N,132,none⟩) 32 32) (fun _ ⟨_,M⟩=>cutAll 23 _ _ _ rfl rfl (by kernel_rfl)) ⟨_,M⟩ ?_
     refine xrH 5 48 rfl (.pointer (some ⟨N,0,none⟩)) (fun _ ⟨_,M⟩=>(by kernel_rfl)) ⟨_,M⟩ ?_; refine xrH 6 49 rfl (.pointer (some ⟨N,0,none⟩)) (fun _ ⟨_,M⟩=>(by kernel_rfl)) ⟨_,M⟩ ?_; refine xrH 7 50 rfl (.pointer (some ⟨N,1,none⟩)) (fun _ ⟨_,M⟩=>(by kernel_rfl)) ⟨_,M⟩ ?_; refine xrH 8 51 rfl (.slice sp b.length cap) (fun _ ⟨_,M⟩=>(by kernel_rfl)) ⟨_,M⟩ ?_
     refine callH (i:=9) (some 52) rfl (by kernel_rfl) rfl rfl (fun _=>by kernel_rfl) (vseal13_any w0 _ N _ _ _ (skey (skey (smix s.st (LD.pub s.drw)) (lby (tm s.drw (bl s.drn)))) (lby (tm s.drw (bl s.its)))) hg.s hw3 (show (0:Nat)<4611686018427387904 by decide) sp cap b (by omega) hcap hnil hb M (hs.off OF).1) ?_; rintro e w8 ⟨⟨v8,rfl,Nq_⟩,M',o1⟩; have N_8:=NewF.lower Nq_ hwz
     clear Nq_; clear M; have M:=M'; clear M'; replace hwz:=xnT hwz (Off.size o1); replace OF:=OF.and1 o1 (.inl (by simp)); clear o1
     obtain ⟨p8,c8,rfl,hcc_8,hnn_8,_,_⟩:=id N_8
     refine ⟨_,rfl,⟨_,M⟩,?_⟩
     simp only [aP,lI,l0,lS]
     replace M:Mm w0 ((N,[[Value.int .i64 av],pcs12 (sseal (skey (skey (smix s.st (LD.pub s.drw)) (lby (tm s.drw (bl s.drn)))) (lby (tm s.drw (bl s.its)))) b),row .u8 32 (bl (LD.pub s.sec)),[kfv A],row .u8 32 (bl (LD.pub s.drw)),[kfv D],row .u8 32 (bl s.its),row .u8 32 (bl s.drn),row .u8 32 (fun _=>0),row .u8 32 (fun _=>0)].flatten)::(A,row .u8 32 s.sec)::(D,row .u8 32 s.drw)::l) w8:=M
     have HC:=catIn2 w8.heap.size (some ⟨N,132,none⟩) p8 32 ((sout (skey (skey (smix s.st (LD.pub s.drw)) (lby (tm s.drw (bl s.drn)))) (lby (tm s.drw (bl s.its)))) b).length) 32 c8 (bl (LD.pub s.drw)) (bl (sout (skey (skey (smix s.st (LD.pub s.drw)) (lby (tm s.drw (bl s.drn)))) (lby (tm s.drw (bl s.its)))) b)) 32 rfl (M.srcRow mS 132 32 (bl (LD.pub s.drw)) (flat_part _ [1,98,32,1,32,1,32,32,32,32] (by kernel_rfl) 4 132 _ rfl rfl)) (NewF.src N_8) (fun e=>by cases e) hnn_8
     have hlb:=(Below.refl w8.heap.size w8).alloc (xnR _) (.cells #[.slice (some ⟨N,132,none⟩) 32 32,.slice p8 ((sout (skey (skey (smix s.st (LD.pub s.drw)) (lby (tm s.drw (bl s.drn)))) (lby (tm s.drw (bl s.its)))) b).length) c8] 32); replace M:=M.call hlb
     refine onlyH (i:=10) (w':=w8.alloc (.cells #[.slice (some ⟨N,132,none⟩) 32 32,.slice p8 ((sout (skey (skey (smix s.st (LD.pub s.drw)) (lby (tm s.drw (bl s.drn)))) (lby (tm s.drw (bl s.its)))) b).length) c8] 32)) (some 53) rfl (.slice (some ⟨w8.heap.size,0,none⟩) 2 2) (by kernel_rfl) rfl rfl (by kernel_rfl) ⟨_,M⟩ ?_; simp only [aP,lI,l0,lS]; replace hwz:=xnT hwz hlb.size
     replace OF:=OF.below hlb; replace N_8:=NewF.below N_8 hlb; clear hlb; generalize w8.alloc (.cells #[.slice (some ⟨N,132,none⟩) 32 32,.slice p8 ((sout (skey (skey (smix s.st (LD.pub s.drw)) (lby (tm s.drw (bl s.drn)))) (lby (tm s.drw (bl s.its)))) b).length) c8] 32)=w9 at M HC hwz OF N_8 ⊢; generalize hC:w8.heap.size=C at HC ⊢; clear hC
     refine callH (i:=11) (some 54) rfl (by kernel_rfl) rfl rfl (fun _=>by kernel_rfl) (concat_any ⟨C,0,none⟩ 2 2 _ _ _ _ (by decide) (by rw [tot2]; omega) _ HC) ?_; rintro e w10 ⟨v10,rfl,hO,l⟩
     have N_10:NewL w10 w.heap.size ((LD.pub s.drw)++(sout (skey (skey (smix s.st (LD.pub s.drw)) (lby (tm s.drw (bl s.drn)))) (lby (tm s.drw (bl s.its)))) b)) v10:=NewF.lower (newL_cat2 (LD_ok.len s.drw) hO) hwz
     replace M:=M.call l; replace hwz:=xnT hwz l.size; replace OF:=OF.below l; replace N_8:=NewF.below N_8 l; clear l hO HC
     obtain ⟨p10,c10,rfl,hcc_10,hnn_10,_,_⟩:=id N_10
     refine ⟨_,rfl,⟨_,M⟩,?_⟩
     simp only [aP,lI,l0,lS]; refine xrH 12 4 rfl (.slice p10 (((LD.pub s.drw)++(sout (skey (skey (smix s.st (LD.pub s.drw)) (lby (tm s.drw (bl s.drn)))) (lby (tm s.drw (bl s.its)))) b)).length) c10) (fun _ ⟨_,M⟩=>(by kernel_rfl)) ⟨_,M⟩ ?_; refine xrH 13 5 rfl (.int .i64 0) (fun _ ⟨_,M⟩=>(by kernel_rfl)) ⟨_,M⟩ ?_
     refine wpAnyH_done (by kernel_rfl) ?_ _
     first | show Exit.then _ _ _ _ _ | show Exit.inBlock _ _ _ _ _
     replace M:=M.rot3; replace M:=M.rot3; replace M:=M.rot3; have hE:=show Hid _ from (shS_eq (L:=LD) (s:=s) (t:=b) (Decidable.not_not.1 (not_or.1 hst.out).1) (Decidable.not_not.1 (not_or.1 hst.out).2) (by omega) (LD_some h1.out) (LD_some h2.out)); have HS:=show Hid _ from (And.intro N_10 (And.intro M OF)); clear M OF N_10 hk3
     generalize (Value.slice p10 (((LD.pub s.drw)++(sout (skey (skey (smix s.st (LD.pub s.drw)) (lby (tm s.drw (bl s.drn)))) (lby (tm s.drw (bl s.its)))) b)).length) c10)=u_ at HS ⊢; go_wp2; go_ret2
     exact ⟨_,_,by rw [hE.out]; rfl,fun _=>⟨by rw [hE.out]; exact HS.out.1,by rw [hE.out]; rfl⟩,HS.out.2⟩
theorem cut_lhA {P:Program} {t:TypeId} (ht:P.underlying t=some (.slice (P.elem t))) (hsz:∀ w,(sizeOf (P.elem t)).run P w=.ok 1 w) (sp:Option Addr) (len cap l h:Nat) (hl:l≤h) (hh:h≤len) (hc:len≤cap) (hn:sp=none→cap=0) :
 ∃ sp',(∀ w,(Instr.sliceAt t (.slice sp len cap) (some (.int .i64 (l:Int))) (some (.int .i64 (h:Int))) none).run P w=.ok (.slice sp' (h-l) (cap-l)) w)∧(∀ X w z,SrcA X w sp len z→SrcA X w sp' (h-l) (fun j=>z (l+j)))∧(sp'=none→cap-l=0):=by
 refine ⟨if cap=l then sp else sp.map (·.add (l*1)),fun w=>?_,fun X w z h=>⟨fun j hj=>?_,fun ad e hp=>?_⟩,fun e=>?_⟩
 · rw [run_sliceAt_slice w t _ _ _ _ ht,run_slice_lh w t sp len cap ht .i64 .i64 (l:Int) (h:Int) (by omega) (by omega) (by omega),hsz]
   simp only [Result.andThen,sliced,Int.toNat_natCast]
 · obtain ⟨ad,rfl,hc'⟩:=h.1 (l+j) (by omega)
   rw [if_neg (by omega)]
   exact ⟨ad.add (l*1),rfl,by rw [Nat.mul_one,Addr.add_add]; exact hc'⟩
 · rw [if_neg (by omega)] at e
   cases sp with
   | none=>cases e
   | some a =>
     injection e with e
     subst e
     rw [add_block]
     exact h.2 a rfl (by omega)
 · by_cases hm:cap=l
   · omega
   · rw [if_neg hm] at e
     cases sp with
     | none=>have:=hn rfl; omega
     | some ad=>cases e
theorem SrcA.congr {X:List Nat} {w:World} {sp:Option Addr} {n:Nat} {f g:Nat→Int} (h:SrcA X w sp n f) (he:∀ j,j<n→f j=g j):SrcA X w sp n g:=⟨fun j hj=>by rw [← he j hj]; exact h.1 j hj,h.2⟩
theorem bl_dropA (b:List Int) (o j:Nat):bl b (o+j)=bl (b.drop o) j:=by unfold bl; rw [List.getD_eq_getElem?_getD,List.getD_eq_getElem?_getD,List.getElem?_drop]
theorem bl_takeA (b:List Int) (n j:Nat) (h:j<n):bl b j=bl (b.take n) j:=by unfold bl; rw [List.getD_eq_getElem?_getD,List.getD_eq_getElem?_getD,List.getElem?_take_of_lt h]
theorem soT_len {s:Sym} {b:List Int} (hs:s.has=true) (h:soE s b=0):(soT s b).length=b.length-16:=by
 rw [soE_key hs] at h
 rw [soT_key hs,List.length_map,List.length_range]
 have:aok s.k (snz s.n) 32 s.h b.length (bl b):=Decidable.byContradiction fun hn=>by
  unfold aoE at h
  rw [if_neg hn] at h
  split at h <;> cases h
 unfold aoL
 rw [if_pos this]
theorem soT_byts {s:Sym} {b:List Int} (hb:Byts b):Byts (soT s b):=by
 unfold soT
 split
 · intro x hx
   obtain ⟨j,hj,rfl⟩:=List.mem_map.1 hx
   have hj:=List.mem_range.1 hj
   exact hxor_in s.k 1 (snz s.n) (bl b) b.length hb.bl j (xnL hj (by unfold aoL; split <;> omega))
 · exact hb
theorem shTF_state {s:Shk} {b:List Int} (h:s.role≠1∨s.step≠0):shTF LD s b=.error 4:=by unfold shTF; rw [if_pos h]
theorem shTF_short {s:Shk} {b:List Int} (h:¬ (s.role≠1∨s.step≠0)) (h1:b.length<96):shTF LD s b=.error 3:=by unfold shTF; rw [if_neg h,if_pos h1]
theorem shTF_long {s:Shk} {b:List Int} (h:¬ (s.role≠1∨s.step≠0)) (h1:¬ b.length<96) (h2:224<b.length):shTF LD s b=.error 2:=by unfold shTF; rw [if_neg h,if_neg h1,if_pos h2]
theorem shTF_z1 {s:Shk} {b:List Int} (h:¬ (s.role≠1∨s.step≠0)) (h1:¬ b.length<96) (h2:¬ 224<b.length) (k1:tm s.sec (bl (b.take 32))=0):shTF LD s b=.error 20:=by unfold shTF; rw [if_neg h,if_neg h1,if_neg h2,LD_none k1]
theorem shTF_b1 {s:Shk} {b:List Int} (h:¬ (s.role≠1∨s.step≠0)) (h1:¬ b.length<96) (h2:¬ 224<b.length) (k1:¬ tm s.sec (bl (b.take 32))=0) {x:Sym} (hx:x=skey (smix s.st (b.take 32)) (lby (tm s.sec (bl (b.take 32))))) (k2:¬ soE x ((b.drop 32).take 48)=0):shTF LD s b=.error (soE x ((b.drop 32).take 48)):=by
 subst hx
 unfold shTF
 rw [if_neg h,if_neg h1,if_neg h2,LD_some k1]
 exact if_pos k2
theorem shTF_z2 {s:Shk} {b:List Int} (h:¬ (s.role≠1∨s.step≠0)) (h1:¬ b.length<96) (h2:¬ 224<b.length) (k1:¬ tm s.sec (bl (b.take 32))=0) {x:Sym} (hx:x=skey (smix s.st (b.take 32)) (lby (tm s.sec (bl (b.take 32))))) (k2:soE x ((b.drop 32).take 48)=0) (k3:tm s.sec (bl (soT x ((b.drop 32).take 48)))=0):shTF LD s b=.error 20:=by
 subst hx
 unfold shTF
 rw [if_neg h,if_neg h1,if_neg h2,LD_some k1]
 simp only
 rw [if_neg (not_not_intro k2),LD_none k3]
theorem shTF_b2 {s:Shk} {b:List Int} (h:¬ (s.role≠1∨s.step≠0)) (h1:¬ b.length<96) (h2:¬ 224<b.length) (k1:¬ tm s.sec (bl (b.take 32))=0) {x y:Sym} (hx:x=skey (smix s.st (b.take 32)) (lby (tm s.sec (bl (b.take 32))))) (k2:soE x ((b.drop 32).take 48)=0) (k3:¬ tm s.sec (bl (soT x ((b.drop 32).take 48)))=0) (hy:y=skey (sopen x ((b.drop 32).take 48)) (lby (tm s.sec (bl (soT x ((b.drop 32).take 48)))))) (k4:¬ soE y (b.drop 80)=0):shTF LD s b=.error (soE y (b.drop 80)):=by
 subst hy hx
 unfold shTF
 rw [if_neg h,if_neg h1,if_neg h2,LD_some k1]
 simp only
 rw [if_neg (not_not_intro k2),LD_some k3]
 exact if_pos k4
theorem shTF_ok {s:Shk} {b:List Int} (h:¬ (s.role≠1∨s.step≠0)) (h1:¬ b.length<96) (h2:¬ 224<b.length) (k1:¬ tm s.sec (bl (b.take 32))=0) {x y:Sym} (hx:x=skey (smix s.st (b.take 32)) (lby (tm s.sec (bl (b.take 32))))) (k2:soE x ((b.drop 32).take 48)=0) (k3:¬ tm s.sec (bl (soT x ((b.drop 32).take 48)))=0) (hy:y=skey (sopen x ((b.drop 32).take 48)) (lby (tm s.sec (bl (soT x ((b.drop 32).take 48)))))) (k4:soE y (b.drop 80)=0):shTF LD s b=.ok (soT y (b.drop 80),{ s with st:=sopen y (b.drop 80),its:=soT x ((b.drop 32).take 48),drn:=b.take 32,step:=1 }):=by
 subst hy hx
 unfold shTF
 rw [if_neg h,if_neg h1,if_neg h2,LD_some k1]
 simp only
 rw [if_neg (not_not_intro k2),LD_some k3]
 exact if_neg (not_not_intro k4)
theorem shTS_state {s:Shk} {b:List Int} (h:s.role≠0∨s.step≠1):shTS LD s b=.error 4:=by unfold shTS; rw [if_pos h]
theorem shTS_short {s:Shk} {b:List Int} (h:¬ (s.role≠0∨s.step≠1)) (h1:b.length<48):shTS LD s b=.error 3:=by unfold shTS; rw [if_neg h,if_pos h1]
theorem shTS_long {s:Shk} {b:List Int} (h:¬ (s.role≠0∨s.step≠1)) (h1:¬ b.length<48) (h2:176<b.length):shTS LD s b=.error 2:=by unfold shTS; rw [if_neg h,if_neg h1,if_pos h2]
theorem shTS_z1 {s:Shk} {b:List Int} (h:¬ (s.role≠0∨s.step≠1)) (h1:¬ b.length<48) (h2:¬ 176<b.length) (k1:tm s.drw (bl (b.take 32))=0):shTS LD s b=.error 20:=by unfold shTS; rw [if_neg h,if_neg h1,if_neg h2,LD_none k1]
theorem shTS_z2 {s:Shk} {b:List Int} (h:¬ (s.role≠0∨s.step≠1)) (h1:¬ b.length<48) (h2:¬ 176<b.length) (k1:¬ tm s.drw (bl (b.take 32))=0) (k2:tm s.sec (bl (b.take 32))=0):shTS LD s b=.error 20:=by unfold shTS; rw [if_neg h,if_neg h1,if_neg h2,LD_some k1,LD_none k2]
theorem shTS_bad {s:Shk} {b:List Int} (h:¬ (s.role≠0∨s.step≠1)) (h1:¬ b.length<48) (h2:¬ 176<b.length) (k1:¬ tm s.drw (bl (b.take 32))=0) (k2:¬ tm s.sec (bl (b.take 32))=0) {x:Sym} (hx:x=skey (skey (smix s.st (b.take 32)) (lby (tm s.drw (bl (b.take 32))))) (lby (tm s.sec (bl (b.take 32))))) (k3:¬ soE x (b.drop 32)=0):shTS LD s b=.error (soE x (b.drop 32)):=by
 subst hx
 unfold shTS
 rw [if_neg h,if_neg h1,if_neg h2,LD_some k1,LD_some k2]
 exact if_pos k3
theorem shTS_ok {s:Shk} {b:List Int} (h:¬ (s.role≠0∨s.step≠1)) (h1:¬ b.length<48) (h2:¬ 176<b.length) (k1:¬ tm s.drw (bl (b.take 32))=0) (k2:¬ tm s.sec (bl (b.take 32))=0) {x:Sym} (hx:x=skey (skey (smix s.st (b.take 32)) (lby (tm s.drw (bl (b.take 32))))) (lby (tm s.sec (bl (b.take 32))))) (k3:soE x (b.drop 32)=0):shTS LD s b=.ok (soT x (b.drop 32),{ s with st:=sopen x (b.drop 32),step:=2 }):=by
 subst hx
 unfold shTS
 rw [if_neg h,if_neg h1,if_neg h2,LD_some k1,LD_some k2]
 exact if_neg (not_not_intro k3)
end Go.Proofs.YtklnibmfpcmeeaaGreatDoor
