/- Texts of Ke Zh Kf, joined. -/
import Derived.Test.YtknodlefhclijaaGreatDoorP16ShakePlays
set_option maxRecDepth 20000
set_option maxHeartbeats 64000000
namespace Go.Proofs.YtknodlefhclijaaGreatDoor
open Go.RowKit
def InP (w0 w:World) (N A D:Nat) (l:List (Nat × List Value)) (av:Int) (s:Shk) (x:Except Int (List Int × Shk)) (e:Ending) (w':World):Prop :=
 ∃ u cs,e=.returned (.tuple #[u,.int .i64 (shE x)])∧(shE x=0→vA w' w.heap.size (shB x) u∧cs=kcs av (shN s x) A D)∧Mm w0 ((N,cs)::(A,row .u8 32 s.sec)::(D,row .u8 32 s.drw)::l) w'∧Off [N] w w'
def q2a (F:FuncId) (r:Shk→List Int→Except Int (List Int × Shk)) (g:Shk→List Int→Prop):Prop :=
 ∀ (w0 w:World) (N A D:Nat) (l:List (Nat × List Value)) (av:Int) (s:Shk),HGlob13 w0→yY s→∀ (sp:Option Addr) (cap:Nat) (b:List Int),g s b→b.length≤cap→(sp=none→cap=0)→Byts b →
  Mm w0 ((N,kcs av s A D)::(A,row .u8 32 s.sec)::(D,row .u8 32 s.drw)::l) w→SrcA [N] w sp b.length (bl b) →
  Calls Tryz.prog F #[.pointer (some ⟨N,0,none⟩),.slice sp b.length cap] w (InP w0 w N A D l av s (r s b))
theorem q0u {w:World} {base n:Nat} {a b:List Int} {v:Value} (hn:a.length=n) (h:Own w base 5 .u8 (tot (pk2 n b.length) 2) (j2h (pk2 n b.length) (pk2 (bl a) (bl b)) 2) v):vA w base (a++b) v:=by
 subst hn
 rw [j9z] at h
 unfold vA
 rw [List.length_append]
 exact NewF.of_own (h.congr fun j _=>by rw [q6a,lE])
theorem q0t {w:World} {base n:Nat} {a b c:List Int} {v:Value} (hn:a.length=n) (h:Own w base 5 .u8 (tot (pk3 n b.length c.length) 3) (j2h (pk3 n b.length c.length) (pk3 (bl a) (bl b) (bl c)) 3) v):vA w base (a++(b++c)) v:=by
 subst hn
 rw [j9y] at h
 unfold vA
 rw [← List.append_assoc,List.length_append,List.length_append]
 exact NewF.of_own (h.congr fun j _=>by
  rw [x5s,← lE,List.length_append]; unfold app; split
  · exact lE a b j
  rfl)
theorem j1u:q2a 33 (shF LD) (fun s b=>¬ (s.role≠0∨s.step≠0)∧¬ 128<b.length):=by
 intro w0 w N A D l av s hg hw sp cap b ⟨hst,hl⟩ hcap hnil hb M hs; have hNw:=M.lt mS; replace hst:=show Hid _ from hst; have hwz:=xnR w.heap.size; have OF:=Off.refl [N] w
 replace M:Mm w0 ((N,qF av s.st (bl (LD.pub s.sec)) (kfv A) (bl (LD.pub s.drw)) (kfv D) (bl s.its) (bl s.drn) (fun _=>0) (fun _=>0))::(A,row .u8 32 s.sec)::(D,row .u8 32 s.drw)::l) w:=M
 go_enter Tryz.func33,Tryz.ntmps33
 go_upto_region 0 with fail; refine wR (xm2 ?_); refine xT ?_; go_upto_region 1 with fail
 refine wD (S:=fun w'=>∃ (s1_:Sym),Mm w0 ((N,qF av s1_ (bl (LD.pub s.sec)) (kfv A) (bl (LD.pub s.drw)) (kfv D) (bl s.its) (bl s.drn) (fun _=>0) (fun _=>0))::(A,row .u8 32 s.sec)::(D,row .u8 32 s.drw)::l) w') JU ⟨_,M.drew⟩ ?_; intro _
 replace M:=M.drew; have hdr:=(Below.refl w.heap.size w).drew; replace hwz:=xnT hwz hdr.size; replace OF:=OF.below hdr; clear hdr; generalize w.drew=w1 at M hwz OF ⊢; refine xmH 0 9 ⟨_,M⟩ ?_; refine xrH 1 10 rfl (.pointer (some ⟨N,0,none⟩)) (fun _ ⟨_,M⟩=>JU) ⟨_,M⟩ ?_
 refine xrH 2 11 rfl (.pointer (some ⟨N,1,none⟩)) (fun _ ⟨_,M⟩=>JU) ⟨_,M⟩ ?_; refine xmH 3 12 ⟨_,M⟩ ?_; refine xrH 4 13 rfl (.pointer (some ⟨N,0,none⟩)) (fun _ ⟨_,M⟩=>JU) ⟨_,M⟩ ?_; refine xrH 5 14 rfl (.pointer (some ⟨N,132,none⟩)) (fun _ ⟨_,M⟩=>JU) ⟨_,M⟩ ?_
 refine xrH 6 15 rfl (.pointer (some ⟨N,132,none⟩)) (fun _ ⟨_,M⟩=>JU) ⟨_,M⟩ ?_; refine xrH 7 16 rfl (.slice (some ⟨N,132,none⟩) 32 32) Yi ⟨_,M⟩ ?_
 refine yaH 8 17 (j8p w0 _ N _ _ _ s.st hg.s hw.st (some ⟨N,132,none⟩) 32 JG (LD.pub s.drw) (yU s.drw) (uJ s.drw) Jq M (M.srcRow mS 132 32 (bl (LD.pub s.drw)) (qU _ [1,98,32,1,32,1,32,32,32,32] JU 4 132 _ rfl rfl))) ?_; rintro e w2 ⟨rfl,M',o1⟩; clear M
 have M:=M'; clear M'; replace hwz:=xnT hwz (Off.size o1); replace OF:=OF.and1 o1 (.inl Jf); clear o1
 refine ⟨_,rfl,⟨_,M⟩,nH ?_⟩
 refine wE JU ?_ _
 first | show Exit.then _ _ _ _ _ | show Exit.inBlock _ _ _ _ _
 have hw1:SymW (jU s.st (LD.pub s.drw)):=uF hw.st _
 go_upto_region 2 with fail
 refine wD (S:=fun w'=>∃ (s1_:Sym),Mm w0 ((N,qF av s1_ (bl (LD.pub s.sec)) (kfv A) (bl (LD.pub s.drw)) (kfv D) (bl s.its) (bl s.drn) (fun _=>0) (fun _=>0))::(A,row .u8 32 s.sec)::(D,row .u8 32 s.drw)::l) w') JU ⟨_,M.drew⟩ ?_; intro _
 replace M:=M.drew; have hdr:=(Below.refl w2.heap.size w2).drew; replace hwz:=xnT hwz hdr.size; replace OF:=OF.below hdr; clear hdr; generalize w2.drew=w3 at M hwz OF ⊢; refine xmH 0 18 ⟨_,M⟩ ?_; refine xmH 1 19 ⟨_,M⟩ ?_
 refine xrH 2 20 rfl (.pointer (some ⟨N,0,none⟩)) (fun _ ⟨_,M⟩=>JU) ⟨_,M⟩ ?_; refine xrH 3 21 rfl (.pointer (some ⟨N,132,none⟩)) (fun _ ⟨_,M⟩=>JU) ⟨_,M⟩ ?_
 refine xrH 4 22 rfl (.agg ([row .u8 32 (bl (LD.pub s.drw)),[kfv D]].flatten).toArray) Yf ⟨_,M⟩ ?_
 refine xmH 5 23 ⟨_,M⟩ ?_; refine xrH 6 24 rfl (.pointer (some ⟨N,0,none⟩)) (fun _ ⟨_,M⟩=>JU) ⟨_,M⟩ ?_; refine xrH 7 25 rfl (.pointer (some ⟨N,165,none⟩)) (fun _ ⟨_,M⟩=>JU) ⟨_,M⟩ ?_
 refine xrH 8 26 rfl _ Yz ⟨_,M⟩ ?_
 refine yaH 9 27 (vL w0 _ N D _ _ _ (jU s.st (LD.pub s.drw)) hg hw1 (bl (LD.pub s.drw)) s.drw (bl s.its) hw.drw (hw.its.2.bl32 hw.its.1) (mT _ mS) M) ?_; rintro e w4 ⟨rfl,M',o1⟩; clear M; have M:=M'; clear M'; replace hwz:=xnT hwz (Off.size o1); replace OF:=OF.and1 o1 (.inl Jf); clear o1
 refine ⟨_,rfl,⟨_,M⟩,nH ?_⟩
 refine xmH 10 6 ⟨_,M⟩ ?_
 refine wE JU ?_ _
 first | show Exit.then _ _ _ _ _ | show Exit.inBlock _ _ _ _ _
 by_cases h1:tm s.drw (bl s.its)=0
 · replace h1:=show Hid _ from h1
   go_upto_region 3 with fail; refine wR (xmL ?_); refine xaL (.bool true) (xE .i64 _ _ _ _ _ _ rfl rfl rfl true Yy _) (xT ?_); go_upto_region 4 with fail; refine wR (xm2 ?_); refine xmL (xT ?_); replace M:=M.rot3; replace M:=M.rot3; replace M:=M.rot3; have hE:=show Hid _ from bP hst.out hl h1.out; exact Xf
 replace h1:=show Hid _ from h1
 go_upto_region 3 with fail; refine wR (xmL ?_); refine xaL (.bool false) (xE .i64 _ _ _ _ _ _ rfl rfl rfl false Vd _) (xT ?_)
 rw [zM h1.out] at M
 have hw2:SymW (jZ (jU s.st (LD.pub s.drw)) (lby (tm s.drw (bl s.its)))):=yM hw1 _
 have hk2:(qG (jZ (jU s.st (LD.pub s.drw)) (lby (tm s.drw (bl s.its)))) (LD.pub s.sec)).length=48:=by rw [zE rfl,yU]
 go_upto_region 5 with fail
 refine wD (S:=fun w'=>∃ (s1_:Sym),Mm w0 ((N,qF av s1_ (bl (LD.pub s.sec)) (kfv A) (bl (LD.pub s.drw)) (kfv D) (bl s.its) (bl s.drn) (fun _=>0) (fun _=>0))::(A,row .u8 32 s.sec)::(D,row .u8 32 s.drw)::l) w') JU ⟨_,M.drew⟩ ?_; intro _
 replace M:=M.drew; have hdr:=(Below.refl w4.heap.size w4).drew; replace hwz:=xnT hwz hdr.size; replace OF:=OF.below hdr; clear hdr; generalize w4.drew=w5 at M hwz OF ⊢; refine xmH 0 31 ⟨_,M⟩ ?_; refine xrH 1 32 rfl (.pointer (some ⟨N,0,none⟩)) (fun _ ⟨_,M⟩=>JU) ⟨_,M⟩ ?_
 refine xrH 2 33 rfl (.pointer (some ⟨N,1,none⟩)) (fun _ ⟨_,M⟩=>JU) ⟨_,M⟩ ?_; refine xmH 3 34 ⟨_,M⟩ ?_; refine xrH 4 35 rfl (.pointer (some ⟨N,0,none⟩)) (fun _ ⟨_,M⟩=>JU) ⟨_,M⟩ ?_; refine xrH 5 36 rfl (.pointer (some ⟨N,99,none⟩)) (fun _ ⟨_,M⟩=>JU) ⟨_,M⟩ ?_
 refine xrH 6 37 rfl (.pointer (some ⟨N,99,none⟩)) (fun _ ⟨_,M⟩=>JU) ⟨_,M⟩ ?_; refine xrH 7 38 rfl (.slice (some ⟨N,99,none⟩) 32 32) Yi ⟨_,M⟩ ?_
 refine yaH 8 39 (x1w w0 _ N _ _ _ (jZ (jU s.st (LD.pub s.drw)) (lby (tm s.drw (bl s.its)))) hg.s hw2 (show (0:Nat)<4611686018427387904 by decide) (some ⟨N,99,none⟩) 32 JG (LD.pub s.sec) (yU s.sec) (uJ s.sec) Jq M (M.srcRow mS 99 32 (bl (LD.pub s.sec)) (qU _ [1,98,32,1,32,1,32,32,32,32] JU 2 99 _ rfl rfl))) ?_
 rintro e w6 ⟨⟨v6,rfl,Nq_⟩,M',o1⟩; have N_6:=NewF.lower Nq_ hwz; clear Nq_; clear M; have M:=M'; clear M'; replace hwz:=xnT hwz (Off.size o1); replace OF:=OF.and1 o1 (.inl Jf); clear o1
 obtain ⟨p6,c6,rfl,hcc_6,hnn_6,_,_⟩:=id N_6
 refine ⟨_,rfl,⟨_,M⟩,nH ?_⟩
 refine xmH 9 7 ⟨_,M⟩ ?_
 refine wE JU ?_ _
 first | show Exit.then _ _ _ _ _ | show Exit.inBlock _ _ _ _ _
 have hw3:SymW (qN (jZ (jU s.st (LD.pub s.drw)) (lby (tm s.drw (bl s.its)))) (LD.pub s.sec)):=rK hw2 _
 go_upto_region 6 with fail
 refine wD (S:=fun w'=>∃ (s1_:Sym),Mm w0 ((N,qF av s1_ (bl (LD.pub s.sec)) (kfv A) (bl (LD.pub s.drw)) (kfv D) (bl s.its) (bl s.drn) (fun _=>0) (fun _=>0))::(A,row .u8 32 s.sec)::(D,row .u8 32 s.drw)::l) w') JU ⟨_,M.drew⟩ ?_; intro _
 replace M:=M.drew; have hdr:=(Below.refl w6.heap.size w6).drew; replace hwz:=xnT hwz hdr.size; replace OF:=OF.below hdr; replace N_6:=NewF.below N_6 hdr; clear hdr; generalize w6.drew=w7 at M hwz OF N_6 ⊢; refine xmH 0 40 ⟨_,M⟩ ?_
 refine xmH 1 41 ⟨_,M⟩ ?_; refine xrH 2 42 rfl (.pointer (some ⟨N,0,none⟩)) (fun _ ⟨_,M⟩=>JU) ⟨_,M⟩ ?_; refine xrH 3 43 rfl (.pointer (some ⟨N,99,none⟩)) (fun _ ⟨_,M⟩=>JU) ⟨_,M⟩ ?_
 refine xrH 4 44 rfl (.agg ([row .u8 32 (bl (LD.pub s.sec)),[kfv A]].flatten).toArray) (fun _ ⟨_,M⟩=>jD 59 _ ⟨N,99,none⟩ ([row .u8 32 (bl (LD.pub s.sec)),[kfv A]].flatten) rfl rfl JW UJ (M.part mS 99 _ (yW [[Value.int .i64 av],_] [row .u8 32 (bl (LD.pub s.sec)),[kfv A]] [row .u8 32 (bl (LD.pub s.drw)),[kfv D],row .u8 32 (bl s.its),row .u8 32 (bl s.drn),row .u8 32 (fun _=>0),row .u8 32 (fun _=>0)] 99 JU))) ⟨_,M⟩ ?_
 refine xmH 5 45 ⟨_,M⟩ ?_; refine xrH 6 46 rfl (.pointer (some ⟨N,0,none⟩)) (fun _ ⟨_,M⟩=>JU) ⟨_,M⟩ ?_; refine xrH 7 47 rfl (.pointer (some ⟨N,165,none⟩)) (fun _ ⟨_,M⟩=>JU) ⟨_,M⟩ ?_
 refine xrH 8 48 rfl _ Yz ⟨_,M⟩ ?_
 refine yaH 9 49 (vL w0 _ N A _ _ _ (qN (jZ (jU s.st (LD.pub s.drw)) (lby (tm s.drw (bl s.its)))) (LD.pub s.sec)) hg hw3 (bl (LD.pub s.sec)) s.sec (bl s.its) hw.sec (hw.its.2.bl32 hw.its.1) mS M) ?_; rintro e w8 ⟨rfl,M',o1⟩; clear M; have M:=M'; clear M'; replace hwz:=xnT hwz (Off.size o1)
 replace OF:=OF.and1 o1 (.inl Jf); replace N_6:=NewF.off N_6 o1 Jy; clear o1
 refine ⟨_,rfl,⟨_,M⟩,nH ?_⟩
 refine xmH 10 8 ⟨_,M⟩ ?_
 refine wE JU ?_ _
 first | show Exit.then _ _ _ _ _ | show Exit.inBlock _ _ _ _ _
 by_cases h2:tm s.sec (bl s.its)=0
 · replace h2:=show Hid _ from h2
   go_upto_region 7 with fail; refine wR (xmL ?_); refine xaL (.bool true) (xE .i64 _ _ _ _ _ _ rfl rfl rfl true UW _) (xT ?_); go_upto_region 8 with fail; refine wR (xm2 ?_); refine xmL (xT ?_); replace M:=M.rot3; replace M:=M.rot3; replace M:=M.rot3; have hE:=show Hid _ from j1e hst.out hl h1.out h2.out; have h20:=show Hid _ from (xW h2.out); exact QK
 replace h2:=show Hid _ from h2
 go_upto_region 7 with fail; refine wR (xmL ?_); refine xaL (.bool false) (xE .i64 _ _ _ _ _ _ rfl rfl rfl false Ua _) (xT ?_)
 rw [zM h2.out] at M
 have hw4:SymW (jZ (qN (jZ (jU s.st (LD.pub s.drw)) (lby (tm s.drw (bl s.its)))) (LD.pub s.sec)) (lby (tm s.sec (bl s.its)))):=yM hw3 _
 have hk3:(qG (jZ (qN (jZ (jU s.st (LD.pub s.drw)) (lby (tm s.drw (bl s.its)))) (LD.pub s.sec)) (lby (tm s.sec (bl s.its)))) b).length=b.length+16:=zE rfl b
 go_upto_region 9 with fail
 refine wD (S:=fun w'=>∃ (s1_:Sym),Mm w0 ((N,qF av s1_ (bl (LD.pub s.sec)) (kfv A) (bl (LD.pub s.drw)) (kfv D) (bl s.its) (bl s.drn) (fun _=>0) (fun _=>0))::(A,row .u8 32 s.sec)::(D,row .u8 32 s.drw)::l) w') JU ⟨_,M.drew⟩ ?_; intro _
 replace M:=M.drew; have hdr:=(Below.refl w8.heap.size w8).drew; replace hwz:=xnT hwz hdr.size; replace OF:=OF.below hdr; replace N_6:=NewF.below N_6 hdr; clear hdr; generalize w8.drew=w9 at M hwz OF N_6 ⊢; refine xmH 0 53 ⟨_,M⟩ ?_
 refine xrH 1 54 rfl (.pointer (some ⟨N,0,none⟩)) (fun _ ⟨_,M⟩=>JU) ⟨_,M⟩ ?_; refine xrH 2 55 rfl (.pointer (some ⟨N,132,none⟩)) (fun _ ⟨_,M⟩=>JU) ⟨_,M⟩ ?_; refine xrH 3 56 rfl (.pointer (some ⟨N,132,none⟩)) (fun _ ⟨_,M⟩=>JU) ⟨_,M⟩ ?_
 refine xrH 4 57 rfl (.slice (some ⟨N,132,none⟩) 32 32) Yi ⟨_,M⟩ ?_; refine xmH 5 58 ⟨_,M⟩ ?_; refine xmH 6 59 ⟨_,M⟩ ?_
 refine xrH 7 60 rfl (.pointer (some ⟨N,0,none⟩)) (fun _ ⟨_,M⟩=>JU) ⟨_,M⟩ ?_; refine xrH 8 61 rfl (.pointer (some ⟨N,1,none⟩)) (fun _ ⟨_,M⟩=>JU) ⟨_,M⟩ ?_; refine xmH 9 62 ⟨_,M⟩ ?_
 refine yaH 10 63 (mH w0 _ N _ _ _ (jZ (qN (jZ (jU s.st (LD.pub s.drw)) (lby (tm s.drw (bl s.its)))) (LD.pub s.sec)) (lby (tm s.sec (bl s.its)))) hg.s hw4 (show (0:Nat)<4611686018427387904 by decide) sp cap b JK hcap hnil hb M (hs.off OF).1) ?_; rintro e w10 ⟨⟨v10,rfl,Nq_⟩,M',o1⟩
 have N_10:=NewF.lower Nq_ hwz; clear Nq_; clear M; have M:=M'; clear M'; replace hwz:=xnT hwz (Off.size o1); replace OF:=OF.and1 o1 (.inl Jf); replace N_6:=NewF.off N_6 o1 Jy; clear o1
 obtain ⟨p10,c10,rfl,hcc_10,hnn_10,_,_⟩:=id N_10
 refine ⟨_,rfl,⟨_,M⟩,nH ?_⟩
 have HC:=j7i w10.heap.size (some ⟨N,132,none⟩) p6 p10 32 ((qG (jZ (jU s.st (LD.pub s.drw)) (lby (tm s.drw (bl s.its)))) (LD.pub s.sec)).length) ((qG (jZ (qN (jZ (jU s.st (LD.pub s.drw)) (lby (tm s.drw (bl s.its)))) (LD.pub s.sec)) (lby (tm s.sec (bl s.its)))) b).length) 32 c6 c10 (bl (LD.pub s.drw)) (bl (qG (jZ (jU s.st (LD.pub s.drw)) (lby (tm s.drw (bl s.its)))) (LD.pub s.sec))) (bl (qG (jZ (qN (jZ (jU s.st (LD.pub s.drw)) (lby (tm s.drw (bl s.its)))) (LD.pub s.sec)) (lby (tm s.sec (bl s.its)))) b)) 32 rfl (M.srcRow mS 132 32 (bl (LD.pub s.drw)) (qU _ [1,98,32,1,32,1,32,32,32,32] JU 4 132 _ rfl rfl)) (NewF.src N_6) (NewF.src N_10) Jq hnn_6 hnn_10
 have hlb:=(Below.refl w10.heap.size w10).alloc (xnR _) (.cells #[.slice (some ⟨N,132,none⟩) 32 32,.slice p6 ((qG (jZ (jU s.st (LD.pub s.drw)) (lby (tm s.drw (bl s.its)))) (LD.pub s.sec)).length) c6,.slice p10 ((qG (jZ (qN (jZ (jU s.st (LD.pub s.drw)) (lby (tm s.drw (bl s.its)))) (LD.pub s.sec)) (lby (tm s.sec (bl s.its)))) b).length) c10] 32); replace M:=M.call hlb
 refine pY (i:=11) (w':=w10.alloc (.cells #[.slice (some ⟨N,132,none⟩) 32 32,.slice p6 ((qG (jZ (jU s.st (LD.pub s.drw)) (lby (tm s.drw (bl s.its)))) (LD.pub s.sec)).length) c6,.slice p10 ((qG (jZ (qN (jZ (jU s.st (LD.pub s.drw)) (lby (tm s.drw (bl s.its)))) (LD.pub s.sec)) (lby (tm s.sec (bl s.its)))) b).length) c10] 32)) (some 64) rfl (.slice (some ⟨w10.heap.size,0,none⟩) 3 3) JU rfl rfl JU ⟨_,M⟩ (nH ?_)
 replace hwz:=xnT hwz hlb.size; replace OF:=OF.below hlb; replace N_6:=NewF.below N_6 hlb; replace N_10:=NewF.below N_10 hlb; clear hlb
 generalize w10.alloc (.cells #[.slice (some ⟨N,132,none⟩) 32 32,.slice p6 ((qG (jZ (jU s.st (LD.pub s.drw)) (lby (tm s.drw (bl s.its)))) (LD.pub s.sec)).length) c6,.slice p10 ((qG (jZ (qN (jZ (jU s.st (LD.pub s.drw)) (lby (tm s.drw (bl s.its)))) (LD.pub s.sec)) (lby (tm s.sec (bl s.its)))) b).length) c10] 32)=w11 at M HC hwz OF N_6 N_10 ⊢
 generalize hC:w10.heap.size=C at HC ⊢; clear hC; refine yaH 12 65 (vK ⟨C,0,none⟩ 3 3 _ _ _ _ JG (by rw [j9y]; omega) _ HC) ?_; rintro e w12 ⟨v12,rfl,hO,l⟩
 have N_12:vA w12 w.heap.size ((LD.pub s.drw)++((qG (jZ (jU s.st (LD.pub s.drw)) (lby (tm s.drw (bl s.its)))) (LD.pub s.sec))++(qG (jZ (qN (jZ (jU s.st (LD.pub s.drw)) (lby (tm s.drw (bl s.its)))) (LD.pub s.sec)) (lby (tm s.sec (bl s.its)))) b))) v12:=NewF.lower (q0t (yU s.drw) hO) hwz
 replace M:=M.call l; replace hwz:=xnT hwz l.size; replace OF:=OF.below l; replace N_6:=NewF.below N_6 l; replace N_10:=NewF.below N_10 l; clear l hO HC
 obtain ⟨p12,c12,rfl,hcc_12,hnn_12,_,_⟩:=id N_12
 refine ⟨_,rfl,⟨_,M⟩,nH ?_⟩
 refine xmH 13 4 ⟨_,M⟩ ?_
 refine xmH 14 5 ⟨_,M⟩ ?_
 refine wE JU ?_ _
 first | show Exit.then _ _ _ _ _ | show Exit.inBlock _ _ _ _ _
 replace M:=M.rot3; replace M:=M.rot3; replace M:=M.rot3; have hE:=show Hid _ from (bL (L:=LD) (s:=s) (t:=b) (Decidable.not_not.1 (not_or.1 hst.out).1) (Decidable.not_not.1 (not_or.1 hst.out).2) JK (xZ h1.out) (xZ h2.out)); have HS:=show Hid _ from (And.intro N_12 (And.intro M OF)); clear M OF N_12 hk2 hk3
 generalize (Value.slice p12 (((LD.pub s.drw)++((qG (jZ (jU s.st (LD.pub s.drw)) (lby (tm s.drw (bl s.its)))) (LD.pub s.sec))++(qG (jZ (qN (jZ (jU s.st (LD.pub s.drw)) (lby (tm s.drw (bl s.its)))) (LD.pub s.sec)) (lby (tm s.sec (bl s.its)))) b))).length) c12)=u_ at HS ⊢; exact Xu
theorem j4d:q2a 35 (shS LD) (fun s b=>¬ (s.role≠1∨s.step≠1)∧¬ 128<b.length):=by
 intro w0 w N A D l av s hg hw sp cap b ⟨hst,hl⟩ hcap hnil hb M hs; have hNw:=M.lt mS; replace hst:=show Hid _ from hst; have hwz:=xnR w.heap.size; have OF:=Off.refl [N] w
 replace M:Mm w0 ((N,qF av s.st (bl (LD.pub s.sec)) (kfv A) (bl (LD.pub s.drw)) (kfv D) (bl s.its) (bl s.drn) (fun _=>0) (fun _=>0))::(A,row .u8 32 s.sec)::(D,row .u8 32 s.drw)::l) w:=M
 go_enter Tryz.func35,Tryz.ntmps35
 go_upto_region 0 with fail; refine wR (xm2 ?_); refine xT ?_; go_upto_region 1 with fail
 refine wD (S:=fun w'=>∃ (s1_:Sym),Mm w0 ((N,qF av s1_ (bl (LD.pub s.sec)) (kfv A) (bl (LD.pub s.drw)) (kfv D) (bl s.its) (bl s.drn) (fun _=>0) (fun _=>0))::(A,row .u8 32 s.sec)::(D,row .u8 32 s.drw)::l) w') JU ⟨_,M.drew⟩ ?_; intro _
 replace M:=M.drew; have hdr:=(Below.refl w.heap.size w).drew; replace hwz:=xnT hwz hdr.size; replace OF:=OF.below hdr; clear hdr; generalize w.drew=w1 at M hwz OF ⊢; refine xmH 0 8 ⟨_,M⟩ ?_; refine xrH 1 9 rfl (.pointer (some ⟨N,0,none⟩)) (fun _ ⟨_,M⟩=>JU) ⟨_,M⟩ ?_
 refine xrH 2 10 rfl (.pointer (some ⟨N,1,none⟩)) (fun _ ⟨_,M⟩=>JU) ⟨_,M⟩ ?_; refine xmH 3 11 ⟨_,M⟩ ?_; refine xrH 4 12 rfl (.pointer (some ⟨N,0,none⟩)) (fun _ ⟨_,M⟩=>JU) ⟨_,M⟩ ?_; refine xrH 5 13 rfl (.pointer (some ⟨N,132,none⟩)) (fun _ ⟨_,M⟩=>JU) ⟨_,M⟩ ?_
 refine xrH 6 14 rfl (.pointer (some ⟨N,132,none⟩)) (fun _ ⟨_,M⟩=>JU) ⟨_,M⟩ ?_; refine xrH 7 15 rfl (.slice (some ⟨N,132,none⟩) 32 32) Yi ⟨_,M⟩ ?_
 refine yaH 8 16 (j8p w0 _ N _ _ _ s.st hg.s hw.st (some ⟨N,132,none⟩) 32 JG (LD.pub s.drw) (yU s.drw) (uJ s.drw) Jq M (M.srcRow mS 132 32 (bl (LD.pub s.drw)) (qU _ [1,98,32,1,32,1,32,32,32,32] JU 4 132 _ rfl rfl))) ?_; rintro e w2 ⟨rfl,M',o1⟩; clear M
 have M:=M'; clear M'; replace hwz:=xnT hwz (Off.size o1); replace OF:=OF.and1 o1 (.inl Jf); clear o1
 refine ⟨_,rfl,⟨_,M⟩,nH ?_⟩
 refine wE JU ?_ _
 first | show Exit.then _ _ _ _ _ | show Exit.inBlock _ _ _ _ _
 have hw1:SymW (jU s.st (LD.pub s.drw)):=uF hw.st _
 go_upto_region 2 with fail
 refine wD (S:=fun w'=>∃ (s1_:Sym),Mm w0 ((N,qF av s1_ (bl (LD.pub s.sec)) (kfv A) (bl (LD.pub s.drw)) (kfv D) (bl s.its) (bl s.drn) (fun _=>0) (fun _=>0))::(A,row .u8 32 s.sec)::(D,row .u8 32 s.drw)::l) w') JU ⟨_,M.drew⟩ ?_; intro _
 replace M:=M.drew; have hdr:=(Below.refl w2.heap.size w2).drew; replace hwz:=xnT hwz hdr.size; replace OF:=OF.below hdr; clear hdr; generalize w2.drew=w3 at M hwz OF ⊢; refine xmH 0 17 ⟨_,M⟩ ?_; refine xmH 1 18 ⟨_,M⟩ ?_
 refine xrH 2 19 rfl (.pointer (some ⟨N,0,none⟩)) (fun _ ⟨_,M⟩=>JU) ⟨_,M⟩ ?_; refine xrH 3 20 rfl (.pointer (some ⟨N,132,none⟩)) (fun _ ⟨_,M⟩=>JU) ⟨_,M⟩ ?_
 refine xrH 4 21 rfl (.agg ([row .u8 32 (bl (LD.pub s.drw)),[kfv D]].flatten).toArray) Yf ⟨_,M⟩ ?_
 refine xmH 5 22 ⟨_,M⟩ ?_; refine xrH 6 23 rfl (.pointer (some ⟨N,0,none⟩)) (fun _ ⟨_,M⟩=>JU) ⟨_,M⟩ ?_; refine xrH 7 24 rfl (.pointer (some ⟨N,197,none⟩)) (fun _ ⟨_,M⟩=>JU) ⟨_,M⟩ ?_
 refine xrH 8 25 rfl _ Uf ⟨_,M⟩ ?_
 refine yaH 9 26 (vL w0 _ N D _ _ _ (jU s.st (LD.pub s.drw)) hg hw1 (bl (LD.pub s.drw)) s.drw (bl s.drn) hw.drw (hw.drn.2.bl32 hw.drn.1) (mT _ mS) M) ?_; rintro e w4 ⟨rfl,M',o1⟩; clear M; have M:=M'; clear M'; replace hwz:=xnT hwz (Off.size o1); replace OF:=OF.and1 o1 (.inl Jf); clear o1
 refine ⟨_,rfl,⟨_,M⟩,nH ?_⟩
 refine xmH 10 6 ⟨_,M⟩ ?_
 refine wE JU ?_ _
 first | show Exit.then _ _ _ _ _ | show Exit.inBlock _ _ _ _ _
 by_cases h1:tm s.drw (bl s.drn)=0
 · replace h1:=show Hid _ from h1
   go_upto_region 3 with fail; refine wR (xmL ?_); refine xaL (.bool true) (xE .i64 _ _ _ _ _ _ rfl rfl rfl true Yy _) (xT ?_); go_upto_region 4 with fail; refine wR (xm2 ?_); refine xmL (xT ?_); replace M:=M.rot3; replace M:=M.rot3; replace M:=M.rot3; have hE:=show Hid _ from j1d hst.out hl h1.out; exact Xf
 replace h1:=show Hid _ from h1
 go_upto_region 3 with fail; refine wR (xmL ?_); refine xaL (.bool false) (xE .i64 _ _ _ _ _ _ rfl rfl rfl false Vd _) (xT ?_)
 rw [zM h1.out] at M
 have hw2:SymW (jZ (jU s.st (LD.pub s.drw)) (lby (tm s.drw (bl s.drn)))):=yM hw1 _
 go_upto_region 5 with fail
 refine wD (S:=fun w'=>∃ (s1_:Sym),Mm w0 ((N,qF av s1_ (bl (LD.pub s.sec)) (kfv A) (bl (LD.pub s.drw)) (kfv D) (bl s.its) (bl s.drn) (fun _=>0) (fun _=>0))::(A,row .u8 32 s.sec)::(D,row .u8 32 s.drw)::l) w') JU ⟨_,M.drew⟩ ?_; intro _
 replace M:=M.drew; have hdr:=(Below.refl w4.heap.size w4).drew; replace hwz:=xnT hwz hdr.size; replace OF:=OF.below hdr; clear hdr; generalize w4.drew=w5 at M hwz OF ⊢; refine xmH 0 30 ⟨_,M⟩ ?_; refine xmH 1 31 ⟨_,M⟩ ?_
 refine xrH 2 32 rfl (.pointer (some ⟨N,0,none⟩)) (fun _ ⟨_,M⟩=>JU) ⟨_,M⟩ ?_; refine xrH 3 33 rfl (.pointer (some ⟨N,132,none⟩)) (fun _ ⟨_,M⟩=>JU) ⟨_,M⟩ ?_
 refine xrH 4 34 rfl (.agg ([row .u8 32 (bl (LD.pub s.drw)),[kfv D]].flatten).toArray) Yf ⟨_,M⟩ ?_
 refine xmH 5 35 ⟨_,M⟩ ?_; refine xrH 6 36 rfl (.pointer (some ⟨N,0,none⟩)) (fun _ ⟨_,M⟩=>JU) ⟨_,M⟩ ?_; refine xrH 7 37 rfl (.pointer (some ⟨N,165,none⟩)) (fun _ ⟨_,M⟩=>JU) ⟨_,M⟩ ?_
 refine xrH 8 38 rfl _ Yz ⟨_,M⟩ ?_
 refine yaH 9 39 (vL w0 _ N D _ _ _ (jZ (jU s.st (LD.pub s.drw)) (lby (tm s.drw (bl s.drn)))) hg hw2 (bl (LD.pub s.drw)) s.drw (bl s.its) hw.drw (hw.its.2.bl32 hw.its.1) (mT _ mS) M) ?_; rintro e w6 ⟨rfl,M',o1⟩; clear M; have M:=M'; clear M'; replace hwz:=xnT hwz (Off.size o1)
 replace OF:=OF.and1 o1 (.inl Jf); clear o1
 refine ⟨_,rfl,⟨_,M⟩,nH ?_⟩
 refine xmH 10 7 ⟨_,M⟩ ?_
 refine wE JU ?_ _
 first | show Exit.then _ _ _ _ _ | show Exit.inBlock _ _ _ _ _
 by_cases h2:tm s.drw (bl s.its)=0
 · replace h2:=show Hid _ from h2
   go_upto_region 6 with fail; refine wR (xmL ?_); refine xaL (.bool true) (xE .i64 _ _ _ _ _ _ rfl rfl rfl true UW _) (xT ?_); go_upto_region 7 with fail; refine wR (xm2 ?_); refine xmL (xT ?_); replace M:=M.rot3; replace M:=M.rot3; replace M:=M.rot3; have hE:=show Hid _ from j1c hst.out hl h1.out h2.out; have h20:=show Hid _ from (xW h2.out); exact QK
 replace h2:=show Hid _ from h2
 go_upto_region 6 with fail; refine wR (xmL ?_); refine xaL (.bool false) (xE .i64 _ _ _ _ _ _ rfl rfl rfl false Ua _) (xT ?_)
 rw [zM h2.out] at M
 have hw3:SymW (jZ (jZ (jU s.st (LD.pub s.drw)) (lby (tm s.drw (bl s.drn)))) (lby (tm s.drw (bl s.its)))):=yM hw2 _
 have hk3:(qG (jZ (jZ (jU s.st (LD.pub s.drw)) (lby (tm s.drw (bl s.drn)))) (lby (tm s.drw (bl s.its)))) b).length=b.length+16:=zE rfl b
 go_upto_region 8 with fail
 refine wD (S:=fun w'=>∃ (s1_:Sym),Mm w0 ((N,qF av s1_ (bl (LD.pub s.sec)) (kfv A) (bl (LD.pub s.drw)) (kfv D) (bl s.its) (bl s.drn) (fun _=>0) (fun _=>0))::(A,row .u8 32 s.sec)::(D,row .u8 32 s.drw)::l) w') JU ⟨_,M.drew⟩ ?_; intro _
 replace M:=M.drew; have hdr:=(Below.refl w6.heap.size w6).drew; replace hwz:=xnT hwz hdr.size; replace OF:=OF.below hdr; clear hdr; generalize w6.drew=w7 at M hwz OF ⊢; refine xmH 0 43 ⟨_,M⟩ ?_; refine xrH 1 44 rfl (.pointer (some ⟨N,0,none⟩)) (fun _ ⟨_,M⟩=>JU) ⟨_,M⟩ ?_
 refine xrH 2 45 rfl (.pointer (some ⟨N,132,none⟩)) (fun _ ⟨_,M⟩=>JU) ⟨_,M⟩ ?_; refine xrH 3 46 rfl (.pointer (some ⟨N,132,none⟩)) (fun _ ⟨_,M⟩=>JU) ⟨_,M⟩ ?_; refine xrH 4 47 rfl (.slice (some ⟨N,132,none⟩) 32 32) Yi ⟨_,M⟩ ?_
 refine xmH 5 48 ⟨_,M⟩ ?_; refine xrH 6 49 rfl (.pointer (some ⟨N,0,none⟩)) (fun _ ⟨_,M⟩=>JU) ⟨_,M⟩ ?_; refine xrH 7 50 rfl (.pointer (some ⟨N,1,none⟩)) (fun _ ⟨_,M⟩=>JU) ⟨_,M⟩ ?_; refine xmH 8 51 ⟨_,M⟩ ?_
 refine yaH 9 52 (mH w0 _ N _ _ _ (jZ (jZ (jU s.st (LD.pub s.drw)) (lby (tm s.drw (bl s.drn)))) (lby (tm s.drw (bl s.its)))) hg.s hw3 (show (0:Nat)<4611686018427387904 by decide) sp cap b JK hcap hnil hb M (hs.off OF).1) ?_; rintro e w8 ⟨⟨v8,rfl,Nq_⟩,M',o1⟩; have N_8:=NewF.lower Nq_ hwz
 clear Nq_; clear M; have M:=M'; clear M'; replace hwz:=xnT hwz (Off.size o1); replace OF:=OF.and1 o1 (.inl Jf); clear o1
 obtain ⟨p8,c8,rfl,hcc_8,hnn_8,_,_⟩:=id N_8
 refine ⟨_,rfl,⟨_,M⟩,nH ?_⟩
 have HC:=j7j w8.heap.size (some ⟨N,132,none⟩) p8 32 ((qG (jZ (jZ (jU s.st (LD.pub s.drw)) (lby (tm s.drw (bl s.drn)))) (lby (tm s.drw (bl s.its)))) b).length) 32 c8 (bl (LD.pub s.drw)) (bl (qG (jZ (jZ (jU s.st (LD.pub s.drw)) (lby (tm s.drw (bl s.drn)))) (lby (tm s.drw (bl s.its)))) b)) 32 rfl (M.srcRow mS 132 32 (bl (LD.pub s.drw)) (qU _ [1,98,32,1,32,1,32,32,32,32] JU 4 132 _ rfl rfl)) (NewF.src N_8) Jq hnn_8
 have hlb:=(Below.refl w8.heap.size w8).alloc (xnR _) (.cells #[.slice (some ⟨N,132,none⟩) 32 32,.slice p8 ((qG (jZ (jZ (jU s.st (LD.pub s.drw)) (lby (tm s.drw (bl s.drn)))) (lby (tm s.drw (bl s.its)))) b).length) c8] 32); replace M:=M.call hlb
 refine pY (i:=10) (w':=w8.alloc (.cells #[.slice (some ⟨N,132,none⟩) 32 32,.slice p8 ((qG (jZ (jZ (jU s.st (LD.pub s.drw)) (lby (tm s.drw (bl s.drn)))) (lby (tm s.drw (bl s.its)))) b).length) c8] 32)) (some 53) rfl (.slice (some ⟨w8.heap.size,0,none⟩) 2 2) JU rfl rfl JU ⟨_,M⟩ (nH ?_); replace hwz:=xnT hwz hlb.size
 replace OF:=OF.below hlb; replace N_8:=NewF.below N_8 hlb; clear hlb; generalize w8.alloc (.cells #[.slice (some ⟨N,132,none⟩) 32 32,.slice p8 ((qG (jZ (jZ (jU s.st (LD.pub s.drw)) (lby (tm s.drw (bl s.drn)))) (lby (tm s.drw (bl s.its)))) b).length) c8] 32)=w9 at M HC hwz OF N_8 ⊢; generalize hC:w8.heap.size=C at HC ⊢; clear hC
 refine yaH 11 54 (vK ⟨C,0,none⟩ 2 2 _ _ _ _ JG (by rw [j9z]; omega) _ HC) ?_; rintro e w10 ⟨v10,rfl,hO,l⟩
 have N_10:vA w10 w.heap.size ((LD.pub s.drw)++(qG (jZ (jZ (jU s.st (LD.pub s.drw)) (lby (tm s.drw (bl s.drn)))) (lby (tm s.drw (bl s.its)))) b)) v10:=NewF.lower (q0u (yU s.drw) hO) hwz
 replace M:=M.call l; replace hwz:=xnT hwz l.size; replace OF:=OF.below l; replace N_8:=NewF.below N_8 l; clear l hO HC
 obtain ⟨p10,c10,rfl,hcc_10,hnn_10,_,_⟩:=id N_10
 refine ⟨_,rfl,⟨_,M⟩,nH ?_⟩
 refine xmH 12 4 ⟨_,M⟩ ?_; refine xmH 13 5 ⟨_,M⟩ ?_
 refine wE JU ?_ _
 first | show Exit.then _ _ _ _ _ | show Exit.inBlock _ _ _ _ _
 replace M:=M.rot3; replace M:=M.rot3; replace M:=M.rot3; have hE:=show Hid _ from (bF (L:=LD) (s:=s) (t:=b) (Decidable.not_not.1 (not_or.1 hst.out).1) (Decidable.not_not.1 (not_or.1 hst.out).2) JK (xZ h1.out) (xZ h2.out)); have HS:=show Hid _ from (And.intro N_10 (And.intro M OF)); clear M OF N_10 hk3
 generalize (Value.slice p10 (((LD.pub s.drw)++(qG (jZ (jZ (jU s.st (LD.pub s.drw)) (lby (tm s.drw (bl s.drn)))) (lby (tm s.drw (bl s.its)))) b)).length) c10)=u_ at HS ⊢; exact Xu
theorem j9a {P:Program} {t:TypeId} (ht:P.underlying t=some (.slice (P.elem t))) (hsz:∀ w,(sizeOf (P.elem t)).run P w=.ok 1 w) (sp:Option Addr) (len cap l h:Nat) (hl:l≤h) (hh:h≤len) (hc:len≤cap) (hn:sp=none→cap=0) :
 ∃ sp',(∀ w,(Instr.sliceAt t (.slice sp len cap) (some (.int .i64 (l:Int))) (some (.int .i64 (h:Int))) none).run P w=.ok (.slice sp' (h-l) (cap-l)) w)∧(∀ X w z,SrcA X w sp len z→SrcA X w sp' (h-l) (fun j=>z (l+j)))∧(sp'=none→cap-l=0):=by
 refine ⟨if cap=l then sp else sp.map (·.add (l*1)),fun w=>?_,fun X w z h=>⟨fun j hj=>?_,fun ad e hp=>?_⟩,fun e=>?_⟩
 · exact XX
 · obtain ⟨ad,rfl,hc'⟩:=h.1 (l+j) JK; rw [if_neg JK]; exact ⟨ad.add (l*1),rfl,by rw [Nat.mul_one,Addr.add_add]; exact hc'⟩
 · rw [if_neg JK] at e
   cases sp with
   | none=>cases e
   | some a =>
     exact Xr
 by_cases hm:cap=l
 · omega
 rw [if_neg hm] at e
 cases sp with
 | none=>have:=hn rfl; omega
 | some ad=>cases e
theorem SrcA.congr {X:List Nat} {w:World} {sp:Option Addr} {n:Nat} {f g:Nat→Int} (h:SrcA X w sp n f) (he:∀ j,j<n→f j=g j):SrcA X w sp n g:=⟨fun j hj=>by rw [← he j hj]; exact h.1 j hj,h.2⟩
theorem eA (b:List Int) (o j:Nat):bl b (o+j)=bl (b.drop o) j:=by unfold bl; rw [List.getD_eq_getElem?_getD,List.getD_eq_getElem?_getD,List.getElem?_drop]
theorem sG (b:List Int) (n j:Nat) (h:j<n):bl b j=bl (b.take n) j:=by unfold bl; rw [List.getD_eq_getElem?_getD,List.getD_eq_getElem?_getD,List.getElem?_take_of_lt h]
theorem j0s {s:Sym} {b:List Int} (hs:s.has=true) (h:soE s b=0):(soT s b).length=b.length-16:=by
 rw [lM hs] at h
 rw [rM hs,List.length_map,List.length_range]
 have:aok s.k (snz s.n) 32 s.h b.length (bl b):=Decidable.byContradiction fun hn=>by
  unfold aoE at h; rw [if_neg hn] at h; split at h <;> cases h
 unfold aoL
 rw [if_pos this]
theorem bK {s:Sym} {b:List Int} (hb:Byts b):Byts (soT s b):=by
 unfold soT
 split
 · intro x hx; obtain ⟨j,hj,rfl⟩:=List.mem_map.1 hx; have hj:=List.mem_range.1 hj; exact lL s.k 1 (snz s.n) (bl b) b.length hb.bl j (xnL hj (by unfold aoL; split <;> omega))
 exact hb
theorem j5u (w0 w:World) (R:Nat) (l:List (Nat × List Value)) (s:Sym) (hsw:SymW s) (hn:s.n<4611686018427387904) (sp:Option Addr) (cap n:Nat) (b:List Int) (hl:b.length=n) (hb:Byts b) (hlen:n≤35184372088832) (hnil:sp=none→cap=0) (hcap:n≤cap) (M:Mm w0 ((R,stc s)::l) w) (hs:SrcA [R] w sp n (bl b)) :
 Calls Tryz.prog 43 #[.pointer (some ⟨R,0,none⟩),.slice sp n cap] w fun e w'=>(∃ v,e=.returned (.tuple #[v,.int .i64 (soE s b)])∧OwnL w' w.heap.size (soT s b) v)∧Mm w0 ((R,stc (xH s b))::l) w'∧Off [R] w w':=by
 subst hl
 exact j3b w0 w R l s hsw hn sp cap b hlen hnil hb hcap M hs
theorem j3d (sp:Option Addr) (cap:Nat) (b:List Int) (h32:32≤b.length) (w:World) (hs:Src w sp b.length (bl b)) :
 Calls Tryz.prog 42 #[.slice sp b.length cap] w fun e w'=>e=.returned (.agg (row .u8 32 (bl (b.take 32))).toArray)∧Below w.heap.size w w' :=
 (bE sp b.length cap (bl b) h32 w hs).mono fun _ _ ⟨he,l⟩=>⟨by rw [he,yV .u8 32 (fun j hj=>sG b 32 j hj)],l⟩
theorem fS {s:Shk} {b:List Int} (h:s.role≠1∨s.step≠0):uY LD s b=.error 4:=by unfold uY; rw [if_pos h]
theorem fF {s:Shk} {b:List Int} (h:¬ (s.role≠1∨s.step≠0)) (h1:b.length<96):uY LD s b=.error 3:=by unfold uY; rw [if_neg h,if_pos h1]
theorem dS {s:Shk} {b:List Int} (h:¬ (s.role≠1∨s.step≠0)) (h1:¬ b.length<96) (h2:224<b.length):uY LD s b=.error 2:=by unfold uY; rw [if_neg h,if_neg h1,if_pos h2]
theorem q0j (sp:Option Addr) (cap:Nat) (b:List Int) (h32:b.length=32) (w:World) (hs:Src w sp b.length (bl b)) :
 Calls Tryz.prog 42 #[.slice sp b.length cap] w fun e w'=>e=.returned (.agg (row .u8 32 (bl b)).toArray)∧Below w.heap.size w w':=bE sp b.length cap (bl b) JK w hs
theorem j0y {s:Shk} {b:List Int} (h:¬ (s.role≠1∨s.step≠0)) (h1:¬ b.length<96) (h2:¬ 224<b.length) (k1:tm s.sec (bl (b.take 32))=0):uY LD s b=.error 20:=by unfold uY; rw [if_neg h,if_neg h1,if_neg h2,kM k1]
theorem j1b {s:Shk} {b:List Int} (h:¬ (s.role≠1∨s.step≠0)) (h1:¬ b.length<96) (h2:¬ 224<b.length) (k1:¬ tm s.sec (bl (b.take 32))=0) {x:Sym} (hx:x=jZ (jU s.st (b.take 32)) (lby (tm s.sec (bl (b.take 32))))) (k2:¬ soE x ((b.drop 32).take 48)=0):uY LD s b=.error (soE x ((b.drop 32).take 48)):=by
 subst hx
 unfold uY
 rw [if_neg h,if_neg h1,if_neg h2,xZ k1]
 exact if_pos k2
theorem j0x {s:Shk} {b:List Int} (h:¬ (s.role≠1∨s.step≠0)) (h1:¬ b.length<96) (h2:¬ 224<b.length) (k1:¬ tm s.sec (bl (b.take 32))=0) {x:Sym} (hx:x=jZ (jU s.st (b.take 32)) (lby (tm s.sec (bl (b.take 32))))) (k2:soE x ((b.drop 32).take 48)=0) (k3:tm s.sec (bl (soT x ((b.drop 32).take 48)))=0):uY LD s b=.error 20:=by
 subst hx
 unfold uY
 rw [if_neg h,if_neg h1,if_neg h2,xZ k1]
 simp only
 rw [if_neg (not_not_intro k2),kM k3]
theorem j1a {s:Shk} {b:List Int} (h:¬ (s.role≠1∨s.step≠0)) (h1:¬ b.length<96) (h2:¬ 224<b.length) (k1:¬ tm s.sec (bl (b.take 32))=0) {x y:Sym} (hx:x=jZ (jU s.st (b.take 32)) (lby (tm s.sec (bl (b.take 32))))) (k2:soE x ((b.drop 32).take 48)=0) (k3:¬ tm s.sec (bl (soT x ((b.drop 32).take 48)))=0) (hy:y=jZ (xH x ((b.drop 32).take 48)) (lby (tm s.sec (bl (soT x ((b.drop 32).take 48)))))) (k4:¬ soE y (b.drop 80)=0):uY LD s b=.error (soE y (b.drop 80)):=by
 subst hy hx
 unfold uY
 rw [if_neg h,if_neg h1,if_neg h2,xZ k1]
 simp only
 rw [if_neg (not_not_intro k2),xZ k3]
 exact if_pos k4
theorem j0z {s:Shk} {b:List Int} (h:¬ (s.role≠1∨s.step≠0)) (h1:¬ b.length<96) (h2:¬ 224<b.length) (k1:¬ tm s.sec (bl (b.take 32))=0) {x y:Sym} (hx:x=jZ (jU s.st (b.take 32)) (lby (tm s.sec (bl (b.take 32))))) (k2:soE x ((b.drop 32).take 48)=0) (k3:¬ tm s.sec (bl (soT x ((b.drop 32).take 48)))=0) (hy:y=jZ (xH x ((b.drop 32).take 48)) (lby (tm s.sec (bl (soT x ((b.drop 32).take 48)))))) (k4:soE y (b.drop 80)=0):uY LD s b=.ok (soT y (b.drop 80),{ s with st:=xH y (b.drop 80),its:=soT x ((b.drop 32).take 48),drn:=b.take 32,step:=1 }):=by
 subst hy hx
 unfold uY
 rw [if_neg h,if_neg h1,if_neg h2,xZ k1]
 simp only
 rw [if_neg (not_not_intro k2),xZ k3]
 exact if_neg (not_not_intro k4)
theorem tS {s:Shk} {b:List Int} (h:s.role≠0∨s.step≠1):uK LD s b=.error 4:=by unfold uK; rw [if_pos h]
theorem fM {s:Shk} {b:List Int} (h:¬ (s.role≠0∨s.step≠1)) (h1:b.length<48):uK LD s b=.error 3:=by unfold uK; rw [if_neg h,if_pos h1]
theorem dM {s:Shk} {b:List Int} (h:¬ (s.role≠0∨s.step≠1)) (h1:¬ b.length<48) (h2:176<b.length):uK LD s b=.error 2:=by unfold uK; rw [if_neg h,if_neg h1,if_pos h2]
theorem j0v {s:Shk} {b:List Int} (h:¬ (s.role≠0∨s.step≠1)) (h1:¬ b.length<48) (h2:¬ 176<b.length) (k1:tm s.drw (bl (b.take 32))=0):uK LD s b=.error 20:=by unfold uK; rw [if_neg h,if_neg h1,if_neg h2,kM k1]
theorem j0u {s:Shk} {b:List Int} (h:¬ (s.role≠0∨s.step≠1)) (h1:¬ b.length<48) (h2:¬ 176<b.length) (k1:¬ tm s.drw (bl (b.take 32))=0) (k2:tm s.sec (bl (b.take 32))=0):uK LD s b=.error 20:=by unfold uK; rw [if_neg h,if_neg h1,if_neg h2,xZ k1,kM k2]
theorem bS {s:Shk} {b:List Int} (h:¬ (s.role≠0∨s.step≠1)) (h1:¬ b.length<48) (h2:¬ 176<b.length) (k1:¬ tm s.drw (bl (b.take 32))=0) (k2:¬ tm s.sec (bl (b.take 32))=0) {x:Sym} (hx:x=jZ (jZ (jU s.st (b.take 32)) (lby (tm s.drw (bl (b.take 32))))) (lby (tm s.sec (bl (b.take 32))))) (k3:¬ soE x (b.drop 32)=0):uK LD s b=.error (soE x (b.drop 32)):=by
 subst hx
 unfold uK
 rw [if_neg h,if_neg h1,if_neg h2,xZ k1,xZ k2]
 exact if_pos k3
theorem j0w {s:Shk} {b:List Int} (h:¬ (s.role≠0∨s.step≠1)) (h1:¬ b.length<48) (h2:¬ 176<b.length) (k1:¬ tm s.drw (bl (b.take 32))=0) (k2:¬ tm s.sec (bl (b.take 32))=0) {x:Sym} (hx:x=jZ (jZ (jU s.st (b.take 32)) (lby (tm s.drw (bl (b.take 32))))) (lby (tm s.sec (bl (b.take 32))))) (k3:soE x (b.drop 32)=0):uK LD s b=.ok (soT x (b.drop 32),{ s with st:=xH x (b.drop 32),step:=2 }):=by
 subst hx
 unfold uK
 rw [if_neg h,if_neg h1,if_neg h2,xZ k1,xZ k2]
 exact if_neg (not_not_intro k3)
theorem j9c {P:Program} {t:TypeId} (ht:P.underlying t=some (.slice (P.elem t))) (hsz:∀ w,(sizeOf (P.elem t)).run P w=.ok 1 w) (sp:Option Addr) (len cap m:Nat) (hm:m≤len) (hc:len≤cap) (h0:0<m) :
 ∃ sp',(∀ w,(Instr.sliceAt t (.slice sp len cap) none (some (.int .i64 (m:Int))) none).run P w=.ok (.slice sp' m cap) w)∧(∀ X w z,SrcA X w sp len z→SrcA X w sp' m z):=by
 refine ⟨sp.map (·.add (0*1)),fun w=>?_,fun X w z h=>⟨fun j hj=>?_,fun ad e _=>?_⟩⟩
 · rw [run_sliceAt_slice w t _ _ _ _ ht,run_slice_h w t sp len cap ht .i64 (m:Int) JK JK,hsz]; simp only [Result.andThen,sliced,Int.toNat_natCast,Nat.sub_zero]; rw [if_neg JK]
 · obtain ⟨ad,rfl,hc'⟩:=h.1 j JK; exact ⟨ad.add (0*1),rfl,by rw [Nat.zero_mul,Addr.add_add,nZ]; exact hc'⟩
 cases sp with
 | none=>cases e
 | some a =>
   exact Xr
theorem lY:q2a 32 (uK LD) (fun s b=>¬ (s.role≠0∨s.step≠1)∧¬ b.length<48∧¬ 176<b.length):=by
 intro w0 w N A D l av s hg hw sp cap b ⟨hst,hl,hm⟩ hcap hnil hb M hs; have hNw:=M.lt mS; replace hst:=show Hid _ from hst; have hwz:=xnR w.heap.size; have OF:=Off.refl [N] w
 replace M:Mm w0 ((N,qF av s.st (bl (LD.pub s.sec)) (kfv A) (bl (LD.pub s.drw)) (kfv D) (bl s.its) (bl s.drn) (fun _=>0) (fun _=>0))::(A,row .u8 32 s.sec)::(D,row .u8 32 s.drw)::l) w:=M
 go_enter Tryz.func32,Tryz.ntmps32
 go_upto_region 0 with fail; refine wR (xm2 ?_); refine xT ?_
 obtain ⟨p1,hr_1,hs_1⟩:=j9c (P:=Tryz.prog) (t:=32) JU JW sp b.length cap 32 JK hcap JG
 obtain ⟨a1,rfl⟩:∃ a_,p1=some a_:=by
  obtain ⟨a_,e_,_⟩:=(hs_1 _ _ _ hs).1 0 JG; exact ⟨a_,e_⟩
 obtain ⟨p2,hr_2,hs_2,hn_2⟩:=lC (P:=Tryz.prog) (t:=32) JU JW sp b.length cap 32 JK hcap hnil
 go_upto_region 1 with fail; refine hdM M hwz OF ?_; clear M hwz OF; intro w3 M hwz OF; refine xmH 0 10 M ?_; refine xrH 1 11 rfl (.slice (some a1) 32 cap) (fun _ M=>j0a _ _ _ _ _ _ rfl rfl rfl (hr_1 _)) M ?_
 refine xmH 2 12 M ?_; refine xrH 3 13 rfl (.slice p2 (b.length-32) (cap-32)) (fun _ M=>mY _ _ _ _ _ _ rfl rfl rfl (hr_2 _)) M ?_; refine xmH 4 6 M ?_; refine xmH 5 7 M ?_
 refine wE JU ?_ _
 first | show Exit.then _ _ _ _ _ | show Exit.inBlock _ _ _ _ _
 have hE1:(b.take 32).length=32:=by rw [List.length_take]; omega
 have hE2:=hb.take 32; go_upto_region 2 with fail; refine wR (xmL ?_); refine xpL (.pointer (some ⟨N,0,none⟩)) ?_; refine xpL (.pointer (some ⟨N,1,none⟩)) ?_; refine xmL ?_
 refine xcL (j8p w0 _ N _ _ _ s.st hg.s hw.st (some a1) cap JK (b.take 32) hE1 hE2 Jq M ((hs_1 _ _ _ (hs.off OF)).1.congr GK)) ?_; rintro e w4 ⟨rfl,M',o1⟩; clear M; have M:=M'; clear M'; replace hwz:=xnT hwz (Off.size o1); replace OF:=OF.and1 o1 (.inl Jf); clear o1; refine xeL ?_
 refine xT ?_
 have hw1:SymW (jU s.st (b.take 32)):=uF hw.st _
 go_upto_region 3 with fail
 refine wD (S:=fun w'=>∃ (s1_:Sym),Mm w0 ((N,qF av s1_ (bl (LD.pub s.sec)) (kfv A) (bl (LD.pub s.drw)) (kfv D) (bl s.its) (bl s.drn) (fun _=>0) (fun _=>0))::(A,row .u8 32 s.sec)::(D,row .u8 32 s.drw)::l) w'∧Off [N] w w') JU ⟨_,M.drew,((OF).below (Below.refl _ _).drew)⟩ ?_
 intro _; replace M:=M.drew; have hdr:=(Below.refl w4.heap.size w4).drew; replace hwz:=xnT hwz hdr.size; replace OF:=OF.below hdr; clear hdr; generalize w4.drew=w5 at M hwz OF ⊢; refine xmH 0 19 ⟨_,M,OF⟩ ?_; refine xmH 1 20 ⟨_,M,OF⟩ ?_
 refine xrH 2 21 rfl (.pointer (some ⟨N,0,none⟩)) (fun _ ⟨_,M,OF⟩=>JU) ⟨_,M,OF⟩ ?_; refine xrH 3 22 rfl (.pointer (some ⟨N,132,none⟩)) (fun _ ⟨_,M,OF⟩=>JU) ⟨_,M,OF⟩ ?_
 refine xrH 4 23 rfl (.agg ([row .u8 32 (bl (LD.pub s.drw)),[kfv D]].flatten).toArray) (fun _ ⟨_,M,OF⟩=>jD 59 _ ⟨N,132,none⟩ ([row .u8 32 (bl (LD.pub s.drw)),[kfv D]].flatten) rfl rfl JW UJ (M.part mS 132 _ (yW [[Value.int .i64 av],_,row .u8 32 (bl (LD.pub s.sec)),[kfv A]] [row .u8 32 (bl (LD.pub s.drw)),[kfv D]] [row .u8 32 (bl s.its),row .u8 32 (bl s.drn),row .u8 32 (fun _=>0),row .u8 32 (fun _=>0)] 132 JU))) ⟨_,M,OF⟩ ?_
 refine xmH 5 24 ⟨_,M,OF⟩ ?_; refine xrH 6 25 rfl (.pointer (some a1)) (fun _ ⟨_,M,OF⟩=>by kernel_rfl) ⟨_,M,OF⟩ ?_
 refine xrH 7 26 rfl (.agg (row .u8 32 (bl (b.take 32))).toArray) Vq ⟨_,M,OF⟩ ?_
 refine yaH 8 27 (vL w0 _ N D _ _ _ (jU s.st (b.take 32)) hg hw1 (bl (LD.pub s.drw)) s.drw (bl (b.take 32)) hw.drw (hE2.bl32 hE1) (mT _ mS) M) ?_; rintro e w6 ⟨rfl,M',o1⟩; clear M; have M:=M'; clear M'; replace hwz:=xnT hwz (Off.size o1); replace OF:=OF.and1 o1 (.inl Jf); clear o1
 refine ⟨_,rfl,⟨_,M,OF⟩,nH ?_⟩
 refine xmH 9 8 ⟨_,M,OF⟩ ?_
 refine wE JU ?_ _
 first | show Exit.then _ _ _ _ _ | show Exit.inBlock _ _ _ _ _
 by_cases h1:tm s.drw (bl (b.take 32))=0
 · replace h1:=show Hid _ from h1
   go_upto_region 4 with fail; refine wR (xmL ?_); refine xaL (.bool true) (xE .i64 _ _ _ _ _ _ rfl rfl rfl true Yy _) (xT ?_); go_upto_region 5 with fail; refine wR (xm2 ?_); refine xmL (xT ?_); replace M:=M.rot3; replace M:=M.rot3; replace M:=M.rot3; have hE:=show Hid _ from j0v hst.out hl hm h1.out; exact Xf
 replace h1:=show Hid _ from h1
 go_upto_region 4 with fail; refine wR (xmL ?_); refine xaL (.bool false) (xE .i64 _ _ _ _ _ _ rfl rfl rfl false Vd _) (xT ?_)
 rw [zM h1.out] at M
 have hw2:SymW (jZ (jU s.st (b.take 32)) (lby (tm s.drw (bl (b.take 32))))):=yM hw1 _
 go_upto_region 6 with fail
 refine wD (S:=fun w'=>∃ (s1_:Sym),Mm w0 ((N,qF av s1_ (bl (LD.pub s.sec)) (kfv A) (bl (LD.pub s.drw)) (kfv D) (bl s.its) (bl s.drn) (fun _=>0) (fun _=>0))::(A,row .u8 32 s.sec)::(D,row .u8 32 s.drw)::l) w'∧Off [N] w w') JU ⟨_,M.drew,((OF).below (Below.refl _ _).drew)⟩ ?_
 intro _; replace M:=M.drew; have hdr:=(Below.refl w6.heap.size w6).drew; replace hwz:=xnT hwz hdr.size; replace OF:=OF.below hdr; clear hdr; generalize w6.drew=w7 at M hwz OF ⊢; refine xmH 0 31 ⟨_,M,OF⟩ ?_; refine xmH 1 32 ⟨_,M,OF⟩ ?_
 refine xrH 2 33 rfl (.pointer (some ⟨N,0,none⟩)) (fun _ ⟨_,M,OF⟩=>JU) ⟨_,M,OF⟩ ?_; refine xrH 3 34 rfl (.pointer (some ⟨N,99,none⟩)) (fun _ ⟨_,M,OF⟩=>JU) ⟨_,M,OF⟩ ?_
 refine xrH 4 35 rfl (.agg ([row .u8 32 (bl (LD.pub s.sec)),[kfv A]].flatten).toArray) (fun _ ⟨_,M,OF⟩=>jD 59 _ ⟨N,99,none⟩ ([row .u8 32 (bl (LD.pub s.sec)),[kfv A]].flatten) rfl rfl JW UJ (M.part mS 99 _ (yW [[Value.int .i64 av],_] [row .u8 32 (bl (LD.pub s.sec)),[kfv A]] [row .u8 32 (bl (LD.pub s.drw)),[kfv D],row .u8 32 (bl s.its),row .u8 32 (bl s.drn),row .u8 32 (fun _=>0),row .u8 32 (fun _=>0)] 99 JU))) ⟨_,M,OF⟩ ?_
 refine xmH 5 36 ⟨_,M,OF⟩ ?_; refine xrH 6 37 rfl (.pointer (some a1)) (fun _ ⟨_,M,OF⟩=>by kernel_rfl) ⟨_,M,OF⟩ ?_
 refine xrH 7 38 rfl (.agg (row .u8 32 (bl (b.take 32))).toArray) Vq ⟨_,M,OF⟩ ?_
 refine yaH 8 39 (vL w0 _ N A _ _ _ (jZ (jU s.st (b.take 32)) (lby (tm s.drw (bl (b.take 32))))) hg hw2 (bl (LD.pub s.sec)) s.sec (bl (b.take 32)) hw.sec (hE2.bl32 hE1) mS M) ?_; rintro e w8 ⟨rfl,M',o1⟩; clear M; have M:=M'; clear M'; replace hwz:=xnT hwz (Off.size o1); replace OF:=OF.and1 o1 (.inl Jf)
 clear o1
 refine ⟨_,rfl,⟨_,M,OF⟩,nH ?_⟩
 refine xmH 9 9 ⟨_,M,OF⟩ ?_
 refine wE JU ?_ _
 first | show Exit.then _ _ _ _ _ | show Exit.inBlock _ _ _ _ _
 by_cases h2:tm s.sec (bl (b.take 32))=0
 · replace h2:=show Hid _ from h2
   go_upto_region 7 with fail; refine wR (xmL ?_); refine xaL (.bool true) (xE .i64 _ _ _ _ _ _ rfl rfl rfl true UW _) (xT ?_); go_upto_region 8 with fail; refine wR (xm2 ?_); refine xmL (xT ?_); replace M:=M.rot3; replace M:=M.rot3; replace M:=M.rot3; have hE:=show Hid _ from j0u hst.out hl hm h1.out h2.out; have h20:=show Hid _ from (xW h2.out); exact QK
 replace h2:=show Hid _ from h2
 go_upto_region 7 with fail; refine wR (xmL ?_); refine xaL (.bool false) (xE .i64 _ _ _ _ _ _ rfl rfl rfl false Ua _) (xT ?_)
 rw [zM h2.out] at M
 have hw3:SymW (jZ (jZ (jU s.st (b.take 32)) (lby (tm s.drw (bl (b.take 32))))) (lby (tm s.sec (bl (b.take 32))))):=yM hw2 _
 go_upto_region 9 with fail; refine wR (xmL ?_); refine xpL (.pointer (some ⟨N,0,none⟩)) ?_; refine xpL (.pointer (some ⟨N,1,none⟩)) ?_; refine xmL ?_
 refine xcL (q3v w0 _ N _ _ _ (jZ (jZ (jU s.st (b.take 32)) (lby (tm s.drw (bl (b.take 32))))) (lby (tm s.sec (bl (b.take 32))))) hg.s hw3 (show (0:Nat)<4611686018427387904 by decide) p2 (cap-32) (b.length-32) (b.drop 32) WG (hb.drop 32) JK hn_2 JK M ((hs_2 _ _ _ (hs.off OF)).congr Wg)) ?_
 rintro e w9 ⟨⟨v9,rfl,Nq_⟩,M',o1⟩; have N_9:=NewF.lower Nq_ hwz; clear Nq_; clear M; have M:=M'; clear M'; replace hwz:=xnT hwz (Off.size o1); replace OF:=OF.and1 o1 (.inl Jf); clear o1
 obtain ⟨p9,c9,rfl,hcc_9,hnn_9,_,ha_9⟩:=id N_9
 refine xeL ?_
 refine xm2 ?_
 refine xm2 (xT ?_)
 by_cases h3:soE (jZ (jZ (jU s.st (b.take 32)) (lby (tm s.drw (bl (b.take 32))))) (lby (tm s.sec (bl (b.take 32))))) (b.drop 32)=0
 · replace h3:=show Hid _ from h3
   replace M:=M.rot3; replace M:=M.rot3; replace M:=M.rot3; have hE:=show Hid _ from (j0w hst.out hl hm h1.out h2.out rfl h3.out); have h0_:=h3; have HS:=show Hid _ from (And.intro N_9 (And.intro M OF)); clear M OF N_9 h3 ; exact Xn
 replace h3:=show Hid _ from h3
 replace M:=M.rot3; replace M:=M.rot3; replace M:=M.rot3; have hE:=show Hid _ from bS hst.out hl hm h1.out h2.out rfl h3.out; have hx_:=h3; have HS:=show Hid _ from (And.intro M OF); clear M OF N_9; exact JY
theorem cA:q2a 34 (uY LD) (fun s b=>¬ (s.role≠1∨s.step≠0)∧¬ b.length<96∧¬ 224<b.length):=by
 intro w0 w N A D l av s hg hw sp cap b ⟨hst,hl,hm⟩ hcap hnil hb M hs; have hNw:=M.lt mS; replace hst:=show Hid _ from hst; have hwz:=xnR w.heap.size; have OF:=Off.refl [N] w
 replace M:Mm w0 ((N,qF av s.st (bl (LD.pub s.sec)) (kfv A) (bl (LD.pub s.drw)) (kfv D) (bl s.its) (bl s.drn) (fun _=>0) (fun _=>0))::(A,row .u8 32 s.sec)::(D,row .u8 32 s.drw)::l) w:=M
 go_enter Tryz.func34,Tryz.ntmps34
 go_upto_region 0 with fail; refine wR (xm2 ?_); refine xT ?_
 obtain ⟨p1,hr_1,hs_1⟩:=j9c (P:=Tryz.prog) (t:=32) JU JW sp b.length cap 32 JK hcap JG
 obtain ⟨a1,rfl⟩:∃ a_,p1=some a_:=by
  obtain ⟨a_,e_,_⟩:=(hs_1 _ _ _ hs).1 0 JG; exact ⟨a_,e_⟩
 obtain ⟨p2,hr_2,hs_2,hn_2⟩:=j9a (P:=Tryz.prog) (t:=32) JU JW sp b.length cap 32 80 JG JK hcap hnil
 obtain ⟨p3,hr_3,hs_3,hn_3⟩:=lC (P:=Tryz.prog) (t:=32) JU JW sp b.length cap 80 JK hcap hnil
 go_upto_region 1 with fail; refine hdM M hwz OF ?_; clear M hwz OF; intro w4 M hwz OF; refine xmH 0 13 M ?_; refine xrH 1 14 rfl (.slice (some a1) 32 cap) (fun _ M=>j0a _ _ _ _ _ _ rfl rfl rfl (hr_1 _)) M ?_
 refine xmH 2 15 M ?_; refine xrH 3 16 rfl (.slice p2 48 (cap-32)) (fun _ M=>pN _ _ _ _ _ _ _ _ rfl rfl rfl rfl (hr_2 _)) M ?_; refine xmH 4 17 M ?_; refine xrH 5 18 rfl (.slice p3 (b.length-80) (cap-80)) (fun _ M=>mY _ _ _ _ _ _ rfl rfl rfl (hr_3 _)) M ?_
 refine xmH 6 6 M ?_; refine xmH 7 7 M ?_; refine xmH 8 8 M ?_
 refine wE JU ?_ _
 first | show Exit.then _ _ _ _ _ | show Exit.inBlock _ _ _ _ _
 have hE1:(b.take 32).length=32:=by rw [List.length_take]; omega
 have hE2:=hb.take 32; go_upto_region 2 with fail; refine wR (xm2 ?_); refine xpL (.pointer (some a1)) ?_
 refine zV (.agg (row .u8 32 (bl (b.take 32))).toArray) rfl (jD 23 _ a1 (row .u8 32 (bl (b.take 32))) rfl rfl JW JH (j0r (((hs_1 _ _ _ (hs.off OF)).1.congr GK)) JG)) (nL ?_); refine xpL (.pointer (some ⟨N,0,none⟩)) ?_; refine xpL (.pointer (some ⟨N,197,none⟩)) ?_
 refine jG rfl (jC (row .u8 32 (bl (b.take 32))) N 197 23 _ _ rfl rfl rfl (M.thereP mS 197 32 Yh) JU (jT .u8 32 (bl (b.take 32)))) ?_
 simp only [Act.put]; replace M:=M.setPart (row .u8 32 (bl (b.take 32))) 197 Wm
 rw [tY _ [1,98,32,1,32,1,32,32,32,32] JU 7 197 _ (row .u8 32 (bl (b.take 32))) rfl rfl Ub] at M
 replace hwz:=xnT hwz (Off.size ((Off.refl [N] _).setAll (b:=N) mS 197 (row .u8 32 (bl (b.take 32))))); replace OF:=OF.and1 ((Off.refl [N] _).setAll (b:=N) mS 197 (row .u8 32 (bl (b.take 32)))) (.inl Jf); generalize w4.setCells N 197 (row .u8 32 (bl (b.take 32)))=w5 at M hwz OF ⊢
 refine xT ?_; go_upto_region 3 with fail; refine wR (xmL ?_); refine xpL (.pointer (some ⟨N,0,none⟩)) ?_; refine xpL (.pointer (some ⟨N,1,none⟩)) ?_; refine xmL ?_
 refine xcL (j8p w0 _ N _ _ _ s.st hg.s hw.st (some a1) cap JK (b.take 32) hE1 hE2 Jq M ((hs_1 _ _ _ (hs.off OF)).1.congr GK)) ?_; rintro e w6 ⟨rfl,M',o1⟩; clear M; have M:=M'; clear M'; replace hwz:=xnT hwz (Off.size o1); replace OF:=OF.and1 o1 (.inl Jf); clear o1; refine xeL ?_
 refine xT ?_
 have hw1:SymW (jU s.st (b.take 32)):=uF hw.st _
 go_upto_region 4 with fail
 refine wD (S:=fun w'=>∃ (s1_:Sym),Mm w0 ((N,qF av s1_ (bl (LD.pub s.sec)) (kfv A) (bl (LD.pub s.drw)) (kfv D) (bl s.its) (bl (b.take 32)) (fun _=>0) (fun _=>0))::(A,row .u8 32 s.sec)::(D,row .u8 32 s.drw)::l) w') JU ⟨_,M.drew⟩ ?_; intro _
 replace M:=M.drew; have hdr:=(Below.refl w6.heap.size w6).drew; replace hwz:=xnT hwz hdr.size; replace OF:=OF.below hdr; clear hdr; generalize w6.drew=w7 at M hwz OF ⊢; refine xmH 0 30 ⟨_,M⟩ ?_; refine xmH 1 31 ⟨_,M⟩ ?_
 refine xrH 2 32 rfl (.pointer (some ⟨N,0,none⟩)) (fun _ ⟨_,M⟩=>JU) ⟨_,M⟩ ?_; refine xrH 3 33 rfl (.pointer (some ⟨N,99,none⟩)) (fun _ ⟨_,M⟩=>JU) ⟨_,M⟩ ?_
 refine xrH 4 34 rfl (.agg ([row .u8 32 (bl (LD.pub s.sec)),[kfv A]].flatten).toArray) (fun _ ⟨_,M⟩=>jD 59 _ ⟨N,99,none⟩ ([row .u8 32 (bl (LD.pub s.sec)),[kfv A]].flatten) rfl rfl JW UJ (M.part mS 99 _ (yW [[Value.int .i64 av],_] [row .u8 32 (bl (LD.pub s.sec)),[kfv A]] [row .u8 32 (bl (LD.pub s.drw)),[kfv D],row .u8 32 (bl s.its),row .u8 32 (bl (b.take 32)),row .u8 32 (fun _=>0),row .u8 32 (fun _=>0)] 99 JU))) ⟨_,M⟩ ?_
 refine xmH 5 35 ⟨_,M⟩ ?_; refine xrH 6 36 rfl (.pointer (some ⟨N,0,none⟩)) (fun _ ⟨_,M⟩=>JU) ⟨_,M⟩ ?_; refine xrH 7 37 rfl (.pointer (some ⟨N,197,none⟩)) (fun _ ⟨_,M⟩=>JU) ⟨_,M⟩ ?_
 refine xrH 8 38 rfl _ Uf ⟨_,M⟩ ?_
 refine yaH 9 39 (vL w0 _ N A _ _ _ (jU s.st (b.take 32)) hg hw1 (bl (LD.pub s.sec)) s.sec (bl (b.take 32)) hw.sec (hE2.bl32 hE1) mS M) ?_; rintro e w8 ⟨rfl,M',o1⟩; clear M; have M:=M'; clear M'; replace hwz:=xnT hwz (Off.size o1); replace OF:=OF.and1 o1 (.inl Jf); clear o1
 refine ⟨_,rfl,⟨_,M⟩,nH ?_⟩
 refine xmH 10 9 ⟨_,M⟩ ?_
 refine wE JU ?_ _
 first | show Exit.then _ _ _ _ _ | show Exit.inBlock _ _ _ _ _
 by_cases h1:tm s.sec (bl (b.take 32))=0
 · replace h1:=show Hid _ from h1
   go_upto_region 5 with fail; refine wR (xmL ?_); refine xaL (.bool true) (xE .i64 _ _ _ _ _ _ rfl rfl rfl true Yy _) (xT ?_); go_upto_region 6 with fail; refine wR (xm2 ?_); refine xmL (xT ?_); replace M:=M.rot3; replace M:=M.rot3; replace M:=M.rot3; have hE:=show Hid _ from j0y hst.out hl hm h1.out; exact Xf
 replace h1:=show Hid _ from h1
 go_upto_region 5 with fail; refine wR (xmL ?_); refine xaL (.bool false) (xE .i64 _ _ _ _ _ _ rfl rfl rfl false Vd _) (xT ?_)
 rw [zM h1.out] at M
 have hw2:SymW (jZ (jU s.st (b.take 32)) (lby (tm s.sec (bl (b.take 32))))):=yM hw1 _
 go_upto_region 7 with fail; refine wR (xmL ?_); refine xpL (.pointer (some ⟨N,0,none⟩)) ?_; refine xpL (.pointer (some ⟨N,1,none⟩)) ?_; refine xmL ?_
 refine xcL (q3v w0 _ N _ _ _ (jZ (jU s.st (b.take 32)) (lby (tm s.sec (bl (b.take 32))))) hg.s hw2 (show (0:Nat)<4611686018427387904 by decide) p2 (cap-32) 48 ((b.drop 32).take 48) (by rw [List.length_take,List.length_drop]; omega) ((hb.drop 32).take 48) JK hn_2 JK M ((hs_2 _ _ _ (hs.off OF)).congr (fun j hj=>by rw [eA]; exact sG _ _ _ hj))) ?_
 rintro e w9 ⟨⟨v9,rfl,Nq_⟩,M',o1⟩; have N_9:=NewF.lower Nq_ hwz; clear Nq_; clear M; have M:=M'; clear M'; replace hwz:=xnT hwz (Off.size o1); replace OF:=OF.and1 o1 (.inl Jf); clear o1
 obtain ⟨p9,c9,rfl,hcc_9,hnn_9,_,ha_9⟩:=id N_9
 refine xeL ?_; replace M:Mm w0 ((N,[[Value.int .i64 av],jA (xH (jZ (jU s.st (b.take 32)) (lby (tm s.sec (bl (b.take 32))))) ((b.drop 32).take 48)),row .u8 32 (bl (LD.pub s.sec)),[kfv A],row .u8 32 (bl (LD.pub s.drw)),[kfv D],row .u8 32 (bl s.its),row .u8 32 (bl (b.take 32)),row .u8 32 (fun _=>0),row .u8 32 (fun _=>0)].flatten)::(A,row .u8 32 s.sec)::(D,row .u8 32 s.drw)::l) w9:=M
 refine xm2 ?_
 refine xm3 (xT ?_)
 by_cases h2:soE (jZ (jU s.st (b.take 32)) (lby (tm s.sec (bl (b.take 32))))) ((b.drop 32).take 48)=0
 · replace h2:=show Hid _ from h2
   go_upto_region 8 with fail; refine wR (xmL ?_); refine xaL (.bool false) (xE .i64 _ _ _ _ _ _ rfl rfl rfl false (by rw [h2.out]; rfl) _) (xT ?_); have h48:((b.drop 32).take 48).length=48:=by rw [List.length_take,List.length_drop]; omega
   have h32:(soT (jZ (jU s.st (b.take 32)) (lby (tm s.sec (bl (b.take 32))))) ((b.drop 32).take 48)).length=32:=by rw [j0s rfl h2.out,h48]
   have hSb:Byts (soT (jZ (jU s.st (b.take 32)) (lby (tm s.sec (bl (b.take 32))))) ((b.drop 32).take 48)):=bK ((hb.drop 32).take 48); have N_k:NewF w9 w.heap.size 32 (bl (soT (jZ (jU s.st (b.take 32)) (lby (tm s.sec (bl (b.take 32))))) ((b.drop 32).take 48))) (.slice p9 32 c9):=by
    have h:=N_9; unfold vA at h; rw [h32] at h; exact h
   clear N_9; rw [h32]; obtain ⟨a_k,e_k,_⟩:=(NewF.src N_k) 0 JG; subst e_k; replace h32:=show Hid _ from h32; replace h48:=show Hid _ from h48; go_upto_region 10 with fail; refine wR (xm2 ?_); refine xpL (.pointer (some a_k)) ?_
   refine zV (.agg (row .u8 32 (bl (soT (jZ (jU s.st (b.take 32)) (lby (tm s.sec (bl (b.take 32))))) ((b.drop 32).take 48)))).toArray) rfl (jD 23 _ a_k (row .u8 32 (bl (soT (jZ (jU s.st (b.take 32)) (lby (tm s.sec (bl (b.take 32))))) ((b.drop 32).take 48)))) rfl rfl JW JH (j0r ((NewF.src N_k)) JG)) (nL ?_); refine xpL (.pointer (some ⟨N,0,none⟩)) ?_; refine xpL (.pointer (some ⟨N,165,none⟩)) ?_; refine jG rfl (jC (row .u8 32 (bl (soT (jZ (jU s.st (b.take 32)) (lby (tm s.sec (bl (b.take 32))))) ((b.drop 32).take 48)))) N 165 23 _ _ rfl rfl rfl (M.thereP mS 165 32 Yh) JU (jT .u8 32 (bl (soT (jZ (jU s.st (b.take 32)) (lby (tm s.sec (bl (b.take 32))))) ((b.drop 32).take 48))))) ?_; simp only [Act.put]; replace M:=M.setPart (row .u8 32 (bl (soT (jZ (jU s.st (b.take 32)) (lby (tm s.sec (bl (b.take 32))))) ((b.drop 32).take 48)))) 165 Wm; rw [tY _ [1,98,32,1,32,1,32,32,32,32] JU 6 165 _ (row .u8 32 (bl (soT (jZ (jU s.st (b.take 32)) (lby (tm s.sec (bl (b.take 32))))) ((b.drop 32).take 48)))) rfl rfl Ub] at M; replace hwz:=xnT hwz (Off.size ((Off.refl [N] _).setAll (b:=N) mS 165 (row .u8 32 (bl (soT (jZ (jU s.st (b.take 32)) (lby (tm s.sec (bl (b.take 32))))) ((b.drop 32).take 48)))))); replace OF:=OF.and1 ((Off.refl [N] _).setAll (b:=N) mS 165 (row .u8 32 (bl (soT (jZ (jU s.st (b.take 32)) (lby (tm s.sec (bl (b.take 32))))) ((b.drop 32).take 48))))) (.inl Jf); replace N_k:=NewF.off N_k ((Off.refl [N] _).setAll (b:=N) mS 165 (row .u8 32 (bl (soT (jZ (jU s.st (b.take 32)) (lby (tm s.sec (bl (b.take 32))))) ((b.drop 32).take 48))))) Jy; generalize w9.setCells N 165 (row .u8 32 (bl (soT (jZ (jU s.st (b.take 32)) (lby (tm s.sec (bl (b.take 32))))) ((b.drop 32).take 48))))=w10 at M hwz OF N_k ⊢; refine xT ?_; clear N_k; have hw3:SymW (xH (jZ (jU s.st (b.take 32)) (lby (tm s.sec (bl (b.take 32))))) ((b.drop 32).take 48)):=rT hw2 _; go_upto_region 11 with fail; refine wD (S:=fun w'=>∃ (s1_:Sym),Mm w0 ((N,qF av s1_ (bl (LD.pub s.sec)) (kfv A) (bl (LD.pub s.drw)) (kfv D) (bl (soT (jZ (jU s.st (b.take 32)) (lby (tm s.sec (bl (b.take 32))))) ((b.drop 32).take 48))) (bl (b.take 32)) (fun _=>0) (fun _=>0))::(A,row .u8 32 s.sec)::(D,row .u8 32 s.drw)::l) w') JU ⟨_,M.drew⟩ ?_; intro _; replace M:=M.drew; have hdr:=(Below.refl w10.heap.size w10).drew; replace hwz:=xnT hwz hdr.size; replace OF:=OF.below hdr; clear hdr; generalize w10.drew=w11 at M hwz OF ⊢; refine xmH 0 60 ⟨_,M⟩ ?_; refine xmH 1 61 ⟨_,M⟩ ?_; refine xrH 2 62 rfl (.pointer (some ⟨N,0,none⟩)) (fun _ ⟨_,M⟩=>JU) ⟨_,M⟩ ?_; refine xrH 3 63 rfl (.pointer (some ⟨N,99,none⟩)) (fun _ ⟨_,M⟩=>JU) ⟨_,M⟩ ?_; refine xrH 4 64 rfl (.agg ([row .u8 32 (bl (LD.pub s.sec)),[kfv A]].flatten).toArray) (fun _ ⟨_,M⟩=>jD 59 _ ⟨N,99,none⟩ ([row .u8 32 (bl (LD.pub s.sec)),[kfv A]].flatten) rfl rfl JW UJ (M.part mS 99 _ (yW [[Value.int .i64 av],_] [row .u8 32 (bl (LD.pub s.sec)),[kfv A]] [row .u8 32 (bl (LD.pub s.drw)),[kfv D],row .u8 32 (bl (soT (jZ (jU s.st (b.take 32)) (lby (tm s.sec (bl (b.take 32))))) ((b.drop 32).take 48))),row .u8 32 (bl (b.take 32)),row .u8 32 (fun _=>0),row .u8 32 (fun _=>0)] 99 JU))) ⟨_,M⟩ ?_; refine xmH 5 65 ⟨_,M⟩ ?_; refine xrH 6 66 rfl (.pointer (some ⟨N,0,none⟩)) (fun _ ⟨_,M⟩=>JU) ⟨_,M⟩ ?_; refine xrH 7 67 rfl (.pointer (some ⟨N,165,none⟩)) (fun _ ⟨_,M⟩=>JU) ⟨_,M⟩ ?_; refine xrH 8 68 rfl (.agg (row .u8 32 (bl (soT (jZ (jU s.st (b.take 32)) (lby (tm s.sec (bl (b.take 32))))) ((b.drop 32).take 48)))).toArray) (fun _ ⟨_,M⟩=>jD 23 _ ⟨N,165,none⟩ (row .u8 32 (bl (soT (jZ (jU s.st (b.take 32)) (lby (tm s.sec (bl (b.take 32))))) ((b.drop 32).take 48)))) rfl rfl JW JH (M.part mS 165 _ (qU _ [1,98,32,1,32,1,32,32,32,32] JU 6 165 _ rfl rfl))) ⟨_,M⟩ ?_; refine j9g (i:=9) (some 69) rfl JU rfl rfl JW (vL w0 _ N A _ _ _ (xH (jZ (jU s.st (b.take 32)) (lby (tm s.sec (bl (b.take 32))))) ((b.drop 32).take 48)) hg hw3 (bl (LD.pub s.sec)) s.sec (bl (soT (jZ (jU s.st (b.take 32)) (lby (tm s.sec (bl (b.take 32))))) ((b.drop 32).take 48))) hw.sec (hSb.bl32 h32.out) mS M) ?_; rintro e w12 ⟨rfl,M',o1⟩; clear M; have M:=M'; clear M'; replace hwz:=xnT hwz (Off.size o1); replace OF:=OF.and1 o1 (.inl Jf); clear o1; refine ⟨_,rfl,⟨_,M⟩,nH ?_⟩; refine xmH 10 12 ⟨_,M⟩ ?_; refine wE JU ?_ _
   first | show Exit.then _ _ _ _ _ | show Exit.inBlock _ _ _ _ _
   by_cases h4:tm s.sec (bl (soT (jZ (jU s.st (b.take 32)) (lby (tm s.sec (bl (b.take 32))))) ((b.drop 32).take 48)))=0
   · replace h4:=show Hid _ from h4
     go_upto_region 12 with fail; refine wR (xmL ?_); refine xaL (.bool true) (xE .i64 _ _ _ _ _ _ rfl rfl rfl true (by rw [xW h4.out]; rfl) _) (xT ?_); go_upto_region 13 with fail; refine wR ?_; refine xm3 (xT ?_); replace M:=M.rot3; replace M:=M.rot3; replace M:=M.rot3; have hE:=show Hid _ from j0x hst.out hl hm h1.out rfl h2.out h4.out; have h20:=show Hid _ from (xW h4.out); have HS:=show Hid _ from (And.intro M OF); clear M OF; go_wp2; go_ret2
     exact ⟨_,_,by rw [hE.out,h20.out]; rfl,fun h=>absurd h (by rw [hE.out]; decide),HS.out⟩
   replace h4:=show Hid _ from h4
   go_upto_region 12 with fail; refine wR (xmL ?_); refine xaL (.bool false) (xE .i64 _ _ _ _ _ _ rfl rfl rfl false (by rw [fQ h4.out]; rfl) _) (xT ?_); rw [zM h4.out] at M; have hw4:SymW (jZ (xH (jZ (jU s.st (b.take 32)) (lby (tm s.sec (bl (b.take 32))))) ((b.drop 32).take 48)) (lby (tm s.sec (bl (soT (jZ (jU s.st (b.take 32)) (lby (tm s.sec (bl (b.take 32))))) ((b.drop 32).take 48)))))):=yM hw3 _; go_upto_region 14 with fail; refine wR (xmL ?_); refine xpL (.pointer (some ⟨N,0,none⟩)) ?_; refine xpL (.pointer (some ⟨N,1,none⟩)) ?_; refine xmL ?_; refine xcL (q3v w0 _ N _ _ _ (jZ (xH (jZ (jU s.st (b.take 32)) (lby (tm s.sec (bl (b.take 32))))) ((b.drop 32).take 48)) (lby (tm s.sec (bl (soT (jZ (jU s.st (b.take 32)) (lby (tm s.sec (bl (b.take 32))))) ((b.drop 32).take 48)))))) hg.s hw4 (show (0:Nat)<4611686018427387904 by decide) p3 (cap-80) (b.length-80) (b.drop 80) WG (hb.drop 80) JK hn_3 JK M ((hs_3 _ _ _ (hs.off OF)).congr Wg)) ?_; rintro e w13 ⟨⟨v13,rfl,Nq_⟩,M',o1⟩; have N_13:=NewF.lower Nq_ hwz; clear Nq_; clear M; have M:=M'; clear M'; replace hwz:=xnT hwz (Off.size o1); replace OF:=OF.and1 o1 (.inl Jf); clear o1; obtain ⟨p13,c13,rfl,hcc_13,hnn_13,_,ha_13⟩:=id N_13; refine xeL ?_; refine xmL ?_; refine xmL ?_; refine xmL ?_; refine xmL (xT ?_); by_cases h3:soE (jZ (xH (jZ (jU s.st (b.take 32)) (lby (tm s.sec (bl (b.take 32))))) ((b.drop 32).take 48)) (lby (tm s.sec (bl (soT (jZ (jU s.st (b.take 32)) (lby (tm s.sec (bl (b.take 32))))) ((b.drop 32).take 48)))))) (b.drop 80)=0
   · replace h3:=show Hid _ from h3
     replace M:=M.rot3; replace M:=M.rot3; replace M:=M.rot3; have hE:=show Hid _ from (j0z hst.out hl hm h1.out rfl h2.out h4.out rfl h3.out); have h0_:=h3; have HS:=show Hid _ from (And.intro N_13 (And.intro M OF)); clear M OF N_13 h3 ; exact Xn
   replace h3:=show Hid _ from h3
   replace M:=M.rot3; replace M:=M.rot3; replace M:=M.rot3; have hE:=show Hid _ from j1a hst.out hl hm h1.out rfl h2.out h4.out rfl h3.out; have hx_:=h3; have HS:=show Hid _ from (And.intro M OF); clear M OF N_13; exact JY
 replace h2:=show Hid _ from h2
 go_upto_region 8 with fail; refine wR (xmL ?_); refine xaL (.bool true) (xE .i64 _ _ _ _ _ _ rfl rfl rfl true (by rw [bne_iff_ne]; exact h2.out) _) (xT ?_); go_upto_region 9 with fail; refine wR ?_
 refine xm3 (xT ?_); replace M:=M.rot3; replace M:=M.rot3; replace M:=M.rot3
 have hE:=show Hid _ from j1b hst.out hl hm h1.out rfl h2.out; have hx_:=h2; have HS:=show Hid _ from (And.intro M OF); clear M OF N_9; go_wp2; go_ret2
 exact ⟨_,_,by rw [hE.out]; rfl,fun h=>absurd h (by rw [hE.out]; exact hx_.out),HS.out⟩
end Go.Proofs.YtknodlefhclijaaGreatDoor
