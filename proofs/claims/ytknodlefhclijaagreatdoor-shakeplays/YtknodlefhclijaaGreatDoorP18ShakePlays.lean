/- Texts of Kg Kh Lx Wlh Ly, joined. -/
import Derived.Test.YtknodlefhclijaaGreatDoorP17ShakePlays
set_option maxRecDepth 20000
set_option maxHeartbeats 64000000
namespace Go.Proofs.YtknodlefhclijaaGreatDoor
open Go.RowKit
def kJ (fr tw lo hi:Int) (F:FuncId):Value:=.agg #[.int .i64 fr,.int .i64 tw,.int .i64 lo,.int .i64 hi,.func (.func F) #[] #[]]
theorem q7u {x:Except Int (List Int × Shk)} (h:¬ shE x=0):shB x=[]:=by
 cases x with
 | error=>rfl
 | ok=>exact absurd rfl h
theorem rP {x:Except Int (List Int × Shk)} (h:¬ shE x=0) (s:Shk):shN s x=s:=by
 cases x with
 | error=>rfl
 | ok=>exact absurd rfl h
theorem nR (w0 w:World) (R:Nat) (l:List (Nat × List Value)) (av:Int) (st:Sym) (p q its drn k1 k2:Nat→Int) (fA fD:Value) (fr tw lo hi:Int) (F:FuncId) (sp:Option Addr) (n cap:Nat) (hne:¬ av=fr) (M:Mm w0 ((R,qF av st p fA q fD its drn k1 k2)::l) w) :
 Calls Tryz.prog 31 #[.pointer (some ⟨R,0,none⟩),kJ fr tw lo hi F,.slice sp n cap] w fun e w'=>e=.returned (.tuple #[.slice none 0 0,.int .i64 4])∧Below w.heap.size w w':=by
 unfold kJ
 have hb0:=M.below; have hwz:=xnR w.heap.size; have OF:=Off.refl [] w
 go_enter Tryz.func31,Tryz.ntmps31
 go_upto_region 0 with fail; refine wR ?_; refine nbO ([.int .i64 fr,.int .i64 tw,.int .i64 lo,.int .i64 hi,.func (.func F) #[] #[]]) 73 M hwz OF ?_; clear M hwz OF; intro w1 B1 hB_B1 M hwz OF
 refine xm2 (xT ?_); go_upto_region 1 with fail
 refine hdM M hwz OF ?_; clear M hwz OF; intro w2 M hwz OF; refine xmH 0 11 M ?_; refine xrH 1 12 rfl (.pointer (some ⟨R,0,none⟩)) (fun _ M=>JU) M ?_
 refine xrH 2 13 rfl (.pointer (some ⟨R,0,none⟩)) (fun _ M=>JU) M ?_; refine xrH 3 14 rfl _ Ud M ?_; refine xrH 4 15 rfl (.pointer (some ⟨B1,0,none⟩)) (fun _ M=>JU) M ?_
 refine xrH 5 16 rfl _ Wi M ?_; refine xrH 6 17 rfl (.bool true) (fun _ M=>xE .i64 _ _ _ _ _ _ rfl rfl rfl true (by rw [bne_iff_ne]; exact hne) _) M ?_
 refine wE JU ?_ _
 first | show Exit.then _ _ _ _ _ | show Exit.inBlock _ _ _ _ _
 go_upto_region 2 with fail; refine wR (xm2 ?_); refine xT ?_
 have hbel:Below w.heap.size w w2:=⟨M.below.os.trans hb0.os.symm,M.below.tape.trans hb0.tape.symm,M.below.output.trans hb0.output.symm,OF.size,fun b hb=>OF.blk b hb VZ⟩
 clear M OF; go_wp2; go_ret2
 exact ⟨rfl,hbel⟩
def TkP (w0 w:World) (R A D:Nat) (l:List (Nat × List Value)) (s:Shk) (fr tw:Int) (x:Except Int (List Int × Shk)) (e:Ending) (w':World):Prop :=
 ∃ u,e=.returned (.tuple #[u,.int .i64 (shE x)])∧vA w' w.heap.size (shB x) u∧Off [R,A,D] w w'∧((¬ shE x=0∧Mm w0 ((R,kcs fr s A D)::(A,row .u8 32 s.sec)::(D,row .u8 32 s.drw)::l) w')∨(shE x=0∧¬ tw=5∧Mm w0 ((R,kcs tw (shN s x) A D)::(A,row .u8 32 s.sec)::(D,row .u8 32 s.drw)::l) w')∨(shE x=0∧tw=5∧Mm w0 ((R,kce (shN s x))::l) w'))
theorem q4q (w0 w:World) (R A D:Nat) (l:List (Nat × List Value)) (s:Shk) (fr tw:Int) (lo hi:Nat) (F:FuncId) (r:Shk→List Int→Except Int (List Int × Shk)) (g:Shk→List Int→Prop) (hF4:F=33∨F=34∨F=35∨F=32) (hF:q2a F r g) (hg:HGlob13 w0) (hw:yY s) (sp:Option Addr) (cap:Nat) (b:List Int) (hcap:b.length≤cap) (hnil:sp=none→cap=0) (hb:Byts b)
 (hx3:b.length<lo→r s b=.error 3) (hx2:¬ b.length<lo→hi<b.length→r s b=.error 2) (hgo:¬ b.length<lo→¬ hi<b.length→g s b) (hsw:SymW (shN s (r s b)).st) (M:Mm w0 ((R,kcs fr s A D)::(A,row .u8 32 s.sec)::(D,row .u8 32 s.drw)::l) w) (hs:SrcA [R,A,D] w sp b.length (bl b)) :
 Calls Tryz.prog 31 #[.pointer (some ⟨R,0,none⟩),kJ fr tw lo hi F,.slice sp b.length cap] w (TkP w0 w R A D l s fr tw (r s b)):=by
 unfold kJ
 have hRw:=M.lt mS; have hAw:=M.lt (mT _ mS); have hDw:=M.lt (mI 2 rfl); have hwz:=xnR w.heap.size; have OF:=Off.refl [R,A,D] w
 replace M:Mm w0 ((R,qF fr s.st (bl (LD.pub s.sec)) (kfv A) (bl (LD.pub s.drw)) (kfv D) (bl s.its) (bl s.drn) (fun _=>0) (fun _=>0))::(A,row .u8 32 s.sec)::(D,row .u8 32 s.drw)::l) w:=M
 go_enter Tryz.func31,Tryz.ntmps31
 go_upto_region 0 with fail; refine wR ?_; refine nbO ([.int .i64 fr,.int .i64 tw,.int .i64 (lo:Int),.int .i64 (hi:Int),.func (.func F) #[] #[]]) 73 M hwz OF ?_; clear M hwz OF; intro w1 B1 hB_B1 M hwz OF
 refine xm2 (xT ?_); go_upto_region 1 with fail
 refine hdM M hwz OF ?_; clear M hwz OF; intro w2 M hwz OF; refine xmH 0 11 M ?_; refine xrH 1 12 rfl (.pointer (some ⟨R,0,none⟩)) (fun _ M=>JU) M ?_
 refine xrH 2 13 rfl (.pointer (some ⟨R,0,none⟩)) (fun _ M=>JU) M ?_; refine xrH 3 14 rfl _ Ud M ?_; refine xrH 4 15 rfl (.pointer (some ⟨B1,0,none⟩)) (fun _ M=>JU) M ?_
 refine xrH 5 16 rfl _ Wi M ?_; refine xrH 6 17 rfl (.bool false) (fun _ M=>xE .i64 _ _ _ _ _ _ rfl rfl rfl false Jf _) M ?_
 refine wE JU ?_ _
 first | show Exit.then _ _ _ _ _ | show Exit.inBlock _ _ _ _ _
 by_cases hl:b.length<lo
 · replace hl:=show Hid _ from hl
   go_upto_region 3 with fail; refine wR (xmL ?_); refine xaL _ (gQ _ 32 5 _ _ _ rfl Tryz.underlying32 rfl _) ?_; refine xpL (.pointer (some ⟨B1,2,none⟩)) ?_; refine xaL _ (qL 3 _ _ _ rfl rfl JW (M.get mS 2 _ rfl)) ?_; refine xaL (.bool true) (gP .i64 _ _ _ _ _ _ rfl rfl rfl true (decide_eq_true WZ) _) (xT ?_); go_upto_region 4 with fail; refine wR (xm2 ?_); refine xT ?_; replace M:=M.rot4; replace M:=M.rot4; replace M:=M.rot4; replace M:Mm w0 ((R,qF fr s.st (bl (LD.pub s.sec)) (kfv A) (bl (LD.pub s.drw)) (kfv D) (bl s.its) (bl s.drn) (fun _=>0) (fun _=>0))::(A,row .u8 32 s.sec)::(D,row .u8 32 s.drw)::l) w2:=M.sub _ (List.cons_sublist_cons.2 (List.cons_sublist_cons.2 (List.cons_sublist_cons.2 (List.Sublist.cons _ (List.Sublist.refl _))))); have hE:=show Hid _ from (hx3 hl.out); have HS:=show Hid _ from (And.intro M OF); clear M OF; go_wp2; go_ret2
   exact ⟨_,by rw [hE.out]; rfl,by rw [hE.out]; exact NewF.nil _ _ _,HS.out.2,.inl ⟨by rw [hE.out]; decide,HS.out.1⟩⟩
 go_upto_region 3 with fail
 refine wR (xmL ?_); refine xaL _ (gQ _ 32 5 _ _ _ rfl Tryz.underlying32 rfl _) ?_; refine xpL (.pointer (some ⟨B1,2,none⟩)) ?_; refine xaL _ (qL 3 _ _ _ rfl rfl JW (M.get mS 2 _ rfl)) ?_
 refine xaL (.bool false) (gP .i64 _ _ _ _ _ _ rfl rfl rfl false (decide_eq_false JK) _) (xT ?_)
 by_cases hm:hi<b.length
 · replace hm:=show Hid _ from hm
   go_upto_region 5 with fail; refine wR (xmL ?_); refine xaL _ (gQ _ 32 5 _ _ _ rfl Tryz.underlying32 rfl _) ?_; refine xpL (.pointer (some ⟨B1,3,none⟩)) ?_; refine xaL _ (qL 3 _ _ _ rfl rfl JW (M.get mS 3 _ rfl)) ?_; refine xaL (.bool true) (lZ .i64 _ _ _ _ _ _ rfl rfl rfl true (decide_eq_true (by have:=hm.out; omega)) _) (xT ?_); go_upto_region 6 with fail; refine wR (xm2 ?_); refine xT ?_; replace M:=M.rot4; replace M:=M.rot4; replace M:=M.rot4; replace M:Mm w0 ((R,qF fr s.st (bl (LD.pub s.sec)) (kfv A) (bl (LD.pub s.drw)) (kfv D) (bl s.its) (bl s.drn) (fun _=>0) (fun _=>0))::(A,row .u8 32 s.sec)::(D,row .u8 32 s.drw)::l) w2:=M.sub _ (List.cons_sublist_cons.2 (List.cons_sublist_cons.2 (List.cons_sublist_cons.2 (List.Sublist.cons _ (List.Sublist.refl _))))); have hE:=show Hid _ from (hx2 hl hm.out); have HS:=show Hid _ from (And.intro M OF); clear M OF; go_wp2; go_ret2
   exact ⟨_,by rw [hE.out]; rfl,by rw [hE.out]; exact NewF.nil _ _ _,HS.out.2,.inl ⟨by rw [hE.out]; decide,HS.out.1⟩⟩
 go_upto_region 5 with fail
 refine wR (xmL ?_); refine xaL _ (gQ _ 32 5 _ _ _ rfl Tryz.underlying32 rfl _) ?_; refine xpL (.pointer (some ⟨B1,3,none⟩)) ?_; refine xaL _ (qL 3 _ _ _ rfl rfl JW (M.get mS 3 _ rfl)) ?_
 refine xaL (.bool false) (lZ .i64 _ _ _ _ _ _ rfl rfl rfl false (decide_eq_false JK) _) (xT ?_); go_upto_region 7 with fail; refine wR (xmL ?_); replace M:=M.swap
 refine xcL (j6t w0 _ R A D _ fr s M) ?_; rintro e w3 ⟨N,rfl,hq_,M',l⟩; have hB_N:=xnT hwz hq_; clear M hq_; have M:=M'; clear M'; replace hwz:=xnT hwz l.size; replace OF:=OF.below l; clear l; refine xeL ?_
 refine xmL (xT ?_); go_upto_region 8 with fail; refine wR (xpL (.pointer (some ⟨B1,4,none⟩)) ?_); refine xaL _ (qL _ _ ⟨B1,4,none⟩ _ rfl rfl JW (M.get (mI 2 rfl) 4 _ rfl)) ?_; refine xm2 ?_
 replace M:Mm w0 ((D,row .u8 32 s.drw)::(N,qF fr s.st (bl (LD.pub s.sec)) (kfv A) (bl (LD.pub s.drw)) (kfv D) (bl s.its) (bl s.drn) (fun _=>0) (fun _=>0))::(R,qF fr s.st (bl (LD.pub s.sec)) (kfv A) (bl (LD.pub s.drw)) (kfv D) (bl s.its) (bl s.drn) (fun _=>0) (fun _=>0))::(B1,[.int .i64 fr,.int .i64 tw,.int .i64 (lo:Int),.int .i64 (hi:Int),.func (.func F) #[] #[]])::(A,row .u8 32 s.sec)::l) w3:=M.perm (List.perm_middle (l₁:=[_,_,_,_]) (a:=_) (l₂:=_))
 replace M:Mm w0 ((A,row .u8 32 s.sec)::(D,row .u8 32 s.drw)::(N,qF fr s.st (bl (LD.pub s.sec)) (kfv A) (bl (LD.pub s.drw)) (kfv D) (bl s.its) (bl s.drn) (fun _=>0) (fun _=>0))::(R,qF fr s.st (bl (LD.pub s.sec)) (kfv A) (bl (LD.pub s.drw)) (kfv D) (bl s.its) (bl s.drn) (fun _=>0) (fun _=>0))::(B1,[.int .i64 fr,.int .i64 tw,.int .i64 (lo:Int),.int .i64 (hi:Int),.func (.func F) #[] #[]])::l) w3:=M.perm (List.perm_middle (l₁:=[_,_,_,_]) (a:=_) (l₂:=_))
 replace M:=M.rot3; have hl_N:=M.lt mS; have hl_R:=M.lt (mI 3 rfl); have hbw:=hwz
 refine nD rfl (fun _=>by rcases hF4 with rfl | rfl | rfl | rfl <;> kernel_rfl) (hF w0 _ N A D _ fr s hg hw sp cap b (hgo hl hm) hcap hnil hb M ((((hs.more N hB_N).off (OF.mono (fun x hx=>mT _ hx))).less (fun x hx=>by obtain rfl:=xm1 hx; exact mS)))) ?_; rintro e w4 ⟨u_,cs_,rfl,hok,M',o1⟩; clear M; have M:=M'; clear M'; replace hwz:=xnT hwz (Off.size o1)
 replace OF:=OF.and1 o1 (.inr JK); clear o1
 refine ⟨_,rfl,nL ?_⟩
 refine xm3 ?_; refine xm2 (xT ?_)
 by_cases hE0:shE (r s b)=0
 · obtain ⟨N_u,rfl⟩:=hok hE0; replace hE0:=show Hid _ from hE0; have htw:=hsw
   obtain ⟨t,ht⟩:∃ t,t=shN s (r s b):=⟨_,rfl⟩
   rw [← ht] at M htw; replace ht:=show Hid _ from ht; clear hok
   go_upto_region 9 with fail; refine wR (xmL ?_); refine xaL (.bool false) (xE .i64 _ _ _ _ _ _ rfl rfl rfl false (by rw [hE0.out]; rfl) _) (xT ?_); go_upto_region 11 with fail; refine wR (xmL ?_); refine xpL (.pointer (some ⟨B1,1,none⟩)) ?_; refine xaL _ (qL _ _ ⟨B1,1,none⟩ _ rfl rfl JW (M.get (mI 4 rfl) 1 _ rfl)) ?_; refine xpL (.pointer (some ⟨N,0,none⟩)) ?_; refine xpL (.pointer (some ⟨N,0,none⟩)) ?_; replace M:Mm w0 ((N,[[Value.int .i64 fr],jA t.st,row .u8 32 (bl (LD.pub t.sec)),[kfv A],row .u8 32 (bl (LD.pub t.drw)),[kfv D],row .u8 32 (bl t.its),row .u8 32 (bl t.drn),row .u8 32 (fun _=>0),row .u8 32 (fun _=>0)].flatten)::(A,row .u8 32 s.sec)::(D,row .u8 32 s.drw)::(R,[[Value.int .i64 fr],jA s.st,row .u8 32 (bl (LD.pub s.sec)),[kfv A],row .u8 32 (bl (LD.pub s.drw)),[kfv D],row .u8 32 (bl s.its),row .u8 32 (bl s.drn),row .u8 32 (fun _=>0),row .u8 32 (fun _=>0)].flatten)::(B1,[.int .i64 fr,.int .i64 tw,.int .i64 (lo:Int),.int .i64 (hi:Int),.func (.func F) #[] #[]])::l) w4:=M; refine jG rfl (xR (.int .i64 tw) N 0 53 _ _ rfl rfl rfl rfl rfl (M.isSome mS 0 Yh) (M.free mS 0 Yh) JU) ?_; simp only [Act.put]; replace M:=M.set 0 Yh (.int .i64 tw); rw [uM _ [1,98,32,1,32,1,32,32,32,32] JU 0 0 _ (.int .i64 tw) rfl rfl] at M; replace hwz:=xnT hwz (Off.size ((Off.refl [N] _).set (b:=N) mS 0 (.int .i64 tw))); replace OF:=OF.and1 ((Off.refl [N] _).set (b:=N) mS 0 (.int .i64 tw)) (.inr JK); replace N_u:=NewF.off N_u ((Off.refl [N] _).set (b:=N) mS 0 (.int .i64 tw)) Jy; generalize w4.setCell ⟨N,0,none⟩ (.int .i64 tw)=w5 at M hwz OF N_u ⊢; refine xT ?_; by_cases h5:tw=5
   · replace h5:=show Hid _ from h5
     go_upto_region 12 with fail; refine wR (xmL ?_); refine xpL (.pointer (some ⟨N,0,none⟩)) ?_; refine xpL (.pointer (some ⟨N,0,none⟩)) ?_; refine xaL _ (qL _ _ ⟨N,0,none⟩ _ rfl rfl JW (M.get mS 0 _ (xV _ [1,98,32,1,32,1,32,32,32,32] JU 0 0 _ rfl rfl))) ?_; refine xaL (.bool true) (kS .i64 _ _ _ _ _ _ rfl rfl rfl true (by rw [beq_iff_eq]; exact h5.out) _) (xT ?_); go_upto_region 13 with fail; refine wR (xmL ?_); refine xcL (q4v w0 _ N A D _ tw t hg htw M) ?_; rintro e w6 ⟨rfl,M',o1⟩; clear M; have M:=M'; clear M'; replace hwz:=xnT hwz (Off.size o1); replace OF:=OF.and1 o1 (.inr JK); replace N_u:=NewF.off N_u o1 Jy; clear o1; refine xeL ?_; refine xT ?_; go_upto_region 14 with fail; refine wR (xm2 ?_); refine xpL (.pointer (some ⟨N,0,none⟩)) ?_; refine zV (.agg (qF 5 uQ (fun _=>0) Value.nilFunc (fun _=>0) Value.nilFunc (bl t.its) (fun _=>0) (kA t.st.c 0 (bl [])) (kB t.st.c 0 (bl []))).toArray) rfl (jD 61 _ ⟨N,0,none⟩ (qF 5 uQ (fun _=>0) Value.nilFunc (fun _=>0) Value.nilFunc (bl t.its) (fun _=>0) (kA t.st.c 0 (bl [])) (kB t.st.c 0 (bl []))) rfl rfl JW UG (M.part mS 0 _ (yW [] [[Value.int .i64 5],jA uQ,row .u8 32 (fun _=>0),[Value.nilFunc],row .u8 32 (fun _=>0),[Value.nilFunc],row .u8 32 (bl t.its),row .u8 32 (fun _=>0),row .u8 32 (kA t.st.c 0 (bl [])),row .u8 32 (kB t.st.c 0 (bl []))] [] 0 JU))) (nL ?_); refine xpL (.pointer (some ⟨R,0,none⟩)) ?_; replace M:=M.rot4; refine jG rfl (jC (qF 5 uQ (fun _=>0) Value.nilFunc (fun _=>0) Value.nilFunc (bl t.its) (fun _=>0) (kA t.st.c 0 (bl [])) (kB t.st.c 0 (bl []))) R 0 61 _ _ rfl rfl rfl (M.thereP mS 0 293 Yh) Vb (zF _ (fun p_ hp_=>by
      simp only [List.mem_cons,List.not_mem_nil,or_false] at hp_; rcases hp_ with rfl | rfl | rfl | rfl | rfl | rfl | rfl | rfl | rfl | rfl <;> first | exact jT .u8 32 _ | exact yB _ | (intro u hu; obtain rfl:=xm1 hu; rfl)))) ?_
     simp only [Act.put]; replace M:=M.setAll (qF 5 uQ (fun _=>0) Value.nilFunc (fun _=>0) Value.nilFunc (bl t.its) (fun _=>0) (kA t.st.c 0 (bl [])) (kB t.st.c 0 (bl []))) Yk; replace hwz:=xnT hwz (Off.size ((Off.refl [R] _).setAll (b:=R) mS 0 (qF 5 uQ (fun _=>0) Value.nilFunc (fun _=>0) Value.nilFunc (bl t.its) (fun _=>0) (kA t.st.c 0 (bl [])) (kB t.st.c 0 (bl []))))); replace OF:=OF.and1 ((Off.refl [R] _).setAll (b:=R) mS 0 (qF 5 uQ (fun _=>0) Value.nilFunc (fun _=>0) Value.nilFunc (bl t.its) (fun _=>0) (kA t.st.c 0 (bl [])) (kB t.st.c 0 (bl [])))) (.inl Jf); replace N_u:=NewF.off N_u ((Off.refl [R] _).setAll (b:=R) mS 0 (qF 5 uQ (fun _=>0) Value.nilFunc (fun _=>0) Value.nilFunc (bl t.its) (fun _=>0) (kA t.st.c 0 (bl [])) (kB t.st.c 0 (bl [])))) Jy; generalize w6.setCells R 0 (qF 5 uQ (fun _=>0) Value.nilFunc (fun _=>0) Value.nilFunc (bl t.its) (fun _=>0) (kA t.st.c 0 (bl [])) (kB t.st.c 0 (bl [])))=w7 at M hwz OF N_u ⊢; refine xT ?_; go_upto_region 15 with fail; refine wR (xmL ?_); refine xm2 (xT ?_); replace M:Mm w0 ((R,qF 5 uQ (fun _=>0) Value.nilFunc (fun _=>0) Value.nilFunc (bl t.its) (fun _=>0) (kA t.st.c 0 (bl [])) (kB t.st.c 0 (bl [])))::l) w7:=M.sub _ (List.cons_sublist_cons.2 (List.Sublist.cons _ (List.Sublist.cons _ (List.Sublist.cons _ (List.Sublist.cons _ (List.Sublist.refl _)))))); have N_v:=NewF.lower N_u hbw; have HS:=show Hid _ from (And.intro N_v (And.intro OF M)); clear M OF N_u N_v; go_wp2; go_ret2
     exact ⟨u_,by rw [hE0.out]; rfl,HS.out.1,HS.out.2.1,.inr (.inr ⟨hE0.out,h5.out,by rw [← ht.out]; exact HS.out.2.2⟩)⟩
   replace h5:=show Hid _ from h5
   go_upto_region 12 with fail; refine wR (xmL ?_); refine xpL (.pointer (some ⟨N,0,none⟩)) ?_; refine xpL (.pointer (some ⟨N,0,none⟩)) ?_; refine xaL _ (qL _ _ ⟨N,0,none⟩ _ rfl rfl JW (M.get mS 0 _ (xV _ [1,98,32,1,32,1,32,32,32,32] JU 0 0 _ rfl rfl))) ?_; refine xaL (.bool false) (kS .i64 _ _ _ _ _ _ rfl rfl rfl false (by rw [beq_eq_false_iff_ne]; exact h5.out) _) (xT ?_); go_upto_region 14 with fail; refine wR (xm2 ?_); refine xpL (.pointer (some ⟨N,0,none⟩)) ?_; refine zV (.agg (qF tw t.st (bl (LD.pub t.sec)) (kfv A) (bl (LD.pub t.drw)) (kfv D) (bl t.its) (bl t.drn) (fun _=>0) (fun _=>0)).toArray) rfl (jD 61 _ ⟨N,0,none⟩ (qF tw t.st (bl (LD.pub t.sec)) (kfv A) (bl (LD.pub t.drw)) (kfv D) (bl t.its) (bl t.drn) (fun _=>0) (fun _=>0)) rfl rfl JW UG (M.part mS 0 _ (yW [] [[Value.int .i64 tw],jA t.st,row .u8 32 (bl (LD.pub t.sec)),[kfv A],row .u8 32 (bl (LD.pub t.drw)),[kfv D],row .u8 32 (bl t.its),row .u8 32 (bl t.drn),row .u8 32 (fun _=>0),row .u8 32 (fun _=>0)] [] 0 JU))) (nL ?_); refine xpL (.pointer (some ⟨R,0,none⟩)) ?_; replace M:=M.rot4; refine jG rfl (jC (qF tw t.st (bl (LD.pub t.sec)) (kfv A) (bl (LD.pub t.drw)) (kfv D) (bl t.its) (bl t.drn) (fun _=>0) (fun _=>0)) R 0 61 _ _ rfl rfl rfl (M.thereP mS 0 293 Yh) Vb (zF _ (fun p_ hp_=>by
    simp only [List.mem_cons,List.not_mem_nil,or_false] at hp_; rcases hp_ with rfl | rfl | rfl | rfl | rfl | rfl | rfl | rfl | rfl | rfl <;> first | exact jT .u8 32 _ | exact yB _ | (intro u hu; obtain rfl:=xm1 hu; rfl)))) ?_
   simp only [Act.put]; replace M:=M.setAll (qF tw t.st (bl (LD.pub t.sec)) (kfv A) (bl (LD.pub t.drw)) (kfv D) (bl t.its) (bl t.drn) (fun _=>0) (fun _=>0)) Yk; replace hwz:=xnT hwz (Off.size ((Off.refl [R] _).setAll (b:=R) mS 0 (qF tw t.st (bl (LD.pub t.sec)) (kfv A) (bl (LD.pub t.drw)) (kfv D) (bl t.its) (bl t.drn) (fun _=>0) (fun _=>0)))); replace OF:=OF.and1 ((Off.refl [R] _).setAll (b:=R) mS 0 (qF tw t.st (bl (LD.pub t.sec)) (kfv A) (bl (LD.pub t.drw)) (kfv D) (bl t.its) (bl t.drn) (fun _=>0) (fun _=>0))) (.inl Jf); replace N_u:=NewF.off N_u ((Off.refl [R] _).setAll (b:=R) mS 0 (qF tw t.st (bl (LD.pub t.sec)) (kfv A) (bl (LD.pub t.drw)) (kfv D) (bl t.its) (bl t.drn) (fun _=>0) (fun _=>0))) Jy; generalize w5.setCells R 0 (qF tw t.st (bl (LD.pub t.sec)) (kfv A) (bl (LD.pub t.drw)) (kfv D) (bl t.its) (bl t.drn) (fun _=>0) (fun _=>0))=w8 at M hwz OF N_u ⊢; refine xT ?_; go_upto_region 15 with fail; refine wR (xm2 ?_); refine xmL (xT ?_); replace M:=M.rot4; replace M:=M.rot4; replace M:=M.rot3; replace M:Mm w0 ((R,qF tw t.st (bl (LD.pub t.sec)) (kfv A) (bl (LD.pub t.drw)) (kfv D) (bl t.its) (bl t.drn) (fun _=>0) (fun _=>0))::(A,row .u8 32 s.sec)::(D,row .u8 32 s.drw)::l) w8:=M.sub _ (List.cons_sublist_cons.2 (List.cons_sublist_cons.2 (List.cons_sublist_cons.2 (List.Sublist.cons _ (List.Sublist.cons _ (List.Sublist.refl _)))))); have N_v:=NewF.lower N_u hbw; have HS:=show Hid _ from (And.intro N_v (And.intro OF M)); clear M OF N_u N_v; go_wp2; go_ret2
   exact ⟨u_,by rw [hE0.out]; rfl,HS.out.1,HS.out.2.1,.inr (.inl ⟨hE0.out,h5.out,by rw [← ht.out]; exact HS.out.2.2⟩)⟩
 replace hE0:=show Hid _ from hE0
 go_upto_region 9 with fail; refine wR (xmL ?_); refine xaL (.bool true) (xE .i64 _ _ _ _ _ _ rfl rfl rfl true (by rw [bne_iff_ne]; exact hE0.out) _) (xT ?_); go_upto_region 10 with fail; refine wR (xm3 ?_)
 refine xT ?_; replace M:=M.rot3; replace M:=M.rot3; replace M:=M.rot4
 replace M:Mm w0 ((R,qF fr s.st (bl (LD.pub s.sec)) (kfv A) (bl (LD.pub s.drw)) (kfv D) (bl s.its) (bl s.drn) (fun _=>0) (fun _=>0))::(A,row .u8 32 s.sec)::(D,row .u8 32 s.drw)::l) w4:=M.sub _ (List.cons_sublist_cons.2 (List.cons_sublist_cons.2 (List.cons_sublist_cons.2 (List.Sublist.cons _ (List.Sublist.cons _ (List.Sublist.refl _))))))
 have HS:=show Hid _ from (And.intro M OF); clear M OF hok; go_wp2; go_ret2
 exact ⟨_,rfl,by rw [q7u hE0.out]; exact NewF.nil _ _ _,HS.out.2,.inl ⟨hE0.out,HS.out.1⟩⟩
theorem j6n (w:World) (R:Nat) (sp:Option Addr) (n cap:Nat) (Q:Ending→World→Prop) (h:Calls Tryz.prog 31 #[.pointer (some ⟨R,0,none⟩),kJ 2 3 0 128 33,.slice sp n cap] w fun e w'=>∃ u c,e=.returned (.tuple #[u,c])∧Q (.returned (.tuple #[u,c])) w') :
 Calls Tryz.prog 17 #[.pointer (some ⟨R,0,none⟩),.slice sp n cap] w fun e w'=>Hid (Q e w'):=by
 unfold kJ at h
 go_enter Tryz.func17,Tryz.ntmps17
 go_upto_region 0 with fail; refine wR (xm2 ?_); refine xT ?_; go_upto_region 1 with fail; refine wR (xmL ?_); refine xpL (.agg #[.int .i64 2,.int .i64 3,.int .i64 0,.int .i64 128,.func (.func 33) #[] #[]]) ?_; refine xmL ?_; refine xcL h ?_
 rintro e w1 ⟨u_,c_,rfl,hQ⟩; exact Qz
theorem cC (w:World) (R:Nat) (sp:Option Addr) (n cap:Nat) (Q:Ending→World→Prop) (h:Calls Tryz.prog 31 #[.pointer (some ⟨R,0,none⟩),kJ 1 4 96 224 34,.slice sp n cap] w fun e w'=>∃ u c,e=.returned (.tuple #[u,c])∧Q (.returned (.tuple #[u,c])) w') :
 Calls Tryz.prog 18 #[.pointer (some ⟨R,0,none⟩),.slice sp n cap] w fun e w'=>Hid (Q e w'):=by
 unfold kJ at h
 go_enter Tryz.func18,Tryz.ntmps18
 go_upto_region 0 with fail; refine wR (xm2 ?_); refine xT ?_; go_upto_region 1 with fail; refine wR (xmL ?_); refine xpL (.agg #[.int .i64 1,.int .i64 4,.int .i64 96,.int .i64 224,.func (.func 34) #[] #[]]) ?_; refine xmL ?_; refine xcL h ?_
 rintro e w1 ⟨u_,c_,rfl,hQ⟩; exact Qz
theorem j4b (w:World) (R:Nat) (sp:Option Addr) (n cap:Nat) (Q:Ending→World→Prop) (h:Calls Tryz.prog 31 #[.pointer (some ⟨R,0,none⟩),kJ 4 5 0 128 35,.slice sp n cap] w fun e w'=>∃ u c,e=.returned (.tuple #[u,c])∧Q (.returned (.tuple #[u,c])) w') :
 Calls Tryz.prog 19 #[.pointer (some ⟨R,0,none⟩),.slice sp n cap] w fun e w'=>Hid (Q e w'):=by
 unfold kJ at h
 go_enter Tryz.func19,Tryz.ntmps19
 go_upto_region 0 with fail; refine wR (xm2 ?_); refine xT ?_; go_upto_region 1 with fail; refine wR (xmL ?_); refine xpL (.agg #[.int .i64 4,.int .i64 5,.int .i64 0,.int .i64 128,.func (.func 35) #[] #[]]) ?_; refine xmL ?_; refine xcL h ?_
 rintro e w1 ⟨u_,c_,rfl,hQ⟩; exact Qz
theorem lX (w:World) (R:Nat) (sp:Option Addr) (n cap:Nat) (Q:Ending→World→Prop) (h:Calls Tryz.prog 31 #[.pointer (some ⟨R,0,none⟩),kJ 3 5 48 176 32,.slice sp n cap] w fun e w'=>∃ u c,e=.returned (.tuple #[u,c])∧Q (.returned (.tuple #[u,c])) w') :
 Calls Tryz.prog 16 #[.pointer (some ⟨R,0,none⟩),.slice sp n cap] w fun e w'=>Hid (Q e w'):=by
 unfold kJ at h
 go_enter Tryz.func16,Tryz.ntmps16
 go_upto_region 0 with fail; refine wR (xm2 ?_); refine xT ?_; go_upto_region 1 with fail; refine wR (xmL ?_); refine xpL (.agg #[.int .i64 3,.int .i64 5,.int .i64 48,.int .i64 176,.func (.func 32) #[] #[]]) ?_; refine xmL ?_; refine xcL h ?_
 rintro e w1 ⟨u_,c_,rfl,hQ⟩; exact Qz
structure aY (fr tw:Int) (lo hi:Nat) (r:Shk→List Int→Except Int (List Int × Shk)) (g:Shk→List Int→Prop):Prop where
 f5:¬ fr=5
 st:∀ s b,s.role≤1→s.step≤2→¬ atv s=fr→r s b=.error 4
 sh:∀ s b,s.role≤1→s.step≤2→atv s=fr→b.length<lo→r s b=.error 3
 lg:∀ s b,s.role≤1→s.step≤2→atv s=fr→¬ b.length<lo→hi<b.length→r s b=.error 2
 go:∀ s b,s.role≤1→s.step≤2→atv s=fr→¬ b.length<lo→¬ hi<b.length→g s b
 nx:∀ s b,s.role≤1→s.step≤2→atv s=fr→shE (r s b)=0→(shN s (r s b)).role=s.role∧(shN s (r s b)).sec=s.sec∧(shN s (r s b)).drw=s.drw∧atv (shN s (r s b))=tw∧(shN s (r s b)).step≤2∧((shN s (r s b)).step=2↔tw=5)
 nw:∀ s b,yY s→Byts b→yY (shN s (r s b))
theorem q6r {s:Shk} (h:s.step=2):atv s=5:=if_pos h
theorem j1t {fr tw:Int} {lo hi:Nat} {F G:FuncId} {r:Shk→List Int→Except Int (List Int × Shk)} {g:Shk→List Int→Prop} (hT:aY fr tw lo hi r g) (hF4:F=33∨F=34∨F=35∨F=32) (hF:q2a F r g)
 (hV:∀ (w:World) (R:Nat) (sp:Option Addr) (n cap:Nat) (Q:Ending→World→Prop),Calls Tryz.prog 31 #[.pointer (some ⟨R,0,none⟩),kJ fr tw lo hi F,.slice sp n cap] w (fun e w'=>∃ u c,e=.returned (.tuple #[u,c])∧Q (.returned (.tuple #[u,c])) w')→Calls Tryz.prog G #[.pointer (some ⟨R,0,none⟩),.slice sp n cap] w fun e w'=>Hid (Q e w')) :
 dX KI G r:=by
 intro w0 w v s bs l hg hI hw sp cap b _ hcap hnil hb M hs
 obtain ⟨hr,h2,R,rfl,hI⟩:=hI
 refine (hV _ _ _ _ _ _ ?_).mono fun _ _ h=>h.out
 by_cases hat:atv s=fr
 · rcases hI with ⟨hlt,A,D,rfl⟩ | ⟨he,rfl⟩
   · rw [hat] at M; refine (q4q w0 w R A D l s fr tw lo hi F r g hF4 hF hg hw sp cap b hcap hnil hb (hT.sh s b hr h2 hat) (hT.lg s b hr h2 hat) (hT.go s b hr h2 hat) (hT.nw s b hw hb).st M hs).mono fun e w' h=>?_
     obtain ⟨u,rfl,hN,hO,h⟩:=h; refine ⟨u,_,rfl,⟨u,rfl,hN⟩,?_⟩; rcases h with ⟨hE,M'⟩ | ⟨hE,h5,M'⟩ | ⟨hE,h5,M'⟩
     · rw [rP hE]; exact ⟨_,⟨hr,h2,R,rfl,.inl ⟨hlt,A,D,rfl⟩⟩,fun p hp=>List.mem_map_of_mem hp,by rw [hat]; exact M',hO⟩
     · obtain ⟨n1,n2,n3,n4,n5,n6⟩:=hT.nx s b hr h2 hat hE; rw [← n4,← n2,← n3] at M'; exact ⟨[(R,_),(A,_),(D,_)],⟨by rw [n1]; exact hr,n5,R,rfl,.inl ⟨by have:=mt n6.1 h5; omega,A,D,rfl⟩⟩,fun p hp=>(by
        simp only [List.mem_cons,List.not_mem_nil,or_false] at hp; rcases hp with rfl | rfl | rfl <;> simp),M',hO⟩
     obtain ⟨n1,n2,n3,n4,n5,n6⟩:=hT.nx s b hr h2 hat hE; exact ⟨[(R,_)],⟨by rw [n1]; exact hr,n5,R,rfl,.inr ⟨n6.2 h5,rfl⟩⟩,fun p hp=>(by
      obtain rfl:=xm1 hp; simp),M',hO⟩
   exact absurd ((q6r he).symm.trans hat).symm hT.f5
 have hx:=hT.st s b hr h2 hat
 have key:Calls Tryz.prog 31 #[.pointer (some ⟨R,0,none⟩),kJ fr tw lo hi F,.slice sp b.length cap] w fun e w'=>e=.returned (.tuple #[.slice none 0 0,.int .i64 4])∧Below w.heap.size w w':=by
  rcases hI with ⟨_,A,D,rfl⟩ | ⟨he,rfl⟩
  · exact nR w0 w R _ (atv s) s.st (bl (LD.pub s.sec)) (bl (LD.pub s.drw)) (bl s.its) (bl s.drn) (fun _=>0) (fun _=>0) (kfv A) (kfv D) fr tw lo hi F sp b.length cap hat M
  rw [q6r he] at hat; exact nR w0 w R _ 5 uQ (fun _=>0) (fun _=>0) (bl s.its) (fun _=>0) (kA s.st.c 0 (bl [])) (kB s.st.c 0 (bl [])) .nilFunc .nilFunc fr tw lo hi F sp b.length cap hat M
 refine key.mono fun e w' ⟨he,hl⟩=>?_; subst he
 rw [hx]
 exact ⟨_,_,rfl,⟨_,rfl,NewF.nil _ _ _⟩,bs,⟨hr,h2,R,rfl,hI⟩,fun p hp=>List.mem_map_of_mem hp,M.call hl,Off.of_below hl⟩
theorem q6s {s:Shk} (hr:s.role≤1) (hs:s.step≤2):atv s=2↔¬ (s.role≠0∨s.step≠0):=by unfold atv; split <;> (try split) <;> omega
theorem j9o {s:Shk} (hr:s.role≤1) (hs:s.step≤2):atv s=1↔¬ (s.role≠1∨s.step≠0):=by unfold atv; split <;> (try split) <;> omega
theorem j4x {s:Shk} (hr:s.role≤1) (_:s.step≤2):atv s=3↔¬ (s.role≠0∨s.step≠1):=by unfold atv; split <;> (try split) <;> omega
theorem j9n {s:Shk} (hr:s.role≤1) (_:s.step≤2):atv s=4↔¬ (s.role≠1∨s.step≠1):=by unfold atv; split <;> (try split) <;> omega
theorem q3b {s:Shk} {t:List Int} (h:shE (shF LD s t)=0):¬ (s.role≠0∨s.step≠0)∧∃ m x,shF LD s t=.ok (m,{ s with st:=x,step:=1 })∧(SymW s.st→SymW x):=by
 by_cases c1:s.role≠0∨s.step≠0
 · rw [gZ c1] at h; exact absurd h JG
 by_cases c2:128<t.length
 · rw [mR c1 c2] at h; exact absurd h JG
 by_cases c3:tm s.drw (bl s.its)=0
 · rw [bP c1 c2 c3] at h; exact absurd h JG
 by_cases c4:tm s.sec (bl s.its)=0
 · rw [j1e c1 c2 c3 c4] at h; exact absurd h JG
 exact ⟨c1,_,_,bL (L:=LD) (Decidable.not_not.1 (not_or.1 c1).1) (Decidable.not_not.1 (not_or.1 c1).2) JK (xZ c3) (xZ c4),fun hw=>rK (yM (rK (yM (uF hw _) _) _) _) _⟩
theorem q2y {s:Shk} {t:List Int} (h:shE (shS LD s t)=0):¬ (s.role≠1∨s.step≠1)∧∃ m x,shS LD s t=.ok (m,{ s with st:=x,step:=2 })∧(SymW s.st→SymW x):=by
 by_cases c1:s.role≠1∨s.step≠1
 · rw [kN c1] at h; exact absurd h JG
 by_cases c2:128<t.length
 · rw [mF c1 c2] at h; exact absurd h JG
 by_cases c3:tm s.drw (bl s.drn)=0
 · rw [j1d c1 c2 c3] at h; exact absurd h JG
 by_cases c4:tm s.drw (bl s.its)=0
 · rw [j1c c1 c2 c3 c4] at h; exact absurd h JG
 exact ⟨c1,_,_,bF (L:=LD) (Decidable.not_not.1 (not_or.1 c1).1) (Decidable.not_not.1 (not_or.1 c1).2) JK (xZ c3) (xZ c4),fun hw=>rK (yM (yM (uF hw _) _) _) _⟩
theorem j7z {s:Shk} {b:List Int} (h:shE (uY LD s b)=0):¬ (s.role≠1∨s.step≠0)∧∃ m x its,uY LD s b=.ok (m,{ s with st:=x,its:=its,drn:=b.take 32,step:=1 })∧(SymW s.st→SymW x)∧(Byts b→its.length=32∧Byts its∧(b.take 32).length=32):=by
 by_cases c1:s.role≠1∨s.step≠0
 · rw [fS c1] at h; exact absurd h JG
 by_cases c2:b.length<96
 · rw [fF c1 c2] at h; exact absurd h JG
 by_cases c3:224<b.length
 · rw [dS c1 c2 c3] at h; exact absurd h JG
 by_cases c4:tm s.sec (bl (b.take 32))=0
 · rw [j0y c1 c2 c3 c4] at h; exact absurd h JG
 by_cases c5:soE (jZ (jU s.st (b.take 32)) (lby (tm s.sec (bl (b.take 32))))) ((b.drop 32).take 48)=0
 · by_cases c6:tm s.sec (bl (soT (jZ (jU s.st (b.take 32)) (lby (tm s.sec (bl (b.take 32))))) ((b.drop 32).take 48)))=0
   · rw [j0x c1 c2 c3 c4 rfl c5 c6] at h; exact absurd h JG
   by_cases c7:soE (jZ (xH (jZ (jU s.st (b.take 32)) (lby (tm s.sec (bl (b.take 32))))) ((b.drop 32).take 48)) (lby (tm s.sec (bl (soT (jZ (jU s.st (b.take 32)) (lby (tm s.sec (bl (b.take 32))))) ((b.drop 32).take 48)))))) (b.drop 80)=0
   · exact ⟨c1,_,_,_,j0z c1 c2 c3 c4 rfl c5 c6 rfl c7,fun hw=>rT (yM (rT (yM (uF hw _) _) _) _) _,fun hb=>⟨by rw [j0s rfl c5,List.length_take,List.length_drop]; omega,bK ((hb.drop 32).take 48),by rw [List.length_take]; omega⟩⟩
   rw [j1a c1 c2 c3 c4 rfl c5 c6 rfl c7] at h; exact absurd h c7
 rw [j1b c1 c2 c3 c4 rfl c5] at h; exact absurd h c5
theorem j7y {s:Shk} {b:List Int} (h:shE (uK LD s b)=0):¬ (s.role≠0∨s.step≠1)∧∃ m x,uK LD s b=.ok (m,{ s with st:=x,step:=2 })∧(SymW s.st→SymW x):=by
 by_cases c1:s.role≠0∨s.step≠1
 · rw [tS c1] at h; exact absurd h JG
 by_cases c2:b.length<48
 · rw [fM c1 c2] at h; exact absurd h JG
 by_cases c3:176<b.length
 · rw [dM c1 c2 c3] at h; exact absurd h JG
 by_cases c4:tm s.drw (bl (b.take 32))=0
 · rw [j0v c1 c2 c3 c4] at h; exact absurd h JG
 by_cases c5:tm s.sec (bl (b.take 32))=0
 · rw [j0u c1 c2 c3 c4 c5] at h; exact absurd h JG
 by_cases c6:soE (jZ (jZ (jU s.st (b.take 32)) (lby (tm s.drw (bl (b.take 32))))) (lby (tm s.sec (bl (b.take 32))))) (b.drop 32)=0
 · exact ⟨c1,_,_,j0w c1 c2 c3 c4 c5 rfl c6,fun hw=>rT (yM (yM (uF hw _) _) _) _⟩
 rw [bS c1 c2 c3 c4 c5 rfl c6] at h; exact absurd h c6
theorem q2z {s:Shk} (hw:yY s) (t:List Int):yY (shN s (shF LD s t)):=by
 by_cases h:shE (shF LD s t)=0
 · obtain ⟨_,m,x,e,hx⟩:=q3b h; exact JV
 rw [rP h]; exact hw
theorem q2w {s:Shk} (hw:yY s) (t:List Int):yY (shN s (shS LD s t)):=by
 by_cases h:shE (shS LD s t)=0
 · obtain ⟨_,m,x,e,hx⟩:=q2y h; exact JV
 rw [rP h]; exact hw
theorem j5p {s:Shk} (hw:yY s) (t:List Int):yY (shN s (uK LD s t)):=by
 by_cases h:shE (uK LD s t)=0
 · obtain ⟨_,m,x,e,hx⟩:=j7y h; exact JV
 rw [rP h]; exact hw
theorem j5q {s:Shk} (hw:yY s) (b:List Int) (hb:Byts b):yY (shN s (uY LD s b)):=by
 by_cases h:shE (uY LD s b)=0
 · obtain ⟨_,m,x,its,e,hx,hi⟩:=j7z h; rw [e]; exact ⟨hw.sec,hw.drw,⟨(hi hb).1,(hi hb).2.1⟩,⟨(hi hb).2.2,hb.take 32⟩,hx hw.st⟩
 rw [rP h]; exact hw
theorem x1n:aY 2 3 0 128 (shF LD) (fun s b=>¬ (s.role≠0∨s.step≠0)∧¬ 128<b.length) where
 f5:=by decide
 st:=fun s b hr hs h=>gZ (Decidable.not_not.1 fun h'=>h ((q6s hr hs).2 h'))
 sh:=fun _ b _ _ _ h=>absurd h (xnZ _)
 lg:=fun s b hr hs h _ hl=>mR ((q6s hr hs).1 h) hl
 go:=fun s b hr hs h _ hl=>⟨(q6s hr hs).1 h,hl⟩
 nx:=fun s b hr hs _ h=>by
  obtain ⟨c,m,x,e,_⟩:=q3b h
  rw [e]
  exact ⟨rfl,rfl,rfl,(j4x (s:=shN s (.ok (m,{ s with st:=x,step:=1 }))) hr (show (1:Nat)≤2 by decide)).2 (by show ¬ (s.role≠0∨1≠1); omega),nB rfl,by show (1=2↔(3:Int)=5); decide⟩
 nw:=fun s b hw _=>q2z hw b
theorem q7h:aY 1 4 96 224 (uY LD) (fun s b=>¬ (s.role≠1∨s.step≠0)∧¬ b.length<96∧¬ 224<b.length) where
 f5:=by decide
 st:=fun s b hr hs h=>fS (Decidable.not_not.1 fun h'=>h ((j9o hr hs).2 h'))
 sh:=fun s b hr hs h hl=>fF ((j9o hr hs).1 h) hl
 lg:=fun s b hr hs h h1 hl=>dS ((j9o hr hs).1 h) h1 hl
 go:=fun s b hr hs h h1 hl=>⟨(j9o hr hs).1 h,h1,hl⟩
 nx:=fun s b hr hs _ h=>by
  obtain ⟨c,m,x,its,e,_⟩:=j7z h
  rw [e]
  exact ⟨rfl,rfl,rfl,(j9n (s:=shN s (.ok (m,{ s with st:=x,its:=its,drn:=b.take 32,step:=1 }))) hr (show (1:Nat)≤2 by decide)).2 (by show ¬ (s.role≠1∨1≠1); omega),nB rfl,by show (1=2↔(4:Int)=5); decide⟩
 nw:=fun s b hw hb=>j5q hw b hb
theorem x1m:aY 4 5 0 128 (shS LD) (fun s b=>¬ (s.role≠1∨s.step≠1)∧¬ 128<b.length) where
 f5:=by decide
 st:=fun s b hr hs h=>kN (Decidable.not_not.1 fun h'=>h ((j9n hr hs).2 h'))
 sh:=fun _ b _ _ _ h=>absurd h (xnZ _)
 lg:=fun s b hr hs h _ hl=>mF ((j9n hr hs).1 h) hl
 go:=fun s b hr hs h _ hl=>⟨(j9n hr hs).1 h,hl⟩
 nx:=fun s b hr hs _ h=>by
  obtain ⟨c,m,x,e,_⟩:=q2y h
  rw [e]
  exact ⟨rfl,rfl,rfl,rfl,xnR _,by show (2=2↔(5:Int)=5); decide⟩
 nw:=fun s b hw _=>q2w hw b
theorem q7g:aY 3 5 48 176 (uK LD) (fun s b=>¬ (s.role≠0∨s.step≠1)∧¬ b.length<48∧¬ 176<b.length) where
 f5:=by decide
 st:=fun s b hr hs h=>tS (Decidable.not_not.1 fun h'=>h ((j4x hr hs).2 h'))
 sh:=fun s b hr hs h hl=>fM ((j4x hr hs).1 h) hl
 lg:=fun s b hr hs h h1 hl=>dM ((j4x hr hs).1 h) h1 hl
 go:=fun s b hr hs h h1 hl=>⟨(j4x hr hs).1 h,h1,hl⟩
 nx:=fun s b hr hs _ h=>by
  obtain ⟨c,m,x,e,_⟩:=j7y h
  rw [e]
  exact ⟨rfl,rfl,rfl,rfl,xnR _,by show (2=2↔(5:Int)=5); decide⟩
 nw:=fun s b hw _=>j5p hw b
theorem q7r {s:Shk} (hr:s.role≤1) (hs:s.step≤2):decide (atv s>1)=shO s:=by
 unfold shO atv
 rw [decide_eq_decide]
 split <;> (try split) <;> omega
theorem q4r:dZ KI where
 ptr:=fun v s bs h=>by
  obtain ⟨_,_,R,h,_⟩:=h
  exact ⟨R,h⟩
 beg:=fun w0 w l a d B hg ha hd hB hBb M=>(j6u w0 w l a d ha hd B hB hBb hg M).mono fun e w' ⟨R,A,D,he,h1,h2,h3,M',hl⟩=>⟨_,[(R,_),(A,_),(D,_)],he,⟨Nat.zero_le _,Nat.zero_le _,R,rfl,.inl ⟨show (0:Nat)<2 by decide,A,D,rfl⟩⟩,fun p hp=>by
  simp only [List.mem_cons,List.not_mem_nil,or_false] at hp
  rcases hp with rfl | rfl | rfl
  · exact h1
  · exact h2
  · exact h3,M',hl⟩
 awt:=fun w0 w l b f hg hb hf M=>(j6v w0 w l b f hb hf hg M).mono fun e w' ⟨R,A,D,he,h1,h2,h3,M',hl⟩=>⟨_,[(R,_),(A,_),(D,_)],he,⟨xnR _,Nat.zero_le _,R,rfl,.inl ⟨show (0:Nat)<2 by decide,A,D,rfl⟩⟩,fun p hp=>by
  simp only [List.mem_cons,List.not_mem_nil,or_false] at hp
  rcases hp with rfl | rfl | rfl
  · exact h1
  · exact h2
  · exact h3,M',hl⟩
 fst:=j1t x1n (.inl rfl) j1u j6n
 tfs:=j1t q7h (.inr (.inl rfl)) cA cC
 snd:=j1t x1m (.inr (.inr (.inl rfl))) j4d j4b
 tsn:=j1t q7g (.inr (.inr (.inr rfl))) lY lX
 oth:=fun w0 w v s bs l _ hI M=>by
  obtain ⟨hr,h2,R,rfl,hI⟩:=hI
  rw [← q7r hr h2]
  rcases hI with ⟨_,A,D,rfl⟩ | ⟨he,rfl⟩
  · exact cW w0 w R _ (atv s) s.st (bl (LD.pub s.sec)) (bl (LD.pub s.drw)) (bl s.its) (bl s.drn) (fun _=>0) (fun _=>0) (kfv A) (kfv D) M
  · rw [q6r he]
    exact cW w0 w R _ 5 uQ (fun _=>0) (fun _=>0) (bl s.its) (fun _=>0) (kA s.st.c 0 (bl [])) (kB s.st.c 0 (bl [])) .nilFunc .nilFunc M
 kys:=fun w0 w v s bs l _ hI _ M=>by
  obtain ⟨hr,h2,R,rfl,hI⟩:=hI
  rcases hI with ⟨hlt,A,D,rfl⟩ | ⟨he,rfl⟩
  · have e1:shD s=(atv s == 5):=by
     unfold shD atv; rw [if_neg JK]; have:¬ s.step=2:=by omega
     split <;> simp [this] <;> omega
    have e2:shK s=[row .u8 32 (fun _=>0),row .u8 32 (fun _=>0)].flatten:=by
     unfold shK; rw [if_neg JK]
    rw [e1,e2]; exact wN w0 w R _ (atv s) s.st (bl (LD.pub s.sec)) (bl (LD.pub s.drw)) (bl s.its) (bl s.drn) (fun _=>0) (fun _=>0) (kfv A) (kfv D) M
  · have e1:shD s=((5:Int) == 5):=by
     unfold shD; simp [he]
    have e2:shK s=[row .u8 32 (kA s.st.c 0 (bl [])),row .u8 32 (kB s.st.c 0 (bl []))].flatten:=by
     unfold shK; rw [if_pos he]
    rw [e1,e2]; exact wN w0 w R _ 5 uQ (fun _=>0) (fun _=>0) (bl s.its) (fun _=>0) (kA s.st.c 0 (bl [])) (kB s.st.c 0 (bl [])) .nilFunc .nilFunc M
def szs (n:Nat):List Int:=List.replicate n 0
theorem j0q (n:Nat):(szs n).length=n:=List.length_replicate
theorem kR (n:Nat):Byts (szs n):=fun x hx=>by rw [List.eq_of_mem_replicate hx]; exact ⟨Int.le_refl _,by decide⟩
theorem tQ (x:Int) (h0:0≤x) (h1:x<256):In 256 32 (one x):=fun j _=>by
 cases j with
 | zero=>exact ⟨h0,h1⟩
 | succ j=>exact ⟨Int.le_refl _,show (0:Int)<256 by decide⟩
theorem kL {a e:Nat→Int} {B:List Int} (ha:In 256 32 a) (he:In 256 32 e) (hB:B.length=32) (hb:Byts B):yY (qS a e B):=⟨ha,he,⟨hB,hb⟩,⟨rfl,kR 32⟩,uF snew_w _⟩
theorem sL {b f:Nat→Int} (hb:In 256 32 b) (hf:In 256 32 f):yY (yS LD b f):=⟨hb,hf,⟨rfl,kR 32⟩,⟨rfl,kR 32⟩,uF snew_w _⟩
theorem x0f {s:Shk} (h:s.step=2):shK s=[row .u8 32 (kA s.st.c 0 (bl [])),row .u8 32 (kB s.st.c 0 (bl []))].flatten:=if_pos h
theorem x0g {s:Shk} (h:s.step=2):shD s=true:=decide_eq_true h
theorem j3r (xs:Array Value) (o:Nat) (ys:List Value) (h:xs.extract o (o+32)=ys.toArray) (w:World):(part 23 xs o).run Tryz.prog w=.ok (.agg ys.toArray) w:=by
 have e1:(isAgg 23).run Tryz.prog w=.ok true w:=by kernel_rfl
 have e2:(sizeOf 23).run Tryz.prog w=.ok 32 w:=by kernel_rfl
 unfold part
 simp only [Sem.run_bind,e1,xO,if_true,e2,Sem.run_pure,h]
theorem q8k (f g:Nat→Int) (w:World):(part 23 ([row .u8 32 f,row .u8 32 g].flatten).toArray 0).run Tryz.prog w=.ok (.agg (row .u8 32 f).toArray) w:=j3r _ 0 _ (by
 rw [List.extract_toArray,List.extract_eq_take_drop,List.drop_zero,List.flatten_cons,List.take_left' (jX _ _ _)]) w
theorem q8j (f g:Nat→Int) (w:World):(part 23 ([row .u8 32 f,row .u8 32 g].flatten).toArray 32).run Tryz.prog w=.ok (.agg (row .u8 32 g).toArray) w:=j3r _ 32 _ (by
 rw [List.extract_toArray,List.extract_eq_take_drop,List.flatten_cons,List.drop_left' (jX _ _ _),List.flatten_cons,List.take_left' (jX _ _ _)]) w
theorem x2i : (Tryz.prog.fieldsOf 41).toList.map Field.name = ["From", "To"] := by kernel_rfl
theorem x2g:(Tryz.prog.fieldsOf 41).toList.map Field.type=[23,23]:=by kernel_rfl
theorem x2h:(Tryz.prog.fieldsOf 41).toList.map Field.offset=[0,32]:=by kernel_rfl
theorem x1l {l:List Field} {n1 n2:String} {t1 t2:TypeId} {o1 o2:Nat} (hn:l.map Field.name=[n1,n2]) (ht:l.map Field.type=[t1,t2]) (ho:l.map Field.offset=[o1,o2]):∃ a b:Field,l=[a,b]∧a.name=n1∧b.name=n2∧a.type=t1∧b.type=t2∧a.offset=o1∧b.offset=o2:=by
 rcases l with _ | ⟨a,_ | ⟨b,_ | ⟨c,l⟩⟩⟩
 · simp at hn
 · simp at hn
 · simp only [List.map_cons,List.map_nil,List.cons.injEq,and_true] at hn ht ho; exact ⟨a,b,rfl,hn.1,hn.2,ht.1,ht.2,ho.1,ho.2⟩
 simp at hn
theorem q5j {d : Nat} {xs : Array Value} {a b : Field} {t : TypeId} {o1 o2 : Nat} {x y : Value} (w : World) (n1 : a.name ≠ "_") (n2 : b.name ≠ "_") (t1 : a.type = t) (t2 : b.type = t) (h1 : a.offset = o1) (h2 : b.offset = o2) (p1 : (part t xs o1).run Tryz.prog w = .ok x w) (p2 : (part t xs o2).run Tryz.prog w = .ok y w) (q1 : (Op.equalIn d t x x).run Tryz.prog w = .ok true w) (q2 : (Op.equalIn d t y y).run Tryz.prog w = .ok true w) : (Op.eqFields d xs xs [a, b]).run Tryz.prog w = .ok true w := by
 subst t1 h1 h2
 rw [← t2] at p2 q2
 simp only [Op.eqFields,n1,n2,ne_eq,not_false_eq_true,if_true,Sem.run_bind,p1,p2,q1,q2,Result.andThen_ok,Bool.not_true,Bool.false_eq_true,if_false,Sem.run_pure]
theorem q5n (f g:Nat→Int) (w:World):(Op.equalIn (9999+1) 41 (.agg ([row .u8 32 f,row .u8 32 g].flatten).toArray) (.agg ([row .u8 32 f,row .u8 32 g].flatten).toArray)).run Tryz.prog w=.ok true w:=by
 rw [run_equalIn_struct w 9999 41 _ _ JU JU]
 obtain ⟨a,b,e,n1,n2,t1,t2,o1,o2⟩:=x1l x2i x2g x2h
 rw [e]
 have q1:=mJ w 9997 23 5 32 .u8 (P:=Tryz.prog) Tryz.underlying23 Tryz.underlying5 JW
 exact q5j w (by rw [n1]; decide) (by rw [n2]; decide) t1 t2 o1 o2 (q8k f g w) (q8j f g w) (q1 f) (q1 g)
theorem x5o {o:Oper} {a:Act} (f g:Nat→Int) (x y:Operand) (ho:o.op=.binOp .eql 41 x y 41) (hx:a.eval x=.agg ([row .u8 32 f,row .u8 32 g].flatten).toArray) (hy:a.eval y=.agg ([row .u8 32 f,row .u8 32 g].flatten).toArray) (w:World) :
 (execOp a.eval o).run Tryz.prog w=.ok (.value (.bool true)) w:=by
 have e1:(binOp .eql 41 (.agg ([row .u8 32 f,row .u8 32 g].flatten).toArray) (.agg ([row .u8 32 f,row .u8 32 g].flatten).toArray)).run Tryz.prog w=.ok (.bool true) w:=by
  rw [run_eql_struct,q5n]; rfl
 unfold execOp
 simp only [ho,hx,hy,Sem.run_bind,run_eqGuard_agg (P:=Tryz.prog) w .eql 41 x y _ _ JU,xO,e1,Sem.run_pure]
theorem x6r (x e:Nat) (h:e<2^256):(fz ((x:Int)^e)).val=Num.pm QN 256 x e:=by
 have h1:=vX ((x:Int)^e)
 rw [q9x,← Int.natCast_pow,← Int.natCast_emod] at h1
 rw [Num.pm_eq QN 256 x e h,← Int.natCast_pow]
 exact Int.ofNat.inj h1
def q8o (x bits:Nat):Nat:=match ev x bits 255 1 0 x 1 with | (a,b)=>a*Num.pm QN 256 b E%QN
theorem fW (x:Fin QN) {p q:Nat→Bool} (h:∀ t:Fin 255,p t.val=q t.val):∀ i,Ed.run cz x p i=Ed.run cz x q i
 | 0=>rfl
 | i+1=>by
   show Ed.step cz x (p (254-i)) (Ed.run cz x p i)=Ed.step cz x (q (254-i)) (Ed.run cz x q i)
   rw [fW x h i,h ⟨254-i,by omega⟩]
theorem j7v (k u:Nat→Int) (x bits:Nat) (hx:(kz (uX u)).val=x) (hb:∀ t:Fin 255,gY (xC k) t.val=Nat.testBit bits t.val):(tm k u).val=q8o x bits:=by
 obtain ⟨a,b,h⟩:∃ a b,ev x bits 255 1 0 x 1=(a,b):=⟨_,_,rfl⟩
 obtain ⟨ha,hb'⟩:=x3j (kz (uX u)) bits a b (by rw [hx]; exact h)
 unfold tm Ed.out q8o
 rw [fW _ hb 255,h,Fin.val_mul,ha]
 unfold inz
 rw [x6r _ _ JG,hb']
theorem j8z (x:Int) (h:x=1∨x=2∨x=3∨x=4):∀ t:Fin 255,gY (xC (one x)) t.val=Nat.testBit (2^254) t.val:=by
 rcases h with rfl | rfl | rfl | rfl <;> decide +kernel
theorem hL1:q8o 9 (2^254)=52573937849532372069814888178136277301931757964231753054399601207743438775599:=by decide +kernel
theorem hL2:q8o 52573937849532372069814888178136277301931757964231753054399601207743438775599 (2^254)≠0:=by decide +kernel
def hP:Fin QN:=⟨52573937849532372069814888178136277301931757964231753054399601207743438775599,by decide⟩
theorem x6q:tm (one 2) (one 9)=hP:=Fin.ext ((j7v _ _ 9 (2^254) Jw (j8z 2 JG)).trans hL1)
theorem hdh (x:Int) (h:x=1∨x=2∨x=3∨x=4):∃ k,LD.dh (one x) (LD.pub (one 2))=some k:=by
 have e:(tm (one x) (bl (LD.pub (one 2)))).val≠0:=by
  show (tm (one x) (bl (lby (tm (one 2) (one 9))))).val≠0
  rw [x6q,j7v _ _ 52573937849532372069814888178136277301931757964231753054399601207743438775599 (2^254) Jw (j8z x h)]; exact hL2
 exact ⟨_,if_neg fun h0=>e (by rw [h0]; rfl)⟩
theorem htm (x:Int) (h:x=1∨x=2∨x=3∨x=4) (u:Nat→Int):tm (one x) u=tm (one 2) u:=by
 unfold tm
 rw [fW _ (fun q=>(j8z x h q).trans (j8z 2 JG q).symm)]
theorem x5f (a:Nat→Int) (B:List Int):LD.dh a B=if tm a (bl B)=0 then none else some (lby (tm a (bl B))):=rfl
theorem hag (x y:Int) (h:x=1∨x=2∨x=3∨x=4) (g:y=1∨y=2∨y=3∨y=4):∃ k,LD.dh (one x) (LD.pub (one y))=some k∧LD.dh (one y) (LD.pub (one x))=some k:=by
 obtain ⟨k,hk⟩:=hdh 2 JG
 have e:∀ z:Int,z=1∨z=2∨z=3∨z=4→LD.pub (one z)=LD.pub (one 2)∧∀ B,LD.dh (one z) B=LD.dh (one 2) B:=fun z hz=>⟨congrArg lby (htm z hz _),fun B=>by rw [x5f,x5f,htm z hz]⟩
 refine ⟨k,?_,?_⟩
 · rw [(e y g).1,(e x h).2,hk]
 rw [(e x h).1,(e y g).2,hk]
theorem eN {a b:List Int} (ha:Byts a) (hb:Byts b):Byts (a++b):=fun x hx=>(List.mem_append.1 hx).elim (ha x) (hb x)
theorem q3a {s:Shk} {t m:List Int} {A:Shk} (h:shF LD s t=.ok (m,A)) (ht:Byts t) (hw:yY s):m.length=t.length+96∧Byts m∧A.step=1∧yY A:=by
 have hE:shE (shF LD s t)=0:=by rw [h]; rfl
 have hw':=q2z hw t
 rw [h] at hw'
 by_cases c1:s.role≠0∨s.step≠0
 · rw [gZ c1] at h; cases h
 by_cases c2:128<t.length
 · rw [mR c1 c2] at h; cases h
 by_cases c3:tm s.drw (bl s.its)=0
 · rw [bP c1 c2 c3] at h; cases h
 by_cases c4:tm s.sec (bl s.its)=0
 · rw [j1e c1 c2 c3 c4] at h; cases h
 rw [bL (L:=LD) (Decidable.not_not.1 (not_or.1 c1).1) (Decidable.not_not.1 (not_or.1 c1).2) JK (xZ c3) (xZ c4)] at h
 injection h with h
 injection h with h1 h2
 subst h1 h2
 refine ⟨?_,eN (uJ _) (eN (kP (uJ _)) (kP ht)),rfl,hw'⟩
 rw [List.length_append,List.length_append,yU,zE rfl,zE rfl,yU]
 omega
theorem q2x {s:Shk} {t m:List Int} {A:Shk} (h:shS LD s t=.ok (m,A)) (ht:Byts t) (hw:yY s):m.length=t.length+48∧Byts m∧yY A:=by
 have hw':=q2w hw t
 rw [h] at hw'
 by_cases c1:s.role≠1∨s.step≠1
 · rw [kN c1] at h; cases h
 by_cases c2:128<t.length
 · rw [mF c1 c2] at h; cases h
 by_cases c3:tm s.drw (bl s.drn)=0
 · rw [j1d c1 c2 c3] at h; cases h
 by_cases c4:tm s.drw (bl s.its)=0
 · rw [j1c c1 c2 c3 c4] at h; cases h
 rw [bF (L:=LD) (Decidable.not_not.1 (not_or.1 c1).1) (Decidable.not_not.1 (not_or.1 c1).2) JK (xZ c3) (xZ c4)] at h
 injection h with h
 injection h with h1 h2
 subst h1 h2
 refine ⟨?_,eN (uJ _) (kP ht),hw'⟩
 rw [List.length_append,yU,zE rfl]
 omega
theorem q2v {s:Shk} {b m:List Int} {A:Shk} (h:uY LD s b=.ok (m,A)) (hb:Byts b) (hw:yY s):yY A:=by
 have hw':=j5q hw b hb
 rw [h] at hw'
 exact hw'
theorem q2u {s:Shk} {b m:List Int} {A:Shk} (h:uK LD s b=.ok (m,A)) (hw:yY s):yY A:=by
 have hw':=j5p hw b
 rw [h] at hw'
 exact hw'
theorem j2w {I:Value→Shk→List (Nat × List Value)→Prop} (hK:dZ I) (w0:World) (hg:HGlob13 w0) :
 Calls Tryz.prog 4 #[] w0 fun e w'=>e=.returned (.bool true)∧Below w0.heap.size w0 w':=by
 obtain ⟨m1,A1,B1,m2,A2,B2,h1,h2,h3,h4,h5,h6,h7,-⟩:=q0g x6h (one 1) (one 3) (one 2) (one 4) (fun x y h=>by rcases h with ⟨rfl,rfl⟩ | ⟨rfl,rfl⟩ | ⟨rfl,rfl⟩ | ⟨rfl,rfl⟩ <;> exact hag _ _ JG JG) [104,105] [121,111] JG Vu JG Vu
 have hwa:=kL (tQ 1 JG JG) (tQ 3 JG JG) (yU (one 2)) (uJ (one 2)); have hwb:=sL (tQ 2 JG JG) (tQ 4 JG JG)
 obtain ⟨l1,y1,s1,hwA1⟩:=q3a h1 Vu hwa
 have hwB1:=q2v h2 y1 hwb
 obtain ⟨l2,y2,hwB2⟩:=q2x h3 Vu hwB1
 have hwA2:=q2u h4 hwA1
 have e0:uK LD (qS (one 1) (one 3) (LD.pub (one 2))) (szs 48)=.error 4:=tS (.inr JG)
 have e1:shF LD A1 [104,105]=.error 4:=gZ (.inr (by rw [s1]; decide))
 have e2:=q7t (one 1) (one 3); have k1:=x0f h6; have k2:=x0f h7
 rw [← h5] at k2
 have d1:=x0g h6; have d2:=x0g h7
 have g1:m1.length=98:=l1
 have g2:m2.length=50:=l2
 clear l1 l2 s1; replace h1:=show Hid _ from h1; replace h2:=show Hid _ from h2; replace h3:=show Hid _ from h3; replace h4:=show Hid _ from h4; replace h5:=show Hid _ from h5; replace h6:=show Hid _ from h6; replace h7:=show Hid _ from h7; replace e0:=show Hid _ from e0; replace e1:=show Hid _ from e1; replace e2:=show Hid _ from e2; replace k1:=show Hid _ from k1
 replace k2:=show Hid _ from k2; replace d1:=show Hid _ from d1; replace d2:=show Hid _ from d2; replace g1:=show Hid _ from g1; replace g2:=show Hid _ from g2; have M:=Mm.init w0
 go_enter Tryz.func4,Tryz.ntmps4
 go_upto_region 0 with fail; refine wR (xmL ?_); refine xT ?_; go_upto_region 1 with fail; refine wR (xpL (.agg (row .u8 32 (one 1)).toArray) ?_); refine xpL (.agg (row .u8 32 (one 3)).toArray) ?_; refine xpL (.agg (row .u8 32 (one 2)).toArray) ?_; refine xcL (nS (one 2) (tQ 2 JG JG) _ (hg.mm M).k (hg.mm M).t) ?_
 rintro e w1 ⟨rfl,l⟩; replace M:=M.call l; clear l; refine xeL ?_; have key:=hK.beg w0 _ _ (one 1) (one 3) (LD.pub (one 2)) hg (tQ 1 JG JG) (tQ 3 JG JG) (yU (one 2)) (uJ (one 2)) M; refine xcL key ?_; clear key; rintro e w2 ⟨v_,ba0,rfl,hIa,-,M',l⟩
 obtain ⟨Ra,rfl⟩:=hK.ptr _ _ _ hIa
 have hqa:=M'.lts
 have hWa:yY (qS (one 1) (one 3) (LD.pub (one 2))):=hwa
 have hbz_a:=xnR w2.heap.size; clear M; have M:=M'.perm (kV ([]:List (Nat × List Value)) ba0 ([]:List (Nat × List Value))).symm; clear M'; clear l
 refine xeL ?_; refine xmL (xT ?_); go_upto_region 2 with fail; refine wR (xpL (.agg (row .u8 32 (one 2)).toArray) ?_); refine xpL (.agg (row .u8 32 (one 4)).toArray) ?_; have key:=hK.awt w0 _ _ (one 2) (one 4) hg (tQ 2 JG JG) (tQ 4 JG JG) M; refine xcL key ?_; clear key
 rintro e w3 ⟨v_,bb0,rfl,hIb,-,M',l⟩
 obtain ⟨Rb,rfl⟩:=hK.ptr _ _ _ hIb
 have hqb:=M'.lts
 have hWb:yY (yS LD (one 2) (one 4)):=hwb
 have hbz_b:=xnR w3.heap.size; clear M; have M:=M'.perm (kV ([]:List (Nat × List Value)) bb0 (ba0++([]:List (Nat × List Value)))).symm; clear M'; replace hbz_a:=xnT hbz_a l.size; clear l
 refine xeL ?_; refine xmL (xT ?_); go_upto_region 3 with fail; refine wR (xpL (.agg (row .u8 32 (one 1)).toArray) ?_); refine xpL (.agg (row .u8 32 (one 3)).toArray) ?_; refine xpL (.agg (row .u8 32 (fun _=>0)).toArray) ?_
 have key:=hK.beg w0 _ _ (one 1) (one 3) shz hg (tQ 1 JG JG) (tQ 3 JG JG) rfl (kR 32) M; refine xcL key ?_; clear key; rintro e w4 ⟨v_,bc0,rfl,hIc,-,M',l⟩
 obtain ⟨Rc,rfl⟩:=hK.ptr _ _ _ hIc
 have hqc:=M'.lts
 have hWc:yY (qS (one 1) (one 3) shz):=kL (tQ 1 JG JG) (tQ 3 JG JG) rfl (kR 32)
 have hbz_c:=xnR w4.heap.size; clear M; have M:=M'.perm (kV ([]:List (Nat × List Value)) bc0 (bb0++(ba0++([]:List (Nat × List Value))))).symm; clear M'; replace hbz_a:=xnT hbz_a l.size; replace hbz_b:=xnT hbz_b l.size; clear l
 refine xeL ?_; refine xmL (xT ?_); go_upto_region 4 with fail; refine wR (xmL ?_); refine xpL (.bool false) ?_; refine xmL ?_; refine xpL (.pointer (some ⟨Rb,0,none⟩)) ?_; refine xpL (.bool false) ?_; refine xpL (.bool false) ?_; refine xmL ?_
 refine xpL (.pointer (some ⟨Rc,0,none⟩)) ?_; refine xpL (.bool false) ?_; refine xpL (.bool false) (xT ?_); go_upto_region 6 with fail; refine wR (xmL ?_); have hlb:=(Below.refl w4.heap.size w4).alloc (xnR _) (.cells (row .u8 48 (bl (szs 48))).toArray 5)
 refine xaL (w':=w4.alloc (.cells (row .u8 48 (bl (szs 48))).toArray 5)) (.slice (some ⟨w4.heap.size,0,none⟩) 48 48) JU ?_; replace hbz_a:=xnT hbz_a hlb.size; replace hbz_b:=xnT hbz_b hlb.size; replace hbz_c:=xnT hbz_c hlb.size; replace M:=M.box (row .u8 48 (bl (szs 48))).toArray 5 w4.heap.size rfl; clear hlb
 generalize w4.alloc (.cells (row .u8 48 (bl (szs 48))).toArray 5)=w5 at M hbz_a hbz_b hbz_c ⊢
 have hA_B5:w4.heap.size≤w4.heap.size:=xnR _
 generalize eB_:w4.heap.size=B5 at M hA_B5 ⊢
 replace hA_B5:w4.heap.size≤B5:=Nat.le_of_eq eB_
 clear eB_
 have Mp:=M.perm (rW ([(B5,row .u8 48 (bl (szs 48)))]:List (Nat × List Value)) bc0 bb0 ba0 ([]:List (Nat × List Value)))
 have key:=hK.tsn w0 _ _ (qS (one 1) (one 3) (LD.pub (one 2))) ba0 _ hg hIa hWa (some ⟨B5,0,none⟩) 48 (szs 48) (by rw [j0q]; decide) (by rw [j0q]; decide) Jq (kR 48) Mp (show SrcA _ _ _ _ _ from ⟨(by rw [j0q]; exact M.srcRow mS 0 48 _ Jd),fun ad e _=>by cases e; exact Mp.beside mS⟩)
 rw [e0.out] at key
 simp only [shE,shB,shN] at key
 refine xcL key ?_; clear key; rintro e w6 ⟨⟨v6,rfl,N_6⟩,ba1,hI_,hsub,M',o1⟩
 have hq_:∀ b∈ba1.map Prod.fst,b<_:=fun b hb=>by
  obtain ⟨p,hp,rfl⟩:=List.mem_map.1 hb; exact hqa _ (hsub p hp)
 have hs_6_a:=hbz_a; replace hbz_a:=xnT hbz_a o1.size; have hs_6_b:=hbz_b; replace hbz_b:=xnT hbz_b o1.size; have hs_6_c:=hbz_c; replace hbz_c:=xnT hbz_c o1.size; clear o1 hsub Mp M hIa hqa; have hIa:=hI_; have hqa:=hq_; clear hI_ hq_
 replace hWa:yY (qS (one 1) (one 3) (LD.pub (one 2))):=hwa
 have M:Mm w0 ((B5,row .u8 48 (bl (szs 48)))::(bc0++(bb0++(ba1++([]:List (Nat × List Value)))))) w6:=M'.perm (rW ([(B5,row .u8 48 (bl (szs 48)))]:List (Nat × List Value)) bc0 bb0 ba1 ([]:List (Nat × List Value))).symm
 clear M'
 try clear ba0
 obtain ⟨p6,c6,rfl,hcc_6,hnn_6,_,_⟩:=id N_6
 refine xeL ?_; refine xm3 ?_; refine xm2 (xT ?_); go_upto_region 7 with fail; refine wR (xmL ?_)
 refine xaL (w':=w6.alloc (.cells #[.int .u8 104,.int .u8 105] 5)) (.slice (some ⟨w6.heap.size,0,none⟩) 2 2) JU ?_
 refine xaL (w':=w6.alloc (.cells #[.int .u8 104,.int .u8 105] 5 ((#[.int .u8 104,.int .u8 105]:Array Value).size,(#[.int .u8 104,.int .u8 105]:Array Value).size+1))) (.slice (some ⟨w6.heap.size,0,none⟩) 2 2) (gB 32 5 #[.int .u8 104,.int .u8 105] 2 2 _ rfl rfl Tryz.underlying32 Tryz.underlying5) ?_
 have hlb:=(Below.refl w6.heap.size w6).alloc (xnR _) (.cells #[.int .u8 104,.int .u8 105] 5 ((#[.int .u8 104,.int .u8 105]:Array Value).size,(#[.int .u8 104,.int .u8 105]:Array Value).size+1)); replace hbz_a:=xnT hbz_a hlb.size; replace hbz_b:=xnT hbz_b hlb.size; replace hbz_c:=xnT hbz_c hlb.size; replace N_6:=NewF.below N_6 hlb
 replace M:=M.boxC #[.int .u8 104,.int .u8 105] 5 (((#[.int .u8 104,.int .u8 105]:Array Value)).size,((#[.int .u8 104,.int .u8 105]:Array Value)).size+1) w6.heap.size rfl (xnR _); clear hlb
 generalize w6.alloc (.cells #[.int .u8 104,.int .u8 105] 5 ((#[.int .u8 104,.int .u8 105]:Array Value).size,(#[.int .u8 104,.int .u8 105]:Array Value).size+1))=w7 at M hbz_a hbz_b hbz_c N_6 ⊢
 have hA_B7:w6.heap.size≤w6.heap.size:=xnR _
 generalize eB_:w6.heap.size=B7 at M hA_B7 ⊢
 replace hA_B7:w6.heap.size≤B7:=Nat.le_of_eq eB_
 clear eB_
 have Mp:=M.perm (rW ([(B7,[.int .u8 104,.int .u8 105]),(B5,row .u8 48 (bl (szs 48)))]:List (Nat × List Value)) bc0 bb0 ba1 ([]:List (Nat × List Value)))
 have key:=hK.fst w0 _ _ (qS (one 1) (one 3) (LD.pub (one 2))) ba1 _ hg hIa hWa (some ⟨B7,0,none⟩) 2 ([104,105]) JG JG Jq Vu Mp (show SrcA _ _ _ _ _ from ⟨(M.src mS [104,105] rfl),fun ad e _=>by cases e; exact Mp.beside mS⟩)
 rw [h1.out] at key
 simp only [shE,shB,shN] at key
 refine xcL key ?_; clear key; rintro e w8 ⟨⟨v8,rfl,N_8⟩,ba2,hI_,hsub,M',o1⟩
 have hq_:∀ b∈ba2.map Prod.fst,b<_:=fun b hb=>by
  obtain ⟨p,hp,rfl⟩:=List.mem_map.1 hb; exact hqa _ (hsub p hp)
 have hs_8_a:=hbz_a; replace hbz_a:=xnT hbz_a o1.size; have hs_8_b:=hbz_b; replace hbz_b:=xnT hbz_b o1.size; have hs_8_c:=hbz_c; replace hbz_c:=xnT hbz_c o1.size; replace N_6:=NewF.off N_6 o1 Wc; clear o1 hsub Mp M hIa hqa; have hIa:=hI_; have hqa:=hq_; clear hI_ hq_
 replace hWa:yY A1:=hwA1
 have M:Mm w0 ((B7,[.int .u8 104,.int .u8 105])::(B5,row .u8 48 (bl (szs 48)))::(bc0++(bb0++(ba2++([]:List (Nat × List Value)))))) w8:=M'.perm (rW ([(B7,[.int .u8 104,.int .u8 105]),(B5,row .u8 48 (bl (szs 48)))]:List (Nat × List Value)) bc0 bb0 ba2 ([]:List (Nat × List Value))).symm
 clear M'
 try clear ba1
 obtain ⟨p8,c8,rfl,hcc_8,hnn_8,_,_⟩:=id N_8
 refine xeL ?_; refine xm3 ?_; refine xm2 (xT ?_); go_upto_region 8 with fail; refine wR (xmL ?_)
 refine xaL (w':=w8.alloc (.cells #[.int .u8 104,.int .u8 105] 5)) (.slice (some ⟨w8.heap.size,0,none⟩) 2 2) JU ?_
 refine xaL (w':=w8.alloc (.cells #[.int .u8 104,.int .u8 105] 5 ((#[.int .u8 104,.int .u8 105]:Array Value).size,(#[.int .u8 104,.int .u8 105]:Array Value).size+1))) (.slice (some ⟨w8.heap.size,0,none⟩) 2 2) (gB 32 5 #[.int .u8 104,.int .u8 105] 2 2 _ rfl rfl Tryz.underlying32 Tryz.underlying5) ?_
 have hlb:=(Below.refl w8.heap.size w8).alloc (xnR _) (.cells #[.int .u8 104,.int .u8 105] 5 ((#[.int .u8 104,.int .u8 105]:Array Value).size,(#[.int .u8 104,.int .u8 105]:Array Value).size+1)); replace hbz_a:=xnT hbz_a hlb.size; replace hbz_b:=xnT hbz_b hlb.size; replace hbz_c:=xnT hbz_c hlb.size; replace N_6:=NewF.below N_6 hlb; replace N_8:=NewF.below N_8 hlb
 replace M:=M.boxC #[.int .u8 104,.int .u8 105] 5 (((#[.int .u8 104,.int .u8 105]:Array Value)).size,((#[.int .u8 104,.int .u8 105]:Array Value)).size+1) w8.heap.size rfl (xnR _); clear hlb
 generalize w8.alloc (.cells #[.int .u8 104,.int .u8 105] 5 ((#[.int .u8 104,.int .u8 105]:Array Value).size,(#[.int .u8 104,.int .u8 105]:Array Value).size+1))=w9 at M hbz_a hbz_b hbz_c N_6 N_8 ⊢
 have hA_B9:w8.heap.size≤w8.heap.size:=xnR _
 generalize eB_:w8.heap.size=B9 at M hA_B9 ⊢
 replace hA_B9:w8.heap.size≤B9:=Nat.le_of_eq eB_
 clear eB_
 have Mp:=M.perm (rW ([(B9,[.int .u8 104,.int .u8 105]),(B7,[.int .u8 104,.int .u8 105]),(B5,row .u8 48 (bl (szs 48)))]:List (Nat × List Value)) bc0 bb0 ba2 ([]:List (Nat × List Value)))
 have key:=hK.fst w0 _ _ A1 ba2 _ hg hIa hWa (some ⟨B9,0,none⟩) 2 ([104,105]) JG JG Jq Vu Mp (show SrcA _ _ _ _ _ from ⟨(M.src mS [104,105] rfl),fun ad e _=>by cases e; exact Mp.beside mS⟩)
 rw [e1.out] at key
 simp only [shE,shB,shN] at key
 refine xcL key ?_; clear key; rintro e w10 ⟨⟨v10,rfl,N_10⟩,ba3,hI_,hsub,M',o1⟩
 have hq_:∀ b∈ba3.map Prod.fst,b<_:=fun b hb=>by
  obtain ⟨p,hp,rfl⟩:=List.mem_map.1 hb; exact hqa _ (hsub p hp)
 have hs_10_a:=hbz_a; replace hbz_a:=xnT hbz_a o1.size; have hs_10_b:=hbz_b; replace hbz_b:=xnT hbz_b o1.size; have hs_10_c:=hbz_c; replace hbz_c:=xnT hbz_c o1.size; replace N_6:=NewF.off N_6 o1 Wc; replace N_8:=NewF.off N_8 o1 (fun b_ hb_=>xnL (hqa b_ hb_) hs_8_a); clear o1 hsub Mp M hIa hqa; have hIa:=hI_; have hqa:=hq_; clear hI_ hq_
 replace hWa:yY A1:=hwA1
 have M:Mm w0 ((B9,[.int .u8 104,.int .u8 105])::(B7,[.int .u8 104,.int .u8 105])::(B5,row .u8 48 (bl (szs 48)))::(bc0++(bb0++(ba3++([]:List (Nat × List Value)))))) w10:=M'.perm (rW ([(B9,[.int .u8 104,.int .u8 105]),(B7,[.int .u8 104,.int .u8 105]),(B5,row .u8 48 (bl (szs 48)))]:List (Nat × List Value)) bc0 bb0 ba3 ([]:List (Nat × List Value))).symm
 clear M'
 try clear ba2
 obtain ⟨p10,c10,rfl,hcc_10,hnn_10,_,_⟩:=id N_10
 refine xeL ?_; refine xm3 ?_; refine xm2 (xT ?_); go_upto_region 9 with fail; refine wR (xmL ?_)
 refine xmL ?_; have Mp:=M.perm (wZ ([(B9,[.int .u8 104,.int .u8 105]),(B7,[.int .u8 104,.int .u8 105]),(B5,row .u8 48 (bl (szs 48)))]:List (Nat × List Value)) bc0 bb0 (ba3++([]:List (Nat × List Value))))
 have key:=hK.tfs w0 _ _ (yS LD (one 2) (one 4)) bb0 _ hg hIb hWb p8 c8 m1 (by rw [g1.out]; decide) hcc_8 hnn_8 y1 Mp (NewF.srcA N_8 Wb)
 rw [h2.out] at key
 simp only [shE,shB,shN] at key
 refine xcL key ?_; clear key; rintro e w11 ⟨⟨v11,rfl,N_11⟩,bb1,hI_,hsub,M',o1⟩
 have hq_:∀ b∈bb1.map Prod.fst,b<_:=fun b hb=>by
  obtain ⟨p,hp,rfl⟩:=List.mem_map.1 hb; exact hqb _ (hsub p hp)
 have hs_11_a:=hbz_a; replace hbz_a:=xnT hbz_a o1.size; have hs_11_b:=hbz_b; replace hbz_b:=xnT hbz_b o1.size; have hs_11_c:=hbz_c; replace hbz_c:=xnT hbz_c o1.size; replace N_6:=NewF.off N_6 o1 (fun b_ hb_=>xnL (hqb b_ hb_) hs_6_b); replace N_8:=NewF.off N_8 o1 Wb; replace N_10:=NewF.off N_10 o1 (fun b_ hb_=>xnL (hqb b_ hb_) hs_10_b)
 clear o1 hsub Mp M hIb hqb; have hIb:=hI_; have hqb:=hq_; clear hI_ hq_
 replace hWb:yY B1:=hwB1
 have M:Mm w0 ((B9,[.int .u8 104,.int .u8 105])::(B7,[.int .u8 104,.int .u8 105])::(B5,row .u8 48 (bl (szs 48)))::(bc0++(bb1++(ba3++([]:List (Nat × List Value)))))) w11:=M'.perm (wZ ([(B9,[.int .u8 104,.int .u8 105]),(B7,[.int .u8 104,.int .u8 105]),(B5,row .u8 48 (bl (szs 48)))]:List (Nat × List Value)) bc0 bb1 (ba3++([]:List (Nat × List Value)))).symm
 clear M'
 try clear bb0
 obtain ⟨p11,c11,rfl,hcc_11,hnn_11,_,_⟩:=id N_11
 refine xeL ?_; refine xm3 ?_; refine xm2 (xT ?_); go_upto_region 10 with fail; refine wR (xmL ?_)
 refine xaL (w':=w11.alloc (.cells #[.int .u8 121,.int .u8 111] 5)) (.slice (some ⟨w11.heap.size,0,none⟩) 2 2) JU ?_
 refine xaL (w':=w11.alloc (.cells #[.int .u8 121,.int .u8 111] 5 ((#[.int .u8 121,.int .u8 111]:Array Value).size,(#[.int .u8 121,.int .u8 111]:Array Value).size+1))) (.slice (some ⟨w11.heap.size,0,none⟩) 2 2) (gB 32 5 #[.int .u8 121,.int .u8 111] 2 2 _ rfl rfl Tryz.underlying32 Tryz.underlying5) ?_
 have hlb:=(Below.refl w11.heap.size w11).alloc (xnR _) (.cells #[.int .u8 121,.int .u8 111] 5 ((#[.int .u8 121,.int .u8 111]:Array Value).size,(#[.int .u8 121,.int .u8 111]:Array Value).size+1)); replace hbz_a:=xnT hbz_a hlb.size; replace hbz_b:=xnT hbz_b hlb.size; replace hbz_c:=xnT hbz_c hlb.size; replace N_6:=NewF.below N_6 hlb; replace N_8:=NewF.below N_8 hlb
 replace N_10:=NewF.below N_10 hlb; replace N_11:=NewF.below N_11 hlb; replace M:=M.boxC #[.int .u8 121,.int .u8 111] 5 (((#[.int .u8 121,.int .u8 111]:Array Value)).size,((#[.int .u8 121,.int .u8 111]:Array Value)).size+1) w11.heap.size rfl (xnR _); clear hlb
 generalize w11.alloc (.cells #[.int .u8 121,.int .u8 111] 5 ((#[.int .u8 121,.int .u8 111]:Array Value).size,(#[.int .u8 121,.int .u8 111]:Array Value).size+1))=w12 at M hbz_a hbz_b hbz_c N_6 N_8 N_10 N_11 ⊢
 have hA_B12:w11.heap.size≤w11.heap.size:=xnR _
 generalize eB_:w11.heap.size=B12 at M hA_B12 ⊢
 replace hA_B12:w11.heap.size≤B12:=Nat.le_of_eq eB_
 clear eB_
 have Mp:=M.perm (wZ ([(B12,[.int .u8 121,.int .u8 111]),(B9,[.int .u8 104,.int .u8 105]),(B7,[.int .u8 104,.int .u8 105]),(B5,row .u8 48 (bl (szs 48)))]:List (Nat × List Value)) bc0 bb1 (ba3++([]:List (Nat × List Value))))
 have key:=hK.snd w0 _ _ B1 bb1 _ hg hIb hWb (some ⟨B12,0,none⟩) 2 ([121,111]) JG JG Jq Vu Mp (show SrcA _ _ _ _ _ from ⟨(M.src mS [121,111] rfl),fun ad e _=>by cases e; exact Mp.beside mS⟩)
 rw [h3.out] at key
 simp only [shE,shB,shN] at key
 refine xcL key ?_; clear key; rintro e w13 ⟨⟨v13,rfl,N_13⟩,bb2,hI_,hsub,M',o1⟩
 have hq_:∀ b∈bb2.map Prod.fst,b<_:=fun b hb=>by
  obtain ⟨p,hp,rfl⟩:=List.mem_map.1 hb; exact hqb _ (hsub p hp)
 have hs_13_a:=hbz_a; replace hbz_a:=xnT hbz_a o1.size; have hs_13_b:=hbz_b; replace hbz_b:=xnT hbz_b o1.size; have hs_13_c:=hbz_c; replace hbz_c:=xnT hbz_c o1.size; replace N_6:=NewF.off N_6 o1 (fun b_ hb_=>xnL (hqb b_ hb_) hs_6_b); replace N_8:=NewF.off N_8 o1 Wb; replace N_10:=NewF.off N_10 o1 (fun b_ hb_=>xnL (hqb b_ hb_) hs_10_b)
 replace N_11:=NewF.off N_11 o1 (fun b_ hb_=>xnL (hqb b_ hb_) hs_11_b); clear o1 hsub Mp M hIb hqb; have hIb:=hI_; have hqb:=hq_; clear hI_ hq_
 replace hWb:yY B2:=hwB2
 have M:Mm w0 ((B12,[.int .u8 121,.int .u8 111])::(B9,[.int .u8 104,.int .u8 105])::(B7,[.int .u8 104,.int .u8 105])::(B5,row .u8 48 (bl (szs 48)))::(bc0++(bb2++(ba3++([]:List (Nat × List Value)))))) w13:=M'.perm (wZ ([(B12,[.int .u8 121,.int .u8 111]),(B9,[.int .u8 104,.int .u8 105]),(B7,[.int .u8 104,.int .u8 105]),(B5,row .u8 48 (bl (szs 48)))]:List (Nat × List Value)) bc0 bb2 (ba3++([]:List (Nat × List Value)))).symm
 clear M'
 try clear bb1
 obtain ⟨p13,c13,rfl,hcc_13,hnn_13,_,_⟩:=id N_13
 refine xeL ?_; refine xm3 ?_; refine xm2 (xT ?_); go_upto_region 11 with fail; refine wR (xm2 ?_)
 have Mp:=M.perm (rW ([(B12,[.int .u8 121,.int .u8 111]),(B9,[.int .u8 104,.int .u8 105]),(B7,[.int .u8 104,.int .u8 105]),(B5,row .u8 48 (bl (szs 48)))]:List (Nat × List Value)) bc0 bb2 ba3 ([]:List (Nat × List Value))); have key:=hK.tsn w0 _ _ A1 ba3 _ hg hIa hWa p13 c13 m2 (by rw [g2.out]; decide) hcc_13 hnn_13 y2 Mp (NewF.srcA N_13 (fun b_ hb_=>xnL (hqa b_ hb_) hs_13_a))
 rw [h4.out] at key
 simp only [shE,shB,shN] at key
 refine xcL key ?_; clear key; rintro e w14 ⟨⟨v14,rfl,N_14⟩,ba4,hI_,hsub,M',o1⟩
 have hq_:∀ b∈ba4.map Prod.fst,b<_:=fun b hb=>by
  obtain ⟨p,hp,rfl⟩:=List.mem_map.1 hb; exact hqa _ (hsub p hp)
 have hs_14_a:=hbz_a; replace hbz_a:=xnT hbz_a o1.size; have hs_14_b:=hbz_b; replace hbz_b:=xnT hbz_b o1.size; have hs_14_c:=hbz_c; replace hbz_c:=xnT hbz_c o1.size; replace N_6:=NewF.off N_6 o1 Wc; replace N_8:=NewF.off N_8 o1 (fun b_ hb_=>xnL (hqa b_ hb_) hs_8_a); replace N_10:=NewF.off N_10 o1 (fun b_ hb_=>xnL (hqa b_ hb_) hs_10_a)
 replace N_11:=NewF.off N_11 o1 (fun b_ hb_=>xnL (hqa b_ hb_) hs_11_a); replace N_13:=NewF.off N_13 o1 (fun b_ hb_=>xnL (hqa b_ hb_) hs_13_a); clear o1 hsub Mp M hIa hqa; have hIa:=hI_; have hqa:=hq_; clear hI_ hq_
 replace hWa:yY A2:=hwA2
 have M:Mm w0 ((B12,[.int .u8 121,.int .u8 111])::(B9,[.int .u8 104,.int .u8 105])::(B7,[.int .u8 104,.int .u8 105])::(B5,row .u8 48 (bl (szs 48)))::(bc0++(bb2++(ba4++([]:List (Nat × List Value)))))) w14:=M'.perm (rW ([(B12,[.int .u8 121,.int .u8 111]),(B9,[.int .u8 104,.int .u8 105]),(B7,[.int .u8 104,.int .u8 105]),(B5,row .u8 48 (bl (szs 48)))]:List (Nat × List Value)) bc0 bb2 ba4 ([]:List (Nat × List Value))).symm
 clear M'
 try clear ba3
 obtain ⟨p14,c14,rfl,hcc_14,hnn_14,_,_⟩:=id N_14
 refine xeL ?_; refine xm3 ?_; refine xm2 (xT ?_); go_upto_region 12 with fail; refine wR (xmL ?_)
 have Mp:=M.perm (rW ([(B12,[.int .u8 121,.int .u8 111]),(B9,[.int .u8 104,.int .u8 105]),(B7,[.int .u8 104,.int .u8 105]),(B5,row .u8 48 (bl (szs 48)))]:List (Nat × List Value)) bc0 bb2 ba4 ([]:List (Nat × List Value))); have key:=hK.kys w0 _ _ A2 ba4 _ hg hIa hWa Mp
 rw [k1.out,d1.out] at key
 clear Mp; refine xcL (key) ?_; rintro e w15 ⟨rfl,l⟩; replace M:=M.call l; replace hbz_a:=xnT hbz_a l.size; replace hbz_b:=xnT hbz_b l.size; replace hbz_c:=xnT hbz_c l.size; replace N_6:=NewF.below N_6 l; replace N_8:=NewF.below N_8 l; replace N_10:=NewF.below N_10 l; replace N_11:=NewF.below N_11 l; replace N_13:=NewF.below N_13 l; replace N_14:=NewF.below N_14 l; clear l
 refine xeL ?_; clear key; refine xm3 ?_; have hnew:=Below.refl w15.heap.size w15
 have hlb:=(Below.refl w15.heap.size w15).alloc (xnR _) (.cells (kf2 (fun _=>0) (fun _=>0)).toArray 41); refine xaL (w':=w15.alloc (.cells (kf2 (fun _=>0) (fun _=>0)).toArray 41)) (.pointer (some ⟨w15.heap.size,0,none⟩)) JU ?_; replace hnew:=hnew.trans (hlb.mono hnew.size)
 replace M:=M.box (kf2 (fun _=>0) (fun _=>0)).toArray 41 w15.heap.size rfl; clear hlb; generalize w15.alloc (.cells (kf2 (fun _=>0) (fun _=>0)).toArray 41)=w16 at M hnew ⊢
 have hA_B16:w15.heap.size≤w15.heap.size:=xnR _
 generalize eB_:w15.heap.size=B16 at M hA_B16 ⊢
 replace hA_B16:w15.heap.size≤B16:=Nat.le_of_eq eB_
 clear eB_
 refine jG rfl (jC (kf2 (kA A2.st.c 0 (bl [])) (kB A2.st.c 0 (bl []))) B16 0 41 _ _ rfl rfl rfl (M.thereP mS 0 64 Vx) Vn (zF _ (fun p_ hp_=>by
  simp only [List.mem_cons,List.not_mem_nil,or_false] at hp_; rcases hp_ with rfl | rfl <;> first | exact jT .u8 32 _ | exact yB _ | (intro u hu; obtain rfl:=xm1 hu; rfl)))) ?_
 simp only [Act.put]; replace M:=M.setAll (kf2 (kA A2.st.c 0 (bl [])) (kB A2.st.c 0 (bl []))) Vv; replace hnew:=jS hnew B16 (by have:=hnew.size; omega) 0 (kf2 (kA A2.st.c 0 (bl [])) (kB A2.st.c 0 (bl [])))
 generalize w16.setCells B16 0 (kf2 (kA A2.st.c 0 (bl [])) (kB A2.st.c 0 (bl [])))=w17 at M hnew ⊢; refine xpL (.bool true) (xT ?_); replace hbz_a:=xnT hbz_a hnew.size; replace hbz_b:=xnT hbz_b hnew.size; replace hbz_c:=xnT hbz_c hnew.size; replace N_6:=NewF.below N_6 hnew; replace N_8:=NewF.below N_8 hnew; replace N_10:=NewF.below N_10 hnew
 replace N_11:=NewF.below N_11 hnew; replace N_13:=NewF.below N_13 hnew; replace N_14:=NewF.below N_14 hnew; clear hnew; go_upto_region 13 with fail; refine wR (xmL ?_)
 have Mp:=M.perm (wZ ([(B16,kf2 (kA A2.st.c 0 (bl [])) (kB A2.st.c 0 (bl []))),(B12,[.int .u8 121,.int .u8 111]),(B9,[.int .u8 104,.int .u8 105]),(B7,[.int .u8 104,.int .u8 105]),(B5,row .u8 48 (bl (szs 48)))]:List (Nat × List Value)) bc0 bb2 (ba4++([]:List (Nat × List Value)))); have key:=hK.kys w0 _ _ B2 bb2 _ hg hIb hWb Mp
 rw [k2.out,d2.out] at key
 clear Mp; refine xcL (key) ?_; rintro e w18 ⟨rfl,l⟩; replace M:=M.call l; replace hbz_a:=xnT hbz_a l.size; replace hbz_b:=xnT hbz_b l.size; replace hbz_c:=xnT hbz_c l.size; replace N_6:=NewF.below N_6 l; replace N_8:=NewF.below N_8 l; replace N_10:=NewF.below N_10 l; replace N_11:=NewF.below N_11 l; replace N_13:=NewF.below N_13 l; replace N_14:=NewF.below N_14 l; clear l
 refine xeL ?_; clear key; refine xm3 ?_; have hnew:=Below.refl w18.heap.size w18
 have hlb:=(Below.refl w18.heap.size w18).alloc (xnR _) (.cells (kf2 (fun _=>0) (fun _=>0)).toArray 41); refine xaL (w':=w18.alloc (.cells (kf2 (fun _=>0) (fun _=>0)).toArray 41)) (.pointer (some ⟨w18.heap.size,0,none⟩)) JU ?_; replace hnew:=hnew.trans (hlb.mono hnew.size)
 replace M:=M.box (kf2 (fun _=>0) (fun _=>0)).toArray 41 w18.heap.size rfl; clear hlb; generalize w18.alloc (.cells (kf2 (fun _=>0) (fun _=>0)).toArray 41)=w19 at M hnew ⊢
 have hA_B19:w18.heap.size≤w18.heap.size:=xnR _
 generalize eB_:w18.heap.size=B19 at M hA_B19 ⊢
 replace hA_B19:w18.heap.size≤B19:=Nat.le_of_eq eB_
 clear eB_
 refine jG rfl (jC (kf2 (kA A2.st.c 0 (bl [])) (kB A2.st.c 0 (bl []))) B19 0 41 _ _ rfl rfl rfl (M.thereP mS 0 64 Vx) Vn (zF _ (fun p_ hp_=>by
  simp only [List.mem_cons,List.not_mem_nil,or_false] at hp_; rcases hp_ with rfl | rfl <;> first | exact jT .u8 32 _ | exact yB _ | (intro u hu; obtain rfl:=xm1 hu; rfl)))) ?_
 simp only [Act.put]; replace M:=M.setAll (kf2 (kA A2.st.c 0 (bl [])) (kB A2.st.c 0 (bl []))) Vv; replace hnew:=jS hnew B19 (by have:=hnew.size; omega) 0 (kf2 (kA A2.st.c 0 (bl [])) (kB A2.st.c 0 (bl [])))
 generalize w19.setCells B19 0 (kf2 (kA A2.st.c 0 (bl [])) (kB A2.st.c 0 (bl [])))=w20 at M hnew ⊢; refine xpL (.bool true) (xT ?_); replace hbz_a:=xnT hbz_a hnew.size; replace hbz_b:=xnT hbz_b hnew.size; replace hbz_c:=xnT hbz_c hnew.size; replace N_6:=NewF.below N_6 hnew; replace N_8:=NewF.below N_8 hnew; replace N_10:=NewF.below N_10 hnew
 replace N_11:=NewF.below N_11 hnew; replace N_13:=NewF.below N_13 hnew; replace N_14:=NewF.below N_14 hnew; clear hnew; go_upto_region 14 with fail; refine wR (xmL ?_)
 have Mp:=M.perm (kV ([(B19,kf2 (kA A2.st.c 0 (bl [])) (kB A2.st.c 0 (bl []))),(B16,kf2 (kA A2.st.c 0 (bl [])) (kB A2.st.c 0 (bl []))),(B12,[.int .u8 121,.int .u8 111]),(B9,[.int .u8 104,.int .u8 105]),(B7,[.int .u8 104,.int .u8 105]),(B5,row .u8 48 (bl (szs 48)))]:List (Nat × List Value)) bc0 (bb2++(ba4++([]:List (Nat × List Value)))))
 have key:=hK.fst w0 _ _ (qS (one 1) (one 3) shz) bc0 _ hg hIc hWc none 0 ([]) JG (xnR 0) (fun _=>rfl) Vu Mp (show SrcA _ _ none 0 _ from ⟨fun j hj=>absurd hj (xnZ j),fun ad e=>by cases e⟩)
 rw [e2.out] at key
 simp only [shE,shB,shN] at key
 refine xcL key ?_; clear key; rintro e w21 ⟨⟨v21,rfl,N_21⟩,bc1,hI_,hsub,M',o1⟩
 have hq_:∀ b∈bc1.map Prod.fst,b<_:=fun b hb=>by
  obtain ⟨p,hp,rfl⟩:=List.mem_map.1 hb; exact hqc _ (hsub p hp)
 have hs_21_a:=hbz_a; replace hbz_a:=xnT hbz_a o1.size; have hs_21_b:=hbz_b; replace hbz_b:=xnT hbz_b o1.size; have hs_21_c:=hbz_c; replace hbz_c:=xnT hbz_c o1.size; replace N_6:=NewF.off N_6 o1 (fun b_ hb_=>xnL (hqc b_ hb_) hs_6_c); replace N_8:=NewF.off N_8 o1 (fun b_ hb_=>xnL (hqc b_ hb_) hs_8_c); replace N_10:=NewF.off N_10 o1 (fun b_ hb_=>xnL (hqc b_ hb_) hs_10_c)
 replace N_11:=NewF.off N_11 o1 (fun b_ hb_=>xnL (hqc b_ hb_) hs_11_c); replace N_13:=NewF.off N_13 o1 (fun b_ hb_=>xnL (hqc b_ hb_) hs_13_c); replace N_14:=NewF.off N_14 o1 (fun b_ hb_=>xnL (hqc b_ hb_) hs_14_c); clear o1 hsub Mp M hIc hqc; have hIc:=hI_; have hqc:=hq_; clear hI_ hq_
 replace hWc:yY (qS (one 1) (one 3) shz):=hWc
 have M:Mm w0 ((B19,kf2 (kA A2.st.c 0 (bl [])) (kB A2.st.c 0 (bl [])))::(B16,kf2 (kA A2.st.c 0 (bl [])) (kB A2.st.c 0 (bl [])))::(B12,[.int .u8 121,.int .u8 111])::(B9,[.int .u8 104,.int .u8 105])::(B7,[.int .u8 104,.int .u8 105])::(B5,row .u8 48 (bl (szs 48)))::(bc1++(bb2++(ba4++([]:List (Nat × List Value)))))) w21:=M'.perm (kV ([(B19,kf2 (kA A2.st.c 0 (bl [])) (kB A2.st.c 0 (bl []))),(B16,kf2 (kA A2.st.c 0 (bl [])) (kB A2.st.c 0 (bl []))),(B12,[.int .u8 121,.int .u8 111]),(B9,[.int .u8 104,.int .u8 105]),(B7,[.int .u8 104,.int .u8 105]),(B5,row .u8 48 (bl (szs 48)))]:List (Nat × List Value)) bc1 (bb2++(ba4++([]:List (Nat × List Value))))).symm
 clear M'
 try clear bc0
 obtain ⟨p21,c21,rfl,hcc_21,hnn_21,_,_⟩:=id N_21
 refine xeL ?_; refine xm3 ?_; refine xm2 (xT ?_); go_upto_region 15 with fail; refine wR (xmL ?_)
 refine xaL (.bool true) (kS .i64 _ _ _ _ _ _ rfl rfl rfl true JG _) ?_; refine xmL ?_; refine xpL (.slice p8 ((m1).length) c8) ?_; refine zV (.int .i64 (((m1).length:Nat):Int)) rfl (gQ _ 32 5 p8 ((m1).length) c8 rfl Tryz.underlying32 rfl _) (nL ?_); refine xaL (.bool true) (kS .i64 _ _ _ _ _ _ rfl rfl rfl true (by rw [g1.out]; rfl) _) ?_
 refine xpL (.bool true) ?_; refine xmL ?_; refine xpL (.int .i64 0) ?_; refine xaL (.bool true) (kS .i64 _ _ _ _ _ _ rfl rfl rfl true JG _) ?_; refine xpL (.bool true) ?_; refine xmL ?_; refine xpL (.int .i64 4) ?_; refine xaL (.bool true) (kS .i64 _ _ _ _ _ _ rfl rfl rfl true JG _) ?_; refine xpL (.bool true) ?_; refine xmL ?_
 refine xpL (.slice p11 (([104,105]).length) c11) ?_; refine zV (.string (txt (([104,105]).length) (bl ([104,105])))) rfl (vB 32 5 9 _ rfl Tryz.underlying32 Tryz.underlying5 Tryz.underlying9 p11 (([104,105]).length) c11 (bl ([104,105])) rfl _ (NewF.src N_11) (fun e=>by have h1:=hnn_11 e; have h2:=hcc_11; omega)) (nL ?_)
 refine xaL (.bool true) (x5n _ _ _ _ _ _ rfl rfl rfl rfl _) ?_; refine xpL (.bool true) ?_; refine xmL ?_; refine xpL (.int .i64 0) ?_; refine xaL (.bool true) (kS .i64 _ _ _ _ _ _ rfl rfl rfl true JG _) ?_; refine xpL (.bool true) ?_; refine xmL ?_; refine xpL (.slice p13 ((m2).length) c13) ?_
 refine zV (.int .i64 (((m2).length:Nat):Int)) rfl (gQ _ 32 5 p13 ((m2).length) c13 rfl Tryz.underlying32 rfl _) (nL ?_); refine xaL (.bool true) (kS .i64 _ _ _ _ _ _ rfl rfl rfl true (by rw [g2.out]; rfl) _) ?_; refine xpL (.bool true) ?_; refine xmL ?_; refine xpL (.int .i64 0) ?_
 refine xaL (.bool true) (kS .i64 _ _ _ _ _ _ rfl rfl rfl true JG _) ?_; refine xpL (.bool true) ?_; refine xmL ?_; refine xpL (.slice p14 (([121,111]).length) c14) ?_
 refine zV (.string (txt (([121,111]).length) (bl ([121,111])))) rfl (vB 32 5 9 _ rfl Tryz.underlying32 Tryz.underlying5 Tryz.underlying9 p14 (([121,111]).length) c14 (bl ([121,111])) rfl _ (NewF.src N_14) (fun e=>by have h1:=hnn_14 e; have h2:=hcc_14; omega)) (nL ?_); refine xaL (.bool true) (x5n _ _ _ _ _ _ rfl rfl rfl rfl _) ?_
 refine xpL (.bool true) ?_; refine xmL ?_; refine xpL (.int .i64 0) ?_; refine xaL (.bool true) (kS .i64 _ _ _ _ _ _ rfl rfl rfl true JG _) ?_; refine xpL (.bool true) ?_; refine xmL ?_; refine xpL (.bool true) ?_; refine xpL (.bool true) ?_; refine xmL ?_; refine xpL (.bool true) ?_; refine xpL (.bool true) ?_; refine xmL ?_
 refine zV (.agg (kf2 (kA A2.st.c 0 (bl [])) (kB A2.st.c 0 (bl []))).toArray) rfl (jD 41 _ ⟨B16,0,none⟩ (kf2 (kA A2.st.c 0 (bl [])) (kB A2.st.c 0 (bl []))) rfl rfl JW VQ (M.part (mT _ mS) 0 _ (yW [] [row .u8 32 (kA A2.st.c 0 (bl [])),row .u8 32 (kB A2.st.c 0 (bl []))] [] 0 JU))) (nL ?_)
 refine zV (.agg (kf2 (kA A2.st.c 0 (bl [])) (kB A2.st.c 0 (bl []))).toArray) rfl (jD 41 _ ⟨B19,0,none⟩ (kf2 (kA A2.st.c 0 (bl [])) (kB A2.st.c 0 (bl []))) rfl rfl JW VQ (M.part mS 0 _ (yW [] [row .u8 32 (kA A2.st.c 0 (bl [])),row .u8 32 (kB A2.st.c 0 (bl []))] [] 0 JU))) (nL ?_)
 refine xaL (.bool true) (x5o _ _ _ _ rfl rfl rfl _) ?_; refine xpL (.bool true) ?_; refine xmL ?_; refine xpL (.int .i64 20) ?_; refine xaL (.bool true) (kS .i64 _ _ _ _ _ _ rfl rfl rfl true JG _) ?_; refine xpL (.bool true) ?_; refine xmL (xT ?_); have hbel:=M.below
 clear M hbz_a hbz_b hbz_c N_6 N_8 N_10 N_11 N_13 N_14 N_21; go_wp2; go_ret
 exact ⟨rfl,hbel⟩
end Go.Proofs.YtknodlefhclijaaGreatDoor
