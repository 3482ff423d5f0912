/- Texts of Kg Kh Lx, joined. -/
import Derived.Test.YtklnibmfpcmeeaaGreatDoorP25ShakeAgrees
set_option maxRecDepth 20000
set_option maxHeartbeats 64000000
namespace Go.Proofs.YtklnibmfpcmeeaaGreatDoor
open Go.RowKit
def turnv (fr tw lo hi:Int) (F:FuncId):Value:=.agg #[.int .i64 fr,.int .i64 tw,.int .i64 lo,.int .i64 hi,.func (.func F) #[] #[]]
theorem shB_err {x:Except Int (List Int × Shk)} (h:¬ shE x=0):shB x=[]:=by
 cases x with
 | error=>rfl
 | ok=>exact absurd rfl h
theorem shN_err {x:Except Int (List Int × Shk)} (h:¬ shE x=0) (s:Shk):shN s x=s:=by
 cases x with
 | error=>rfl
 | ok=>exact absurd rfl h
theorem ktake_state (w0 w:World) (R:Nat) (l:List (Nat × List Value)) (av:Int) (st:Sym) (p q its drn k1 k2:Nat→Int) (fA fD:Value) (fr tw lo hi:Int) (F:FuncId) (sp:Option Addr) (n cap:Nat) (hne:¬ av=fr) (M:Mm w0 ((R,[[Value.int .i64 av],pcs12 st,row .u8 32 p,[fA],row .u8 32 q,[fD],row .u8 32 its,row .u8 32 drn,row .u8 32 k1,row .u8 32 k2].flatten)::l) w) :
 Calls Tryz.prog 30 #[.pointer (some ⟨R,0,none⟩),turnv fr tw lo hi F,.slice sp n cap] w fun e w'=>e=.returned (.tuple #[.slice none 0 0,.int .i64 4])∧Below w.heap.size w w':=by
 unfold turnv
 have hb0:=M.below; have hwz:=xnR w.heap.size; have OF:=Off.refl [] w
 go_enter Tryz.func30,Tryz.ntmps30
 go_upto_region 0 with fail; refine wp_region_list ?_; have hlb:=(Below.refl w.heap.size w).alloc (xnR _) (.cells #[.int .i64 fr,.int .i64 tw,.int .i64 lo,.int .i64 hi,.func (.func F) #[] #[]] 74); refine actL (w':=w.alloc (.cells #[.int .i64 fr,.int .i64 tw,.int .i64 lo,.int .i64 hi,.func (.func F) #[] #[]] 74)) (.pointer (some ⟨w.heap.size,0,none⟩)) rfl (by kernel_rfl) ?_
 simp only [aP,lI,l0,lS]; have hB_:=hwz; replace hwz:=xnT hwz hlb.size; replace OF:=OF.below hlb; replace M:=M.box #[.int .i64 fr,.int .i64 tw,.int .i64 lo,.int .i64 hi,.func (.func F) #[] #[]] 74 w.heap.size rfl; clear hlb; generalize w.alloc (.cells #[.int .i64 fr,.int .i64 tw,.int .i64 lo,.int .i64 hi,.func (.func F) #[] #[]] 74)=w1 at M hwz OF ⊢
 generalize eB_:w.heap.size=B1 at M ⊢
 have hB_B1:w.heap.size≤B1:=by rw [← eB_]; exact hB_
 clear hB_ eB_
 replace M:Mm w0 ((B1,[.int .i64 fr,.int .i64 tw,.int .i64 lo,.int .i64 hi,.func (.func F) #[] #[]])::(R,[[Value.int .i64 av],pcs12 st,row .u8 32 p,[fA],row .u8 32 q,[fD],row .u8 32 its,row .u8 32 drn,row .u8 32 k1,row .u8 32 k2].flatten)::l) w1:=M
 refine xpL (.slice none 0 0) ?_; refine xpL (.int .i64 0) ?_; refine xT ?_; go_upto_region 1 with fail
 refine wp_region_held_drew (S:=fun w'=>Mm w0 ((B1,[.int .i64 fr,.int .i64 tw,.int .i64 lo,.int .i64 hi,.func (.func F) #[] #[]])::(R,[[Value.int .i64 av],pcs12 st,row .u8 32 p,[fA],row .u8 32 q,[fD],row .u8 32 its,row .u8 32 drn,row .u8 32 k1,row .u8 32 k2].flatten)::l) w') (by kernel_rfl) M.drew ?_; intro _; replace M:=M.drew
 have hdr:=(Below.refl w1.heap.size w1).drew; replace hwz:=xnT hwz hdr.size; replace OF:=OF.below hdr; clear hdr; generalize w1.drew=w2 at M hwz OF ⊢; refine xrH 0 11 rfl (.pointer (some ⟨R,0,none⟩)) (fun _ M=>(by kernel_rfl)) M ?_; refine xrH 1 12 rfl (.pointer (some ⟨R,0,none⟩)) (fun _ M=>(by kernel_rfl)) M ?_
 refine xrH 2 13 rfl (.pointer (some ⟨R,0,none⟩)) (fun _ M=>(by kernel_rfl)) M ?_; refine xrH 3 14 rfl (.int .i64 av) (fun _ M=>load1 _ _ ⟨R,0,none⟩ _ rfl rfl (fun _=>by kernel_rfl) (M.get (mT _ mS) 0 _ (flat_get _ [1,98,32,1,32,1,32,32,32,32] (by kernel_rfl) 0 0 _ rfl rfl))) M ?_; refine xrH 4 15 rfl (.pointer (some ⟨B1,0,none⟩)) (fun _ M=>(by kernel_rfl)) M ?_
 refine xrH 5 16 rfl (.int .i64 fr) (fun _ M=>load1 _ _ ⟨B1,0,none⟩ _ rfl rfl (fun _=>by kernel_rfl) (M.get mS 0 _ rfl)) M ?_; refine xrH 6 17 rfl (.bool true) (fun _ M=>neqI .i64 _ _ _ _ _ _ rfl rfl rfl true (by rw [bne_iff_ne]; exact hne) _) M ?_
 refine wpAnyH_done (by kernel_rfl) ?_ _
 first | show Exit.then _ _ _ _ _ | show Exit.inBlock _ _ _ _ _
 go_upto_region 2 with fail; refine wp_region_list ?_; refine xpL (.slice none 0 0) ?_; refine xpL (.int .i64 4) ?_; refine xT ?_
 have hbel:Below w.heap.size w w2:=⟨M.below.os.trans hb0.os.symm,M.below.tape.trans hb0.tape.symm,M.below.output.trans hb0.output.symm,OF.size,fun b hb=>OF.blk b hb (fun h=>by cases h)⟩
 clear M OF; go_wp2; go_ret2
 exact ⟨rfl,hbel⟩
def TkP (w0 w:World) (R A D:Nat) (l:List (Nat × List Value)) (s:Shk) (fr tw:Int) (x:Except Int (List Int × Shk)) (e:Ending) (w':World):Prop :=
 ∃ u,e=.returned (.tuple #[u,.int .i64 (shE x)])∧NewL w' w.heap.size (shB x) u∧Off [R,A,D] w w'∧((¬ shE x=0∧Mm w0 ((R,kcs fr s A D)::(A,row .u8 32 s.sec)::(D,row .u8 32 s.drw)::l) w')∨(shE x=0∧¬ tw=5∧Mm w0 ((R,kcs tw (shN s x) A D)::(A,row .u8 32 s.sec)::(D,row .u8 32 s.drw)::l) w')∨(shE x=0∧tw=5∧Mm w0 ((R,kce (shN s x))::l) w'))
theorem ktake_go (w0 w:World) (R A D:Nat) (l:List (Nat × List Value)) (s:Shk) (fr tw:Int) (lo hi:Nat) (F:FuncId) (r:Shk→List Int→Except Int (List Int × Shk)) (g:Shk→List Int→Prop) (hF4:F=31∨F=32∨F=33∨F=34) (hF:InOK F r g) (hg:HGlob13 w0) (hw:ShkW s) (sp:Option Addr) (cap:Nat) (b:List Int) (hcap:b.length≤cap) (hnil:sp=none→cap=0) (hb:Byts b)
 (hx3:b.length<lo→r s b=.error 3) (hx2:¬ b.length<lo→hi<b.length→r s b=.error 2) (hgo:¬ b.length<lo→¬ hi<b.length→g s b) (hsw:SymW (shN s (r s b)).st) (M:Mm w0 ((R,kcs fr s A D)::(A,row .u8 32 s.sec)::(D,row .u8 32 s.drw)::l) w) (hs:SrcA [R,A,D] w sp b.length (bl b)) :
 Calls Tryz.prog 30 #[.pointer (some ⟨R,0,none⟩),turnv fr tw lo hi F,.slice sp b.length cap] w (TkP w0 w R A D l s fr tw (r s b)):=by
 unfold turnv
 have hRw:=M.lt mS; have hAw:=M.lt (mT _ mS); have hDw:=M.lt (mI 2 rfl); have hwz:=xnR w.heap.size; have OF:=Off.refl [R,A,D] w
 replace M:Mm w0 ((R,[[Value.int .i64 fr],pcs12 s.st,row .u8 32 (bl (LD.pub s.sec)),[kfv A],row .u8 32 (bl (LD.pub s.drw)),[kfv D],row .u8 32 (bl s.its),row .u8 32 (bl s.drn),row .u8 32 (fun _=>0),row .u8 32 (fun _=>0)].flatten)::(A,row .u8 32 s.sec)::(D,row .u8 32 s.drw)::l) w:=M
 go_enter Tryz.func30,Tryz.ntmps30
 go_upto_region 0 with fail; refine wp_region_list ?_; have hlb:=(Below.refl w.heap.size w).alloc (xnR _) (.cells #[.int .i64 fr,.int .i64 tw,.int .i64 (lo:Int),.int .i64 (hi:Int),.func (.func F) #[] #[]] 74)
 refine actL (w':=w.alloc (.cells #[.int .i64 fr,.int .i64 tw,.int .i64 (lo:Int),.int .i64 (hi:Int),.func (.func F) #[] #[]] 74)) (.pointer (some ⟨w.heap.size,0,none⟩)) rfl (by kernel_rfl) ?_; simp only [aP,lI,l0,lS]; have hB_:=hwz; replace hwz:=xnT hwz hlb.size; replace OF:=OF.below hlb
 replace M:=M.box #[.int .i64 fr,.int .i64 tw,.int .i64 (lo:Int),.int .i64 (hi:Int),.func (.func F) #[] #[]] 74 w.heap.size rfl; clear hlb; generalize w.alloc (.cells #[.int .i64 fr,.int .i64 tw,.int .i64 (lo:Int),.int .i64 (hi:Int),.func (.func F) #[] #[]] 74)=w1 at M hwz OF ⊢; generalize eB_:w.heap.size=B1 at M ⊢
 have hB_B1:w.heap.size≤B1:=by rw [← eB_]; exact hB_
 clear hB_ eB_
 replace M:Mm w0 ((B1,[.int .i64 fr,.int .i64 tw,.int .i64 (lo:Int),.int .i64 (hi:Int),.func (.func F) #[] #[]])::(R,[[Value.int .i64 fr],pcs12 s.st,row .u8 32 (bl (LD.pub s.sec)),[kfv A],row .u8 32 (bl (LD.pub s.drw)),[kfv D],row .u8 32 (bl s.its),row .u8 32 (bl s.drn),row .u8 32 (fun _=>0),row .u8 32 (fun _=>0)].flatten)::(A,row .u8 32 s.sec)::(D,row .u8 32 s.drw)::l) w1:=M
 refine xpL (.slice none 0 0) ?_; refine xpL (.int .i64 0) ?_; refine xT ?_; go_upto_region 1 with fail
 refine wp_region_held_drew (S:=fun w'=>Mm w0 ((B1,[.int .i64 fr,.int .i64 tw,.int .i64 (lo:Int),.int .i64 (hi:Int),.func (.func F) #[] #[]])::(R,[[Value.int .i64 fr],pcs12 s.st,row .u8 32 (bl (LD.pub s.sec)),[kfv A],row .u8 32 (bl (LD.pub s.drw)),[kfv D],row .u8 32 (bl s.its),row .u8 32 (bl s.drn),row .u8 32 (fun _=>0),row .u8 32 (fun _=>0)].flatten)::(A,row .u8 32 s.sec)::(D,row .u8 32 s.drw)::l) w') (by kernel_rfl) M.drew ?_
 intro _; replace M:=M.drew; have hdr:=(Below.refl w1.heap.size w1).drew; replace hwz:=xnT hwz hdr.size; replace OF:=OF.below hdr; clear hdr; generalize w1.drew=w2 at M hwz OF ⊢; refine xrH 0 11 rfl (.pointer (some ⟨R,0,none⟩)) (fun _ M=>(by kernel_rfl)) M ?_; refine xrH 1 12 rfl (.pointer (some ⟨R,0,none⟩)) (fun _ M=>(by kernel_rfl)) M ?_
 refine xrH 2 13 rfl (.pointer (some ⟨R,0,none⟩)) (fun _ M=>(by kernel_rfl)) M ?_; refine xrH 3 14 rfl (.int .i64 fr) (fun _ M=>load1 _ _ ⟨R,0,none⟩ _ rfl rfl (fun _=>by kernel_rfl) (M.get (mT _ mS) 0 _ (flat_get _ [1,98,32,1,32,1,32,32,32,32] (by kernel_rfl) 0 0 _ rfl rfl))) M ?_; refine xrH 4 15 rfl (.pointer (some ⟨B1,0,none⟩)) (fun _ M=>(by kernel_rfl)) M ?_
 refine xrH 5 16 rfl (.int .i64 fr) (fun _ M=>load1 _ _ ⟨B1,0,none⟩ _ rfl rfl (fun _=>by kernel_rfl) (M.get mS 0 _ rfl)) M ?_; refine xrH 6 17 rfl (.bool false) (fun _ M=>neqI .i64 _ _ _ _ _ _ rfl rfl rfl false (by simp) _) M ?_
 refine wpAnyH_done (by kernel_rfl) ?_ _
 first | show Exit.then _ _ _ _ _ | show Exit.inBlock _ _ _ _ _
 by_cases hl:b.length<lo
 · replace hl:=show Hid _ from hl
   go_upto_region 3 with fail; refine wp_region_list ?_; refine xpL (.slice sp b.length cap) ?_; refine xaL (.int .i64 ((b.length:Nat):Int)) (lenS _ 32 5 sp b.length cap rfl Tryz.underlying32 rfl _) ?_; refine xpL (.pointer (some ⟨B1,2,none⟩)) ?_; refine xaL (.int .i64 (lo:Int)) (load1 3 _ ⟨B1,2,none⟩ _ rfl rfl (fun _=>by kernel_rfl) (M.get mS 2 _ rfl)) ?_
   refine xaL (.bool true) (lssI .i64 _ _ _ _ _ _ rfl rfl rfl true (decide_eq_true (by have:=hl.out; omega)) _) ?_; refine xT ?_; go_upto_region 4 with fail; refine wp_region_list ?_; refine xpL (.slice none 0 0) ?_; refine xpL (.int .i64 3) ?_; refine xT ?_; replace M:=M.rot4; replace M:=M.rot4; replace M:=M.rot4
   replace M:Mm w0 ((R,[[Value.int .i64 fr],pcs12 s.st,row .u8 32 (bl (LD.pub s.sec)),[kfv A],row .u8 32 (bl (LD.pub s.drw)),[kfv D],row .u8 32 (bl s.its),row .u8 32 (bl s.drn),row .u8 32 (fun _=>0),row .u8 32 (fun _=>0)].flatten)::(A,row .u8 32 s.sec)::(D,row .u8 32 s.drw)::l) w2:=M.sub _ (List.cons_sublist_cons.2 (List.cons_sublist_cons.2 (List.cons_sublist_cons.2 (List.Sublist.cons _ (List.Sublist.refl _)))))
   have hE:=show Hid _ from (hx3 hl.out); have HS:=show Hid _ from (And.intro M OF); clear M OF; go_wp2; go_ret2
   exact ⟨_,by rw [hE.out]; rfl,by rw [hE.out]; exact NewF.nil _ _ _,HS.out.2,.inl ⟨by rw [hE.out]; decide,HS.out.1⟩⟩
 · go_upto_region 3 with fail
   refine wp_region_list ?_; refine xpL (.slice sp b.length cap) ?_; refine xaL (.int .i64 ((b.length:Nat):Int)) (lenS _ 32 5 sp b.length cap rfl Tryz.underlying32 rfl _) ?_; refine xpL (.pointer (some ⟨B1,2,none⟩)) ?_; refine xaL (.int .i64 (lo:Int)) (load1 3 _ ⟨B1,2,none⟩ _ rfl rfl (fun _=>by kernel_rfl) (M.get mS 2 _ rfl)) ?_
   refine xaL (.bool false) (lssI .i64 _ _ _ _ _ _ rfl rfl rfl false (decide_eq_false (by omega)) _) ?_; refine xT ?_
   by_cases hm:hi<b.length
   · replace hm:=show Hid _ from hm
     go_upto_region 5 with fail; refine wp_region_list ?_; refine xpL (.slice sp b.length cap) ?_; refine xaL (.int .i64 ((b.length:Nat):Int)) (lenS _ 32 5 sp b.length cap rfl Tryz.underlying32 rfl _) ?_; refine xpL (.pointer (some ⟨B1,3,none⟩)) ?_; refine xaL (.int .i64 (hi:Int)) (load1 3 _ ⟨B1,3,none⟩ _ rfl rfl (fun _=>by kernel_rfl) (M.get mS 3 _ rfl)) ?_
     refine xaL (.bool true) (gtrI .i64 _ _ _ _ _ _ rfl rfl rfl true (decide_eq_true (by have:=hm.out; omega)) _) ?_; refine xT ?_; go_upto_region 6 with fail; refine wp_region_list ?_; refine xpL (.slice none 0 0) ?_; refine xpL (.int .i64 2) ?_; refine xT ?_; replace M:=M.rot4; replace M:=M.rot4; replace M:=M.rot4
     replace M:Mm w0 ((R,[[Value.int .i64 fr],pcs12 s.st,row .u8 32 (bl (LD.pub s.sec)),[kfv A],row .u8 32 (bl (LD.pub s.drw)),[kfv D],row .u8 32 (bl s.its),row .u8 32 (bl s.drn),row .u8 32 (fun _=>0),row .u8 32 (fun _=>0)].flatten)::(A,row .u8 32 s.sec)::(D,row .u8 32 s.drw)::l) w2:=M.sub _ (List.cons_sublist_cons.2 (List.cons_sublist_cons.2 (List.cons_sublist_cons.2 (List.Sublist.cons _ (List.Sublist.refl _)))))
     have hE:=show Hid _ from (hx2 hl hm.out); have HS:=show Hid _ from (And.intro M OF); clear M OF; go_wp2; go_ret2
     exact ⟨_,by rw [hE.out]; rfl,by rw [hE.out]; exact NewF.nil _ _ _,HS.out.2,.inl ⟨by rw [hE.out]; decide,HS.out.1⟩⟩
   · go_upto_region 5 with fail
     refine wp_region_list ?_; refine xpL (.slice sp b.length cap) ?_; refine xaL (.int .i64 ((b.length:Nat):Int)) (lenS _ 32 5 sp b.length cap rfl Tryz.underlying32 rfl _) ?_; refine xpL (.pointer (some ⟨B1,3,none⟩)) ?_; refine xaL (.int .i64 (hi:Int)) (load1 3 _ ⟨B1,3,none⟩ _ rfl rfl (fun _=>by kernel_rfl) (M.get mS 3 _ rfl)) ?_
     refine xaL (.bool false) (gtrI .i64 _ _ _ _ _ _ rfl rfl rfl false (decide_eq_false (by omega)) _) ?_; refine xT ?_; go_upto_region 7 with fail; refine wp_region_list ?_; refine xpL (.pointer (some ⟨R,0,none⟩)) ?_; replace M:=M.swap
     replace M:Mm w0 ((R,[[Value.int .i64 fr],pcs12 s.st,row .u8 32 (bl (LD.pub s.sec)),[kfv A],row .u8 32 (bl (LD.pub s.drw)),[kfv D],row .u8 32 (bl s.its),row .u8 32 (bl s.drn),row .u8 32 (fun _=>0),row .u8 32 (fun _=>0)].flatten)::(B1,[.int .i64 fr,.int .i64 tw,.int .i64 (lo:Int),.int .i64 (hi:Int),.func (.func F) #[] #[]])::(A,row .u8 32 s.sec)::(D,row .u8 32 s.drw)::l) w2:=M
     refine xcL (kclone_any w0 _ R A D _ fr s M) ?_; rintro e w3 ⟨N,rfl,hq_,M',l⟩; have hB_N:=xnT hwz hq_; clear M hq_; have M:=M'; clear M'; replace hwz:=xnT hwz l.size; replace OF:=OF.below l; clear l; refine xeL ?_
     replace M:Mm w0 ((N,[[Value.int .i64 fr],pcs12 s.st,row .u8 32 (bl (LD.pub s.sec)),[kfv A],row .u8 32 (bl (LD.pub s.drw)),[kfv D],row .u8 32 (bl s.its),row .u8 32 (bl s.drn),row .u8 32 (fun _=>0),row .u8 32 (fun _=>0)].flatten)::(R,[[Value.int .i64 fr],pcs12 s.st,row .u8 32 (bl (LD.pub s.sec)),[kfv A],row .u8 32 (bl (LD.pub s.drw)),[kfv D],row .u8 32 (bl s.its),row .u8 32 (bl s.drn),row .u8 32 (fun _=>0),row .u8 32 (fun _=>0)].flatten)::(B1,[.int .i64 fr,.int .i64 tw,.int .i64 (lo:Int),.int .i64 (hi:Int),.func (.func F) #[] #[]])::(A,row .u8 32 s.sec)::(D,row .u8 32 s.drw)::l) w3:=M
     refine xpL (.pointer (some ⟨N,0,none⟩)) ?_; refine xT ?_; go_upto_region 8 with fail; refine wp_region_list ?_; refine xpL (.pointer (some ⟨B1,4,none⟩)) ?_; refine xaL (.func (.func F) #[] #[]) (load1 _ _ ⟨B1,4,none⟩ _ rfl rfl (fun _=>by kernel_rfl) (M.get (mI 2 rfl) 4 _ rfl)) ?_; refine xpL (.pointer (some ⟨N,0,none⟩)) ?_; refine xpL (.slice sp b.length cap) ?_
     replace M:Mm w0 ((D,row .u8 32 s.drw)::(N,[[Value.int .i64 fr],pcs12 s.st,row .u8 32 (bl (LD.pub s.sec)),[kfv A],row .u8 32 (bl (LD.pub s.drw)),[kfv D],row .u8 32 (bl s.its),row .u8 32 (bl s.drn),row .u8 32 (fun _=>0),row .u8 32 (fun _=>0)].flatten)::(R,[[Value.int .i64 fr],pcs12 s.st,row .u8 32 (bl (LD.pub s.sec)),[kfv A],row .u8 32 (bl (LD.pub s.drw)),[kfv D],row .u8 32 (bl s.its),row .u8 32 (bl s.drn),row .u8 32 (fun _=>0),row .u8 32 (fun _=>0)].flatten)::(B1,[.int .i64 fr,.int .i64 tw,.int .i64 (lo:Int),.int .i64 (hi:Int),.func (.func F) #[] #[]])::(A,row .u8 32 s.sec)::l) w3:=M.perm (List.perm_middle (l₁:=[_,_,_,_]) (a:=_) (l₂:=_))
     replace M:Mm w0 ((A,row .u8 32 s.sec)::(D,row .u8 32 s.drw)::(N,[[Value.int .i64 fr],pcs12 s.st,row .u8 32 (bl (LD.pub s.sec)),[kfv A],row .u8 32 (bl (LD.pub s.drw)),[kfv D],row .u8 32 (bl s.its),row .u8 32 (bl s.drn),row .u8 32 (fun _=>0),row .u8 32 (fun _=>0)].flatten)::(R,[[Value.int .i64 fr],pcs12 s.st,row .u8 32 (bl (LD.pub s.sec)),[kfv A],row .u8 32 (bl (LD.pub s.drw)),[kfv D],row .u8 32 (bl s.its),row .u8 32 (bl s.drn),row .u8 32 (fun _=>0),row .u8 32 (fun _=>0)].flatten)::(B1,[.int .i64 fr,.int .i64 tw,.int .i64 (lo:Int),.int .i64 (hi:Int),.func (.func F) #[] #[]])::l) w3:=M.perm (List.perm_middle (l₁:=[_,_,_,_]) (a:=_) (l₂:=_))
     replace M:=M.rot3; have hl_N:=M.lt mS; have hl_R:=M.lt (mI 3 rfl); have hbw:=hwz
     replace M:Mm w0 ((N,[[Value.int .i64 fr],pcs12 s.st,row .u8 32 (bl (LD.pub s.sec)),[kfv A],row .u8 32 (bl (LD.pub s.drw)),[kfv D],row .u8 32 (bl s.its),row .u8 32 (bl s.drn),row .u8 32 (fun _=>0),row .u8 32 (fun _=>0)].flatten)::(A,row .u8 32 s.sec)::(D,row .u8 32 s.drw)::(R,[[Value.int .i64 fr],pcs12 s.st,row .u8 32 (bl (LD.pub s.sec)),[kfv A],row .u8 32 (bl (LD.pub s.drw)),[kfv D],row .u8 32 (bl s.its),row .u8 32 (bl s.drn),row .u8 32 (fun _=>0),row .u8 32 (fun _=>0)].flatten)::(B1,[.int .i64 fr,.int .i64 tw,.int .i64 (lo:Int),.int .i64 (hi:Int),.func (.func F) #[] #[]])::l) w3:=M
     refine callL rfl (fun _=>by rcases hF4 with rfl | rfl | rfl | rfl <;> kernel_rfl) (hF w0 _ N A D _ fr s hg hw sp cap b (hgo hl hm) hcap hnil hb M ((((hs.more N hB_N).off (OF.mono (fun x hx=>mT _ hx))).less (fun x hx=>by obtain rfl:=xm1 hx; exact mS)))) ?_; rintro e w4 ⟨u_,cs_,rfl,hok,M',o1⟩; clear M; have M:=M'; clear M'; replace hwz:=xnT hwz (Off.size o1)
     replace OF:=OF.and1 o1 (.inr (by omega)); clear o1
     refine ⟨_,rfl,?_⟩
     simp only [aP,lI,l0,lS]; refine xpL (.tuple #[u_,.int .i64 (shE (r s b))]) ?_; refine xpL (u_) ?_; refine xpL (.int .i64 (shE (r s b))) ?_; refine xpL (u_) ?_; refine xpL (.int .i64 (shE (r s b))) ?_; refine xT ?_
     by_cases hE0:shE (r s b)=0
     · obtain ⟨N_u,rfl⟩:=hok hE0
       replace hE0:=show Hid _ from hE0; have htw:=hsw
       obtain ⟨t,ht⟩:∃ t,t=shN s (r s b):=⟨_,rfl⟩
       rw [← ht] at M htw
       replace ht:=show Hid _ from ht; clear hok
       replace M:Mm w0 ((N,[[Value.int .i64 fr],pcs12 t.st,row .u8 32 (bl (LD.pub t.sec)),[kfv A],row .u8 32 (bl (LD.pub t.drw)),[kfv D],row .u8 32 (bl t.its),row .u8 32 (bl t.drn),row .u8 32 (fun _=>0),row .u8 32 (fun _=>0)].flatten)::(A,row .u8 32 s.sec)::(D,row .u8 32 s.drw)::(R,[[Value.int .i64 fr],pcs12 s.st,row .u8 32 (bl (LD.pub s.sec)),[kfv A],row .u8 32 (bl (LD.pub s.drw)),[kfv D],row .u8 32 (bl s.its),row .u8 32 (bl s.drn),row .u8 32 (fun _=>0),row .u8 32 (fun _=>0)].flatten)::(B1,[.int .i64 fr,.int .i64 tw,.int .i64 (lo:Int),.int .i64 (hi:Int),.func (.func F) #[] #[]])::l) w4:=M
       go_upto_region 9 with fail; refine wp_region_list ?_; refine xpL (.int .i64 (shE (r s b))) ?_; refine xaL (.bool false) (neqI .i64 _ _ _ _ _ _ rfl rfl rfl false (by rw [hE0.out]; rfl) _) ?_; refine xT ?_; go_upto_region 11 with fail; refine wp_region_list ?_; refine xpL (.pointer (some ⟨N,0,none⟩)) ?_; refine xpL (.pointer (some ⟨B1,1,none⟩)) ?_
       refine xaL (.int .i64 tw) (load1 _ _ ⟨B1,1,none⟩ _ rfl rfl (fun _=>by kernel_rfl) (M.get (mI 4 rfl) 1 _ rfl)) ?_; refine xpL (.pointer (some ⟨N,0,none⟩)) ?_; refine xpL (.pointer (some ⟨N,0,none⟩)) ?_
       refine skipOpL rfl (storeAny (.int .i64 tw) N 0 57 _ _ rfl rfl rfl rfl rfl (M.isSome mS 0 (by rw [flat_len _ [1,98,32,1,32,1,32,32,32,32] (by kernel_rfl)]; decide)) (M.free mS 0 (by rw [flat_len _ [1,98,32,1,32,1,32,32,32,32] (by kernel_rfl)]; decide)) (by kernel_rfl)) ?_
       simp only [Act.put]; replace M:=M.set 0 (by rw [flat_len _ [1,98,32,1,32,1,32,32,32,32] (by kernel_rfl)]; decide) (.int .i64 tw)
       rw [flat_set1 _ [1,98,32,1,32,1,32,32,32,32] (by kernel_rfl) 0 0 _ (.int .i64 tw) rfl rfl] at M
       replace hwz:=xnT hwz (Off.size ((Off.refl [N] _).set (b:=N) mS 0 (.int .i64 tw))); replace OF:=OF.and1 ((Off.refl [N] _).set (b:=N) mS 0 (.int .i64 tw)) (.inr (by omega)); replace N_u:=NewF.off N_u ((Off.refl [N] _).set (b:=N) mS 0 (.int .i64 tw)) (fun b hb=>by obtain rfl:=xm1 hb; omega); generalize w4.setCell ⟨N,0,none⟩ (.int .i64 tw)=w5 at M hwz OF N_u ⊢
       replace M:Mm w0 ((N,[[Value.int .i64 tw],pcs12 t.st,row .u8 32 (bl (LD.pub t.sec)),[kfv A],row .u8 32 (bl (LD.pub t.drw)),[kfv D],row .u8 32 (bl t.its),row .u8 32 (bl t.drn),row .u8 32 (fun _=>0),row .u8 32 (fun _=>0)].flatten)::(A,row .u8 32 s.sec)::(D,row .u8 32 s.drw)::(R,[[Value.int .i64 fr],pcs12 s.st,row .u8 32 (bl (LD.pub s.sec)),[kfv A],row .u8 32 (bl (LD.pub s.drw)),[kfv D],row .u8 32 (bl s.its),row .u8 32 (bl s.drn),row .u8 32 (fun _=>0),row .u8 32 (fun _=>0)].flatten)::(B1,[.int .i64 fr,.int .i64 tw,.int .i64 (lo:Int),.int .i64 (hi:Int),.func (.func F) #[] #[]])::l) w5:=M
       refine xT ?_
       by_cases h5:tw=5
       · replace h5:=show Hid _ from h5
         go_upto_region 12 with fail; refine wp_region_list ?_; refine xpL (.pointer (some ⟨N,0,none⟩)) ?_; refine xpL (.pointer (some ⟨N,0,none⟩)) ?_; refine xpL (.pointer (some ⟨N,0,none⟩)) ?_; refine xaL (.int .i64 tw) (load1 _ _ ⟨N,0,none⟩ _ rfl rfl (fun _=>by kernel_rfl) (M.get mS 0 _ (flat_get _ [1,98,32,1,32,1,32,32,32,32] (by kernel_rfl) 0 0 _ rfl rfl))) ?_
         refine xaL (.bool true) (eqlI .i64 _ _ _ _ _ _ rfl rfl rfl true (by rw [beq_iff_eq]; exact h5.out) _) ?_; refine xT ?_; go_upto_region 13 with fail; refine wp_region_list ?_; refine xpL (.pointer (some ⟨N,0,none⟩)) ?_
         replace M:Mm w0 ((N,[[Value.int .i64 tw],pcs12 t.st,row .u8 32 (bl (LD.pub t.sec)),[kfv A],row .u8 32 (bl (LD.pub t.drw)),[kfv D],row .u8 32 (bl t.its),row .u8 32 (bl t.drn),row .u8 32 (fun _=>0),row .u8 32 (fun _=>0)].flatten)::(A,row .u8 32 s.sec)::(D,row .u8 32 s.drw)::(R,[[Value.int .i64 fr],pcs12 s.st,row .u8 32 (bl (LD.pub s.sec)),[kfv A],row .u8 32 (bl (LD.pub s.drw)),[kfv D],row .u8 32 (bl s.its),row .u8 32 (bl s.drn),row .u8 32 (fun _=>0),row .u8 32 (fun _=>0)].flatten)::(B1,[.int .i64 fr,.int .i64 tw,.int .i64 (lo:Int),.int .i64 (hi:Int),.func (.func F) #[] #[]])::l) w5:=M
         refine xcL (kend_any w0 _ N A D _ tw t hg htw M) ?_; rintro e w6 ⟨rfl,M',o1⟩; clear M; have M:=M'; clear M'; replace hwz:=xnT hwz (Off.size o1); replace OF:=OF.and1 o1 (.inr (by omega)); replace N_u:=NewF.off N_u o1 (fun b hb=>by obtain rfl:=xm1 hb; omega); clear o1; refine xeL ?_
         replace M:Mm w0 ((N,[[Value.int .i64 5],pcs12 szero,row .u8 32 (fun _=>0),[Value.nilFunc],row .u8 32 (fun _=>0),[Value.nilFunc],row .u8 32 (bl t.its),row .u8 32 (fun _=>0),row .u8 32 (kA t.st.c 0 (bl [])),row .u8 32 (kB t.st.c 0 (bl []))].flatten)::(A,row .u8 32 s.sec)::(D,row .u8 32 s.drw)::(R,[[Value.int .i64 fr],pcs12 s.st,row .u8 32 (bl (LD.pub s.sec)),[kfv A],row .u8 32 (bl (LD.pub s.drw)),[kfv D],row .u8 32 (bl s.its),row .u8 32 (bl s.drn),row .u8 32 (fun _=>0),row .u8 32 (fun _=>0)].flatten)::(B1,[.int .i64 fr,.int .i64 tw,.int .i64 (lo:Int),.int .i64 (hi:Int),.func (.func F) #[] #[]])::l) w6:=M
         refine xT ?_; go_upto_region 14 with fail; refine wp_region_list ?_; refine xpL (.pointer (some ⟨R,0,none⟩)) ?_; refine xpL (.pointer (some ⟨N,0,none⟩)) ?_; refine xpL (.pointer (some ⟨N,0,none⟩)) ?_
         refine readL (.agg ([[Value.int .i64 5],pcs12 szero,row .u8 32 (fun _=>0),[Value.nilFunc],row .u8 32 (fun _=>0),[Value.nilFunc],row .u8 32 (bl t.its),row .u8 32 (fun _=>0),row .u8 32 (kA t.st.c 0 (bl [])),row .u8 32 (kB t.st.c 0 (bl []))].flatten).toArray) rfl (loadN 65 _ ⟨N,0,none⟩ ([[Value.int .i64 5],pcs12 szero,row .u8 32 (fun _=>0),[Value.nilFunc],row .u8 32 (fun _=>0),[Value.nilFunc],row .u8 32 (bl t.its),row .u8 32 (fun _=>0),row .u8 32 (kA t.st.c 0 (bl [])),row .u8 32 (kB t.st.c 0 (bl []))].flatten) rfl rfl (fun _=>by kernel_rfl) (fun _=>by rw [flat_len _ [1,98,32,1,32,1,32,32,32,32] (by kernel_rfl)]; kernel_rfl) (M.part mS 0 _ (flat_mid [] [[Value.int .i64 5],pcs12 szero,row .u8 32 (fun _=>0),[Value.nilFunc],row .u8 32 (fun _=>0),[Value.nilFunc],row .u8 32 (bl t.its),row .u8 32 (fun _=>0),row .u8 32 (kA t.st.c 0 (bl [])),row .u8 32 (kB t.st.c 0 (bl []))] [] 0 (by kernel_rfl)))) ?_
         simp only [aP,lI,l0,lS]; refine xpL (.pointer (some ⟨R,0,none⟩)) ?_; replace M:=M.rot4
         refine skipOpL rfl (storeP ([[Value.int .i64 5],pcs12 szero,row .u8 32 (fun _=>0),[Value.nilFunc],row .u8 32 (fun _=>0),[Value.nilFunc],row .u8 32 (bl t.its),row .u8 32 (fun _=>0),row .u8 32 (kA t.st.c 0 (bl [])),row .u8 32 (kB t.st.c 0 (bl []))].flatten) R 0 65 _ _ rfl rfl rfl (M.thereP mS 0 293 (by rw [flat_len _ [1,98,32,1,32,1,32,32,32,32] (by kernel_rfl)]; decide)) (by rw [List.size_toArray,flat_len _ [1,98,32,1,32,1,32,32,32,32] (by kernel_rfl)]; kernel_rfl) (flat_one _ (fun p_ hp_=>by
          simp only [List.mem_cons,List.not_mem_nil,or_false] at hp_
          rcases hp_ with rfl | rfl | rfl | rfl | rfl | rfl | rfl | rfl | rfl | rfl <;> first | exact row_one .u8 32 _ | exact pcs12_one _ | (intro u hu; obtain rfl:=xm1 hu; rfl)))) ?_
         simp only [Act.put]
         replace M:=M.setAll ([[Value.int .i64 5],pcs12 szero,row .u8 32 (fun _=>0),[Value.nilFunc],row .u8 32 (fun _=>0),[Value.nilFunc],row .u8 32 (bl t.its),row .u8 32 (fun _=>0),row .u8 32 (kA t.st.c 0 (bl [])),row .u8 32 (kB t.st.c 0 (bl []))].flatten) (by rw [flat_len _ [1,98,32,1,32,1,32,32,32,32] (by kernel_rfl),flat_len _ [1,98,32,1,32,1,32,32,32,32] (by kernel_rfl)])
         replace hwz:=xnT hwz (Off.size ((Off.refl [R] _).setAll (b:=R) mS 0 ([[Value.int .i64 5],pcs12 szero,row .u8 32 (fun _=>0),[Value.nilFunc],row .u8 32 (fun _=>0),[Value.nilFunc],row .u8 32 (bl t.its),row .u8 32 (fun _=>0),row .u8 32 (kA t.st.c 0 (bl [])),row .u8 32 (kB t.st.c 0 (bl []))].flatten)))
         replace OF:=OF.and1 ((Off.refl [R] _).setAll (b:=R) mS 0 ([[Value.int .i64 5],pcs12 szero,row .u8 32 (fun _=>0),[Value.nilFunc],row .u8 32 (fun _=>0),[Value.nilFunc],row .u8 32 (bl t.its),row .u8 32 (fun _=>0),row .u8 32 (kA t.st.c 0 (bl [])),row .u8 32 (kB t.st.c 0 (bl []))].flatten)) (.inl (by simp))
         replace N_u:=NewF.off N_u ((Off.refl [R] _).setAll (b:=R) mS 0 ([[Value.int .i64 5],pcs12 szero,row .u8 32 (fun _=>0),[Value.nilFunc],row .u8 32 (fun _=>0),[Value.nilFunc],row .u8 32 (bl t.its),row .u8 32 (fun _=>0),row .u8 32 (kA t.st.c 0 (bl [])),row .u8 32 (kB t.st.c 0 (bl []))].flatten)) (fun b hb=>by obtain rfl:=xm1 hb; omega)
         generalize w6.setCells R 0 ([[Value.int .i64 5],pcs12 szero,row .u8 32 (fun _=>0),[Value.nilFunc],row .u8 32 (fun _=>0),[Value.nilFunc],row .u8 32 (bl t.its),row .u8 32 (fun _=>0),row .u8 32 (kA t.st.c 0 (bl [])),row .u8 32 (kB t.st.c 0 (bl []))].flatten)=w7 at M hwz OF N_u ⊢; refine xT ?_; go_upto_region 15 with fail; refine wp_region_list ?_; refine xpL (u_) ?_
         refine xpL (u_) ?_; refine xpL (.int .i64 0) ?_; refine xT ?_
         replace M:Mm w0 ((R,[[Value.int .i64 5],pcs12 szero,row .u8 32 (fun _=>0),[Value.nilFunc],row .u8 32 (fun _=>0),[Value.nilFunc],row .u8 32 (bl t.its),row .u8 32 (fun _=>0),row .u8 32 (kA t.st.c 0 (bl [])),row .u8 32 (kB t.st.c 0 (bl []))].flatten)::l) w7:=M.sub _ (List.cons_sublist_cons.2 (List.Sublist.cons _ (List.Sublist.cons _ (List.Sublist.cons _ (List.Sublist.cons _ (List.Sublist.refl _))))))
         have N_v:=NewF.lower N_u hbw; have HS:=show Hid _ from (And.intro N_v (And.intro OF M)); clear M OF N_u N_v; go_wp2; go_ret2
         exact ⟨u_,by rw [hE0.out]; rfl,HS.out.1,HS.out.2.1,.inr (.inr ⟨hE0.out,h5.out,by rw [← ht.out]; exact HS.out.2.2⟩)⟩
       · replace h5:=show Hid _ from h5
         go_upto_region 12 with fail; refine wp_region_list ?_; refine xpL (.pointer (some ⟨N,0,none⟩)) ?_; refine xpL (.pointer (some ⟨N,0,none⟩)) ?_; refine xpL (.pointer (some ⟨N,0,none⟩)) ?_; refine xaL (.int .i64 tw) (load1 _ _ ⟨N,0,none⟩ _ rfl rfl (fun _=>by kernel_rfl) (M.get mS 0 _ (flat_get _ [1,98,32,1,32,1,32,32,32,32] (by kernel_rfl) 0 0 _ rfl rfl))) ?_
         refine xaL (.bool false) (eqlI .i64 _ _ _ _ _ _ rfl rfl rfl false (by rw [beq_eq_false_iff_ne]; exact h5.out) _) ?_; refine xT ?_; go_upto_region 14 with fail; refine wp_region_list ?_; refine xpL (.pointer (some ⟨R,0,none⟩)) ?_; refine xpL (.pointer (some ⟨N,0,none⟩)) ?_; refine xpL (.pointer (some ⟨N,0,none⟩)) ?_
         refine readL (.agg ([[Value.int .i64 tw],pcs12 t.st,row .u8 32 (bl (LD.pub t.sec)),[kfv A],row .u8 32 (bl (LD.pub t.drw)),[kfv D],row .u8 32 (bl t.its),row .u8 32 (bl t.drn),row .u8 32 (fun _=>0),row .u8 32 (fun _=>0)].flatten).toArray) rfl (loadN 65 _ ⟨N,0,none⟩ ([[Value.int .i64 tw],pcs12 t.st,row .u8 32 (bl (LD.pub t.sec)),[kfv A],row .u8 32 (bl (LD.pub t.drw)),[kfv D],row .u8 32 (bl t.its),row .u8 32 (bl t.drn),row .u8 32 (fun _=>0),row .u8 32 (fun _=>0)].flatten) rfl rfl (fun _=>by kernel_rfl) (fun _=>by rw [flat_len _ [1,98,32,1,32,1,32,32,32,32] (by kernel_rfl)]; kernel_rfl) (M.part mS 0 _ (flat_mid [] [[Value.int .i64 tw],pcs12 t.st,row .u8 32 (bl (LD.pub t.sec)),[kfv A],row .u8 32 (bl (LD.pub t.drw)),[kfv D],row .u8 32 (bl t.its),row .u8 32 (bl t.drn),row .u8 32 (fun _=>0),row .u8 32 (fun _=>0)] [] 0 (by kernel_rfl)))) ?_
         simp only [aP,lI,l0,lS]; refine xpL (.pointer (some ⟨R,0,none⟩)) ?_; replace M:=M.rot4
         refine skipOpL rfl (storeP ([[Value.int .i64 tw],pcs12 t.st,row .u8 32 (bl (LD.pub t.sec)),[kfv A],row .u8 32 (bl (LD.pub t.drw)),[kfv D],row .u8 32 (bl t.its),row .u8 32 (bl t.drn),row .u8 32 (fun _=>0),row .u8 32 (fun _=>0)].flatten) R 0 65 _ _ rfl rfl rfl (M.thereP mS 0 293 (by rw [flat_len _ [1,98,32,1,32,1,32,32,32,32] (by kernel_rfl)]; decide)) (by rw [List.size_toArray,flat_len _ [1,98,32,1,32,1,32,32,32,32] (by kernel_rfl)]; kernel_rfl) (flat_one _ (fun p_ hp_=>by
          simp only [List.mem_cons,List.not_mem_nil,or_false] at hp_
          rcases hp_ with rfl | rfl | rfl | rfl | rfl | rfl | rfl | rfl | rfl | rfl <;> first | exact row_one .u8 32 _ | exact pcs12_one _ | (intro u hu; obtain rfl:=xm1 hu; rfl)))) ?_
         simp only [Act.put]
         replace M:=M.setAll ([[Value.int .i64 tw],pcs12 t.st,row .u8 32 (bl (LD.pub t.sec)),[kfv A],row .u8 32 (bl (LD.pub t.drw)),[kfv D],row .u8 32 (bl t.its),row .u8 32 (bl t.drn),row .u8 32 (fun _=>0),row .u8 32 (fun _=>0)].flatten) (by rw [flat_len _ [1,98,32,1,32,1,32,32,32,32] (by kernel_rfl),flat_len _ [1,98,32,1,32,1,32,32,32,32] (by kernel_rfl)])
         replace hwz:=xnT hwz (Off.size ((Off.refl [R] _).setAll (b:=R) mS 0 ([[Value.int .i64 tw],pcs12 t.st,row .u8 32 (bl (LD.pub t.sec)),[kfv A],row .u8 32 (bl (LD.pub t.drw)),[kfv D],row .u8 32 (bl t.its),row .u8 32 (bl t.drn),row .u8 32 (fun _=>0),row .u8 32 (fun _=>0)].flatten)))
         replace OF:=OF.and1 ((Off.refl [R] _).setAll (b:=R) mS 0 ([[Value.int .i64 tw],pcs12 t.st,row .u8 32 (bl (LD.pub t.sec)),[kfv A],row .u8 32 (bl (LD.pub t.drw)),[kfv D],row .u8 32 (bl t.its),row .u8 32 (bl t.drn),row .u8 32 (fun _=>0),row .u8 32 (fun _=>0)].flatten)) (.inl (by simp))
         replace N_u:=NewF.off N_u ((Off.refl [R] _).setAll (b:=R) mS 0 ([[Value.int .i64 tw],pcs12 t.st,row .u8 32 (bl (LD.pub t.sec)),[kfv A],row .u8 32 (bl (LD.pub t.drw)),[kfv D],row .u8 32 (bl t.its),row .u8 32 (bl t.drn),row .u8 32 (fun _=>0),row .u8 32 (fun _=>0)].flatten)) (fun b hb=>by obtain rfl:=xm1 hb; omega)
         generalize w5.setCells R 0 ([[Value.int .i64 tw],pcs12 t.st,row .u8 32 (bl (LD.pub t.sec)),[kfv A],row .u8 32 (bl (LD.pub t.drw)),[kfv D],row .u8 32 (bl t.its),row .u8 32 (bl t.drn),row .u8 32 (fun _=>0),row .u8 32 (fun _=>0)].flatten)=w8 at M hwz OF N_u ⊢; refine xT ?_; go_upto_region 15 with fail; refine wp_region_list ?_; refine xpL (u_) ?_; refine xpL (u_) ?_
         refine xpL (.int .i64 0) ?_; refine xT ?_; replace M:=M.rot4; replace M:=M.rot4; replace M:=M.rot3
         replace M:Mm w0 ((R,[[Value.int .i64 tw],pcs12 t.st,row .u8 32 (bl (LD.pub t.sec)),[kfv A],row .u8 32 (bl (LD.pub t.drw)),[kfv D],row .u8 32 (bl t.its),row .u8 32 (bl t.drn),row .u8 32 (fun _=>0),row .u8 32 (fun _=>0)].flatten)::(A,row .u8 32 s.sec)::(D,row .u8 32 s.drw)::l) w8:=M.sub _ (List.cons_sublist_cons.2 (List.cons_sublist_cons.2 (List.cons_sublist_cons.2 (List.Sublist.cons _ (List.Sublist.cons _ (List.Sublist.refl _))))))
         have N_v:=NewF.lower N_u hbw; have HS:=show Hid _ from (And.intro N_v (And.intro OF M)); clear M OF N_u N_v; go_wp2; go_ret2
         exact ⟨u_,by rw [hE0.out]; rfl,HS.out.1,HS.out.2.1,.inr (.inl ⟨hE0.out,h5.out,by rw [← ht.out]; exact HS.out.2.2⟩)⟩
     · replace hE0:=show Hid _ from hE0
       go_upto_region 9 with fail; refine wp_region_list ?_; refine xpL (.int .i64 (shE (r s b))) ?_; refine xaL (.bool true) (neqI .i64 _ _ _ _ _ _ rfl rfl rfl true (by rw [bne_iff_ne]; exact hE0.out) _) ?_; refine xT ?_; go_upto_region 10 with fail; refine wp_region_list ?_; refine xpL (.int .i64 (shE (r s b))) ?_; refine xpL (.slice none 0 0) ?_; refine xpL (.int .i64 (shE (r s b))) ?_
       refine xT ?_; replace M:=M.rot3; replace M:=M.rot3; replace M:=M.rot4
       replace M:Mm w0 ((R,[[Value.int .i64 fr],pcs12 s.st,row .u8 32 (bl (LD.pub s.sec)),[kfv A],row .u8 32 (bl (LD.pub s.drw)),[kfv D],row .u8 32 (bl s.its),row .u8 32 (bl s.drn),row .u8 32 (fun _=>0),row .u8 32 (fun _=>0)].flatten)::(A,row .u8 32 s.sec)::(D,row .u8 32 s.drw)::l) w4:=M.sub _ (List.cons_sublist_cons.2 (List.cons_sublist_cons.2 (List.cons_sublist_cons.2 (List.Sublist.cons _ (List.Sublist.cons _ (List.Sublist.refl _))))))
       have HS:=show Hid _ from (And.intro M OF); clear M OF hok; go_wp2; go_ret2
       exact ⟨_,rfl,by rw [shB_err hE0.out]; exact NewF.nil _ _ _,HS.out.2,.inl ⟨hE0.out,HS.out.1⟩⟩
theorem kvia_First (w:World) (R:Nat) (sp:Option Addr) (n cap:Nat) (Q:Ending→World→Prop) (h:Calls Tryz.prog 30 #[.pointer (some ⟨R,0,none⟩),turnv 2 3 0 128 31,.slice sp n cap] w fun e w'=>∃ u c,e=.returned (.tuple #[u,c])∧Q (.returned (.tuple #[u,c])) w') :
 Calls Tryz.prog 15 #[.pointer (some ⟨R,0,none⟩),.slice sp n cap] w fun e w'=>Hid (Q e w'):=by
 unfold turnv at h
 go_enter Tryz.func15,Tryz.ntmps15
 go_upto_region 0 with fail; refine wp_region_list ?_; refine xpL (.slice none 0 0) ?_; refine xpL (.int .i64 0) ?_; refine xT ?_; go_upto_region 1 with fail; refine wp_region_list ?_; refine xpL (.pointer (some ⟨R,0,none⟩)) ?_; refine xpL (.agg #[.int .i64 2,.int .i64 3,.int .i64 0,.int .i64 128,.func (.func 31) #[] #[]]) ?_; refine xpL (.slice sp n cap) ?_; refine xcL h ?_
 rintro e w1 ⟨u_,c_,rfl,hQ⟩; replace hQ:=show Hid _ from hQ; refine xeL ?_; refine xpL (u_) ?_; refine xpL (c_) ?_; refine xpL (u_) ?_; refine xpL (c_) ?_; refine xT ?_; go_wp2; go_ret2
 exact hQ
theorem kvia_TakeFirst (w:World) (R:Nat) (sp:Option Addr) (n cap:Nat) (Q:Ending→World→Prop) (h:Calls Tryz.prog 30 #[.pointer (some ⟨R,0,none⟩),turnv 1 4 96 224 32,.slice sp n cap] w fun e w'=>∃ u c,e=.returned (.tuple #[u,c])∧Q (.returned (.tuple #[u,c])) w') :
 Calls Tryz.prog 16 #[.pointer (some ⟨R,0,none⟩),.slice sp n cap] w fun e w'=>Hid (Q e w'):=by
 unfold turnv at h
 go_enter Tryz.func16,Tryz.ntmps16
 go_upto_region 0 with fail; refine wp_region_list ?_; refine xpL (.slice none 0 0) ?_; refine xpL (.int .i64 0) ?_; refine xT ?_; go_upto_region 1 with fail; refine wp_region_list ?_; refine xpL (.pointer (some ⟨R,0,none⟩)) ?_; refine xpL (.agg #[.int .i64 1,.int .i64 4,.int .i64 96,.int .i64 224,.func (.func 32) #[] #[]]) ?_; refine xpL (.slice sp n cap) ?_; refine xcL h ?_
 rintro e w1 ⟨u_,c_,rfl,hQ⟩; replace hQ:=show Hid _ from hQ; refine xeL ?_; refine xpL (u_) ?_; refine xpL (c_) ?_; refine xpL (u_) ?_; refine xpL (c_) ?_; refine xT ?_; go_wp2; go_ret2
 exact hQ
theorem kvia_Second (w:World) (R:Nat) (sp:Option Addr) (n cap:Nat) (Q:Ending→World→Prop) (h:Calls Tryz.prog 30 #[.pointer (some ⟨R,0,none⟩),turnv 4 5 0 128 33,.slice sp n cap] w fun e w'=>∃ u c,e=.returned (.tuple #[u,c])∧Q (.returned (.tuple #[u,c])) w') :
 Calls Tryz.prog 17 #[.pointer (some ⟨R,0,none⟩),.slice sp n cap] w fun e w'=>Hid (Q e w'):=by
 unfold turnv at h
 go_enter Tryz.func17,Tryz.ntmps17
 go_upto_region 0 with fail; refine wp_region_list ?_; refine xpL (.slice none 0 0) ?_; refine xpL (.int .i64 0) ?_; refine xT ?_; go_upto_region 1 with fail; refine wp_region_list ?_; refine xpL (.pointer (some ⟨R,0,none⟩)) ?_; refine xpL (.agg #[.int .i64 4,.int .i64 5,.int .i64 0,.int .i64 128,.func (.func 33) #[] #[]]) ?_; refine xpL (.slice sp n cap) ?_; refine xcL h ?_
 rintro e w1 ⟨u_,c_,rfl,hQ⟩; replace hQ:=show Hid _ from hQ; refine xeL ?_; refine xpL (u_) ?_; refine xpL (c_) ?_; refine xpL (u_) ?_; refine xpL (c_) ?_; refine xT ?_; go_wp2; go_ret2
 exact hQ
theorem kvia_TakeSecond (w:World) (R:Nat) (sp:Option Addr) (n cap:Nat) (Q:Ending→World→Prop) (h:Calls Tryz.prog 30 #[.pointer (some ⟨R,0,none⟩),turnv 3 5 48 176 34,.slice sp n cap] w fun e w'=>∃ u c,e=.returned (.tuple #[u,c])∧Q (.returned (.tuple #[u,c])) w') :
 Calls Tryz.prog 18 #[.pointer (some ⟨R,0,none⟩),.slice sp n cap] w fun e w'=>Hid (Q e w'):=by
 unfold turnv at h
 go_enter Tryz.func18,Tryz.ntmps18
 go_upto_region 0 with fail; refine wp_region_list ?_; refine xpL (.slice none 0 0) ?_; refine xpL (.int .i64 0) ?_; refine xT ?_; go_upto_region 1 with fail; refine wp_region_list ?_; refine xpL (.pointer (some ⟨R,0,none⟩)) ?_; refine xpL (.agg #[.int .i64 3,.int .i64 5,.int .i64 48,.int .i64 176,.func (.func 34) #[] #[]]) ?_; refine xpL (.slice sp n cap) ?_; refine xcL h ?_
 rintro e w1 ⟨u_,c_,rfl,hQ⟩; replace hQ:=show Hid _ from hQ; refine xeL ?_; refine xpL (u_) ?_; refine xpL (c_) ?_; refine xpL (u_) ?_; refine xpL (c_) ?_; refine xT ?_; go_wp2; go_ret2
 exact hQ
structure TurnOK (fr tw:Int) (lo hi:Nat) (r:Shk→List Int→Except Int (List Int × Shk)) (g:Shk→List Int→Prop):Prop where
 f5:¬ fr=5
 st:∀ s b,s.role≤1→s.step≤2→¬ atv s=fr→r s b=.error 4
 sh:∀ s b,s.role≤1→s.step≤2→atv s=fr→b.length<lo→r s b=.error 3
 lg:∀ s b,s.role≤1→s.step≤2→atv s=fr→¬ b.length<lo→hi<b.length→r s b=.error 2
 go:∀ s b,s.role≤1→s.step≤2→atv s=fr→¬ b.length<lo→¬ hi<b.length→g s b
 nx:∀ s b,s.role≤1→s.step≤2→atv s=fr→shE (r s b)=0→(shN s (r s b)).role=s.role∧(shN s (r s b)).sec=s.sec∧(shN s (r s b)).drw=s.drw∧atv (shN s (r s b))=tw∧(shN s (r s b)).step≤2∧((shN s (r s b)).step=2↔tw=5)
 nw:∀ s b,ShkW s→Byts b→ShkW (shN s (r s b))
theorem atv_5 {s:Shk} (h:s.step=2):atv s=5:=if_pos h
theorem ktakes {fr tw:Int} {lo hi:Nat} {F G:FuncId} {r:Shk→List Int→Except Int (List Int × Shk)} {g:Shk→List Int→Prop} (hT:TurnOK fr tw lo hi r g) (hF4:F=31∨F=32∨F=33∨F=34) (hF:InOK F r g)
 (hV:∀ (w:World) (R:Nat) (sp:Option Addr) (n cap:Nat) (Q:Ending→World→Prop),Calls Tryz.prog 30 #[.pointer (some ⟨R,0,none⟩),turnv fr tw lo hi F,.slice sp n cap] w (fun e w'=>∃ u c,e=.returned (.tuple #[u,c])∧Q (.returned (.tuple #[u,c])) w')→Calls Tryz.prog G #[.pointer (some ⟨R,0,none⟩),.slice sp n cap] w fun e w'=>Hid (Q e w')) :
 TakesOK KI G r:=by
 intro w0 w v s bs l hg hI hw sp cap b _ hcap hnil hb M hs
 obtain ⟨hr,h2,R,rfl,hI⟩:=hI
 refine (hV _ _ _ _ _ _ ?_).mono fun _ _ h=>h.out
 by_cases hat:atv s=fr
 · rcases hI with ⟨hlt,A,D,rfl⟩ | ⟨he,rfl⟩
   · rw [hat] at M
     refine (ktake_go w0 w R A D l s fr tw lo hi F r g hF4 hF hg hw sp cap b hcap hnil hb (hT.sh s b hr h2 hat) (hT.lg s b hr h2 hat) (hT.go s b hr h2 hat) (hT.nw s b hw hb).st M hs).mono fun e w' h=>?_
     obtain ⟨u,rfl,hN,hO,h⟩:=h
     refine ⟨u,_,rfl,⟨u,rfl,hN⟩,?_⟩
     rcases h with ⟨hE,M'⟩ | ⟨hE,h5,M'⟩ | ⟨hE,h5,M'⟩
     · rw [shN_err hE]
       exact ⟨_,⟨hr,h2,R,rfl,.inl ⟨hlt,A,D,rfl⟩⟩,fun p hp=>List.mem_map_of_mem hp,by rw [hat]; exact M',hO⟩
     · obtain ⟨n1,n2,n3,n4,n5,n6⟩:=hT.nx s b hr h2 hat hE
       rw [← n4,← n2,← n3] at M'
       exact ⟨[(R,_),(A,_),(D,_)],⟨by rw [n1]; exact hr,n5,R,rfl,.inl ⟨by have:=mt n6.1 h5; omega,A,D,rfl⟩⟩,fun p hp=>(by
        simp only [List.mem_cons,List.not_mem_nil,or_false] at hp
        rcases hp with rfl | rfl | rfl <;> simp),M',hO⟩
     · obtain ⟨n1,n2,n3,n4,n5,n6⟩:=hT.nx s b hr h2 hat hE
       exact ⟨[(R,_)],⟨by rw [n1]; exact hr,n5,R,rfl,.inr ⟨n6.2 h5,rfl⟩⟩,fun p hp=>(by
        obtain rfl:=xm1 hp
        simp),M',hO⟩
   · exact absurd ((atv_5 he).symm.trans hat).symm hT.f5
 · have hx:=hT.st s b hr h2 hat
   have key:Calls Tryz.prog 30 #[.pointer (some ⟨R,0,none⟩),turnv fr tw lo hi F,.slice sp b.length cap] w fun e w'=>e=.returned (.tuple #[.slice none 0 0,.int .i64 4])∧Below w.heap.size w w':=by
    rcases hI with ⟨_,A,D,rfl⟩ | ⟨he,rfl⟩
    · exact ktake_state w0 w R _ (atv s) s.st (bl (LD.pub s.sec)) (bl (LD.pub s.drw)) (bl s.its) (bl s.drn) (fun _=>0) (fun _=>0) (kfv A) (kfv D) fr tw lo hi F sp b.length cap hat M
    · rw [atv_5 he] at hat
      exact ktake_state w0 w R _ 5 szero (fun _=>0) (fun _=>0) (bl s.its) (fun _=>0) (kA s.st.c 0 (bl [])) (kB s.st.c 0 (bl [])) .nilFunc .nilFunc fr tw lo hi F sp b.length cap hat M
   refine key.mono fun e w' ⟨he,hl⟩=>?_; subst he
   rw [hx]
   exact ⟨_,_,rfl,⟨_,rfl,NewF.nil _ _ _⟩,bs,⟨hr,h2,R,rfl,hI⟩,fun p hp=>List.mem_map_of_mem hp,M.call hl,Off.of_below hl⟩
theorem atv_2 {s:Shk} (hr:s.role≤1) (hs:s.step≤2):atv s=2↔¬ (s.role≠0∨s.step≠0):=by unfold atv; split <;> (try split) <;> omega
theorem atv_1 {s:Shk} (hr:s.role≤1) (hs:s.step≤2):atv s=1↔¬ (s.role≠1∨s.step≠0):=by unfold atv; split <;> (try split) <;> omega
theorem atv_3 {s:Shk} (hr:s.role≤1) (_:s.step≤2):atv s=3↔¬ (s.role≠0∨s.step≠1):=by unfold atv; split <;> (try split) <;> omega
theorem atv_4 {s:Shk} (hr:s.role≤1) (_:s.step≤2):atv s=4↔¬ (s.role≠1∨s.step≠1):=by unfold atv; split <;> (try split) <;> omega
theorem shF_nx {s:Shk} {t:List Int} (h:shE (shF LD s t)=0):¬ (s.role≠0∨s.step≠0)∧∃ m x,shF LD s t=.ok (m,{ s with st:=x,step:=1 })∧(SymW s.st→SymW x):=by
 by_cases c1:s.role≠0∨s.step≠0
 · rw [shF_state c1] at h; exact absurd h (by decide)
 by_cases c2:128<t.length
 · rw [shF_long c1 c2] at h; exact absurd h (by decide)
 by_cases c3:tm s.drw (bl s.its)=0
 · rw [shF_z1 c1 c2 c3] at h; exact absurd h (by decide)
 by_cases c4:tm s.sec (bl s.its)=0
 · rw [shF_z2 c1 c2 c3 c4] at h; exact absurd h (by decide)
 exact ⟨c1,_,_,shF_eq (L:=LD) (Decidable.not_not.1 (not_or.1 c1).1) (Decidable.not_not.1 (not_or.1 c1).2) (by omega) (LD_some c3) (LD_some c4),fun hw=>sseal_w (skey_w (sseal_w (skey_w (smix_w hw _) _) _) _) _⟩
theorem shS_nx {s:Shk} {t:List Int} (h:shE (shS LD s t)=0):¬ (s.role≠1∨s.step≠1)∧∃ m x,shS LD s t=.ok (m,{ s with st:=x,step:=2 })∧(SymW s.st→SymW x):=by
 by_cases c1:s.role≠1∨s.step≠1
 · rw [shS_state c1] at h; exact absurd h (by decide)
 by_cases c2:128<t.length
 · rw [shS_long c1 c2] at h; exact absurd h (by decide)
 by_cases c3:tm s.drw (bl s.drn)=0
 · rw [shS_z1 c1 c2 c3] at h; exact absurd h (by decide)
 by_cases c4:tm s.drw (bl s.its)=0
 · rw [shS_z2 c1 c2 c3 c4] at h; exact absurd h (by decide)
 exact ⟨c1,_,_,shS_eq (L:=LD) (Decidable.not_not.1 (not_or.1 c1).1) (Decidable.not_not.1 (not_or.1 c1).2) (by omega) (LD_some c3) (LD_some c4),fun hw=>sseal_w (skey_w (skey_w (smix_w hw _) _) _) _⟩
theorem shTF_nx {s:Shk} {b:List Int} (h:shE (shTF LD s b)=0):¬ (s.role≠1∨s.step≠0)∧∃ m x its,shTF LD s b=.ok (m,{ s with st:=x,its:=its,drn:=b.take 32,step:=1 })∧(SymW s.st→SymW x)∧(Byts b→its.length=32∧Byts its∧(b.take 32).length=32):=by
 by_cases c1:s.role≠1∨s.step≠0
 · rw [shTF_state c1] at h; exact absurd h (by decide)
 by_cases c2:b.length<96
 · rw [shTF_short c1 c2] at h; exact absurd h (by decide)
 by_cases c3:224<b.length
 · rw [shTF_long c1 c2 c3] at h; exact absurd h (by decide)
 by_cases c4:tm s.sec (bl (b.take 32))=0
 · rw [shTF_z1 c1 c2 c3 c4] at h; exact absurd h (by decide)
 by_cases c5:soE (skey (smix s.st (b.take 32)) (lby (tm s.sec (bl (b.take 32))))) ((b.drop 32).take 48)=0
 · by_cases c6:tm s.sec (bl (soT (skey (smix s.st (b.take 32)) (lby (tm s.sec (bl (b.take 32))))) ((b.drop 32).take 48)))=0
   · rw [shTF_z2 c1 c2 c3 c4 rfl c5 c6] at h; exact absurd h (by decide)
   by_cases c7:soE (skey (sopen (skey (smix s.st (b.take 32)) (lby (tm s.sec (bl (b.take 32))))) ((b.drop 32).take 48)) (lby (tm s.sec (bl (soT (skey (smix s.st (b.take 32)) (lby (tm s.sec (bl (b.take 32))))) ((b.drop 32).take 48)))))) (b.drop 80)=0
   · exact ⟨c1,_,_,_,shTF_ok c1 c2 c3 c4 rfl c5 c6 rfl c7,fun hw=>sopen_w (skey_w (sopen_w (skey_w (smix_w hw _) _) _) _) _,fun hb=>⟨by rw [soT_len rfl c5,List.length_take,List.length_drop]; omega,soT_byts ((hb.drop 32).take 48),by rw [List.length_take]; omega⟩⟩
   · rw [shTF_b2 c1 c2 c3 c4 rfl c5 c6 rfl c7] at h; exact absurd h c7
 · rw [shTF_b1 c1 c2 c3 c4 rfl c5] at h; exact absurd h c5
theorem shTS_nx {s:Shk} {b:List Int} (h:shE (shTS LD s b)=0):¬ (s.role≠0∨s.step≠1)∧∃ m x,shTS LD s b=.ok (m,{ s with st:=x,step:=2 })∧(SymW s.st→SymW x):=by
 by_cases c1:s.role≠0∨s.step≠1
 · rw [shTS_state c1] at h; exact absurd h (by decide)
 by_cases c2:b.length<48
 · rw [shTS_short c1 c2] at h; exact absurd h (by decide)
 by_cases c3:176<b.length
 · rw [shTS_long c1 c2 c3] at h; exact absurd h (by decide)
 by_cases c4:tm s.drw (bl (b.take 32))=0
 · rw [shTS_z1 c1 c2 c3 c4] at h; exact absurd h (by decide)
 by_cases c5:tm s.sec (bl (b.take 32))=0
 · rw [shTS_z2 c1 c2 c3 c4 c5] at h; exact absurd h (by decide)
 by_cases c6:soE (skey (skey (smix s.st (b.take 32)) (lby (tm s.drw (bl (b.take 32))))) (lby (tm s.sec (bl (b.take 32))))) (b.drop 32)=0
 · exact ⟨c1,_,_,shTS_ok c1 c2 c3 c4 c5 rfl c6,fun hw=>sopen_w (skey_w (skey_w (smix_w hw _) _) _) _⟩
 · rw [shTS_bad c1 c2 c3 c4 c5 rfl c6] at h; exact absurd h c6
theorem shF_w {s:Shk} (hw:ShkW s) (t:List Int):ShkW (shN s (shF LD s t)):=by
 by_cases h:shE (shF LD s t)=0
 · obtain ⟨_,m,x,e,hx⟩:=shF_nx h
   rw [e]
   exact ⟨hw.sec,hw.drw,hw.its,hw.drn,hx hw.st⟩
 · rw [shN_err h]; exact hw
theorem shS_w {s:Shk} (hw:ShkW s) (t:List Int):ShkW (shN s (shS LD s t)):=by
 by_cases h:shE (shS LD s t)=0
 · obtain ⟨_,m,x,e,hx⟩:=shS_nx h
   rw [e]
   exact ⟨hw.sec,hw.drw,hw.its,hw.drn,hx hw.st⟩
 · rw [shN_err h]; exact hw
theorem shTS_w {s:Shk} (hw:ShkW s) (t:List Int):ShkW (shN s (shTS LD s t)):=by
 by_cases h:shE (shTS LD s t)=0
 · obtain ⟨_,m,x,e,hx⟩:=shTS_nx h
   rw [e]
   exact ⟨hw.sec,hw.drw,hw.its,hw.drn,hx hw.st⟩
 · rw [shN_err h]; exact hw
theorem shTF_w {s:Shk} (hw:ShkW s) (b:List Int) (hb:Byts b):ShkW (shN s (shTF LD s b)):=by
 by_cases h:shE (shTF LD s b)=0
 · obtain ⟨_,m,x,its,e,hx,hi⟩:=shTF_nx h
   rw [e]
   exact ⟨hw.sec,hw.drw,⟨(hi hb).1,(hi hb).2.1⟩,⟨(hi hb).2.2,hb.take 32⟩,hx hw.st⟩
 · rw [shN_err h]; exact hw
theorem turn_F:TurnOK 2 3 0 128 (shF LD) (fun s b=>¬ (s.role≠0∨s.step≠0)∧¬ 128<b.length) where
 f5:=by decide
 st:=fun s b hr hs h=>shF_state (Decidable.not_not.1 fun h'=>h ((atv_2 hr hs).2 h'))
 sh:=fun _ b _ _ _ h=>absurd h (xnZ _)
 lg:=fun s b hr hs h _ hl=>shF_long ((atv_2 hr hs).1 h) hl
 go:=fun s b hr hs h _ hl=>⟨(atv_2 hr hs).1 h,hl⟩
 nx:=fun s b hr hs _ h=>by
  obtain ⟨c,m,x,e,_⟩:=shF_nx h
  rw [e]
  exact ⟨rfl,rfl,rfl,(atv_3 (s:=shN s (.ok (m,{ s with st:=x,step:=1 }))) hr (show (1:Nat)≤2 by decide)).2 (by show ¬ (s.role≠0∨1≠1); omega),Nat.le_of_ble_eq_true rfl,by show (1=2↔(3:Int)=5); decide⟩
 nw:=fun s b hw _=>shF_w hw b
theorem turn_TF:TurnOK 1 4 96 224 (shTF LD) (fun s b=>¬ (s.role≠1∨s.step≠0)∧¬ b.length<96∧¬ 224<b.length) where
 f5:=by decide
 st:=fun s b hr hs h=>shTF_state (Decidable.not_not.1 fun h'=>h ((atv_1 hr hs).2 h'))
 sh:=fun s b hr hs h hl=>shTF_short ((atv_1 hr hs).1 h) hl
 lg:=fun s b hr hs h h1 hl=>shTF_long ((atv_1 hr hs).1 h) h1 hl
 go:=fun s b hr hs h h1 hl=>⟨(atv_1 hr hs).1 h,h1,hl⟩
 nx:=fun s b hr hs _ h=>by
  obtain ⟨c,m,x,its,e,_⟩:=shTF_nx h
  rw [e]
  exact ⟨rfl,rfl,rfl,(atv_4 (s:=shN s (.ok (m,{ s with st:=x,its:=its,drn:=b.take 32,step:=1 }))) hr (show (1:Nat)≤2 by decide)).2 (by show ¬ (s.role≠1∨1≠1); omega),Nat.le_of_ble_eq_true rfl,by show (1=2↔(4:Int)=5); decide⟩
 nw:=fun s b hw hb=>shTF_w hw b hb
theorem turn_S:TurnOK 4 5 0 128 (shS LD) (fun s b=>¬ (s.role≠1∨s.step≠1)∧¬ 128<b.length) where
 f5:=by decide
 st:=fun s b hr hs h=>shS_state (Decidable.not_not.1 fun h'=>h ((atv_4 hr hs).2 h'))
 sh:=fun _ b _ _ _ h=>absurd h (xnZ _)
 lg:=fun s b hr hs h _ hl=>shS_long ((atv_4 hr hs).1 h) hl
 go:=fun s b hr hs h _ hl=>⟨(atv_4 hr hs).1 h,hl⟩
 nx:=fun s b hr hs _ h=>by
  obtain ⟨c,m,x,e,_⟩:=shS_nx h
  rw [e]
  exact ⟨rfl,rfl,rfl,rfl,xnR _,by show (2=2↔(5:Int)=5); decide⟩
 nw:=fun s b hw _=>shS_w hw b
theorem turn_TS:TurnOK 3 5 48 176 (shTS LD) (fun s b=>¬ (s.role≠0∨s.step≠1)∧¬ b.length<48∧¬ 176<b.length) where
 f5:=by decide
 st:=fun s b hr hs h=>shTS_state (Decidable.not_not.1 fun h'=>h ((atv_3 hr hs).2 h'))
 sh:=fun s b hr hs h hl=>shTS_short ((atv_3 hr hs).1 h) hl
 lg:=fun s b hr hs h h1 hl=>shTS_long ((atv_3 hr hs).1 h) h1 hl
 go:=fun s b hr hs h h1 hl=>⟨(atv_3 hr hs).1 h,h1,hl⟩
 nx:=fun s b hr hs _ h=>by
  obtain ⟨c,m,x,e,_⟩:=shTS_nx h
  rw [e]
  exact ⟨rfl,rfl,rfl,rfl,xnR _,by show (2=2↔(5:Int)=5); decide⟩
 nw:=fun s b hw _=>shTS_w hw b
theorem shO_atv {s:Shk} (hr:s.role≤1) (hs:s.step≤2):decide (atv s>1)=shO s:=by
 unfold shO atv
 rw [decide_eq_decide]
 split <;> (try split) <;> omega
theorem kshk_any:ShkOK KI where
 ptr:=fun v s bs h=>by
  obtain ⟨_,_,R,h,_⟩:=h
  exact ⟨R,h⟩
 beg:=fun w0 w l a d B hg ha hd hB hBb M=>(kbegin_any w0 w l a d ha hd B hB hBb hg M).mono fun e w' ⟨R,A,D,he,h1,h2,h3,M',hl⟩=>⟨_,[(R,_),(A,_),(D,_)],he,⟨Nat.zero_le _,Nat.zero_le _,R,rfl,.inl ⟨show (0:Nat)<2 by decide,A,D,rfl⟩⟩,fun p hp=>by
  simp only [List.mem_cons,List.not_mem_nil,or_false] at hp
  rcases hp with rfl | rfl | rfl
  · exact h1
  · exact h2
  · exact h3,M',hl⟩
 awt:=fun w0 w l b f hg hb hf M=>(kawait_any w0 w l b f hb hf hg M).mono fun e w' ⟨R,A,D,he,h1,h2,h3,M',hl⟩=>⟨_,[(R,_),(A,_),(D,_)],he,⟨xnR _,Nat.zero_le _,R,rfl,.inl ⟨show (0:Nat)<2 by decide,A,D,rfl⟩⟩,fun p hp=>by
  simp only [List.mem_cons,List.not_mem_nil,or_false] at hp
  rcases hp with rfl | rfl | rfl
  · exact h1
  · exact h2
  · exact h3,M',hl⟩
 fst:=ktakes turn_F (.inl rfl) kfirst_any kvia_First
 tfs:=ktakes turn_TF (.inr (.inl rfl)) ktakeFirst_any kvia_TakeFirst
 snd:=ktakes turn_S (.inr (.inr (.inl rfl))) ksecond_any kvia_Second
 tsn:=ktakes turn_TS (.inr (.inr (.inr rfl))) ktakeSecond_any kvia_TakeSecond
 oth:=fun w0 w v s bs l _ hI M=>by
  obtain ⟨hr,h2,R,rfl,hI⟩:=hI
  rw [← shO_atv hr h2]
  rcases hI with ⟨_,A,D,rfl⟩ | ⟨he,rfl⟩
  · exact kother_any w0 w R _ (atv s) s.st (bl (LD.pub s.sec)) (bl (LD.pub s.drw)) (bl s.its) (bl s.drn) (fun _=>0) (fun _=>0) (kfv A) (kfv D) M
  · rw [atv_5 he]
    exact kother_any w0 w R _ 5 szero (fun _=>0) (fun _=>0) (bl s.its) (fun _=>0) (kA s.st.c 0 (bl [])) (kB s.st.c 0 (bl [])) .nilFunc .nilFunc M
 kys:=fun w0 w v s bs l _ hI _ M=>by
  obtain ⟨hr,h2,R,rfl,hI⟩:=hI
  rcases hI with ⟨hlt,A,D,rfl⟩ | ⟨he,rfl⟩
  · have e1:shD s=(atv s == 5):=by
     unfold shD atv
     rw [if_neg (by omega)]
     have:¬ s.step=2:=by omega
     split <;> simp [this] <;> omega
    have e2:shK s=[row .u8 32 (fun _=>0),row .u8 32 (fun _=>0)].flatten:=by
     unfold shK
     rw [if_neg (by omega)]
    rw [e1,e2]
    exact kkeys_any w0 w R _ (atv s) s.st (bl (LD.pub s.sec)) (bl (LD.pub s.drw)) (bl s.its) (bl s.drn) (fun _=>0) (fun _=>0) (kfv A) (kfv D) M
  · have e1:shD s=((5:Int) == 5):=by
     unfold shD
     simp [he]
    have e2:shK s=[row .u8 32 (kA s.st.c 0 (bl [])),row .u8 32 (kB s.st.c 0 (bl []))].flatten:=by
     unfold shK
     rw [if_pos he]
    rw [e1,e2]
    exact kkeys_any w0 w R _ 5 szero (fun _=>0) (fun _=>0) (bl s.its) (fun _=>0) (kA s.st.c 0 (bl [])) (kB s.st.c 0 (bl [])) .nilFunc .nilFunc M
def szs (n:Nat):List Int:=List.replicate n 0
theorem szs_len (n:Nat):(szs n).length=n:=List.length_replicate
theorem szs_byts (n:Nat):Byts (szs n):=fun x hx=>by rw [List.eq_of_mem_replicate hx]; exact ⟨Int.le_refl _,by decide⟩
theorem one_b (x:Int) (h0:0≤x) (h1:x<256):In 256 32 (one x):=fun j _=>by
 cases j with
 | zero=>exact ⟨h0,h1⟩
 | succ j=>exact ⟨Int.le_refl _,show (0:Int)<256 by decide⟩
theorem shBegin_w {a e:Nat→Int} {B:List Int} (ha:In 256 32 a) (he:In 256 32 e) (hB:B.length=32) (hb:Byts B):ShkW (shBegin a e B):=⟨ha,he,⟨hB,hb⟩,⟨rfl,szs_byts 32⟩,smix_w snew_w _⟩
theorem shAwait_w {b f:Nat→Int} (hb:In 256 32 b) (hf:In 256 32 f):ShkW (shAwait LD b f):=⟨hb,hf,⟨rfl,szs_byts 32⟩,⟨rfl,szs_byts 32⟩,smix_w snew_w _⟩
theorem shK_2 {s:Shk} (h:s.step=2):shK s=[row .u8 32 (kA s.st.c 0 (bl [])),row .u8 32 (kB s.st.c 0 (bl []))].flatten:=if_pos h
theorem shD_2 {s:Shk} (h:s.step=2):shD s=true:=decide_eq_true h
theorem shO_2 {s:Shk} (h:s.step=2):shO s=true:=decide_eq_true (.inr (by omega))
theorem part_key (xs:Array Value) (o:Nat) (ys:List Value) (h:xs.extract o (o+32)=ys.toArray) (w:World):(part 23 xs o).run Tryz.prog w=.ok (.agg ys.toArray) w:=by
 have e1:(isAgg 23).run Tryz.prog w=.ok true w:=by kernel_rfl
 have e2:(sizeOf 23).run Tryz.prog w=.ok 32 w:=by kernel_rfl
 unfold part
 simp only [Sem.run_bind,e1,Result.andThen_ok,if_true,e2,Sem.run_pure,h]
theorem pair_p1 (f g:Nat→Int) (w:World):(part 23 ([row .u8 32 f,row .u8 32 g].flatten).toArray 0).run Tryz.prog w=.ok (.agg (row .u8 32 f).toArray) w:=part_key _ 0 _ (by
 rw [List.extract_toArray,List.extract_eq_take_drop,List.drop_zero,List.flatten_cons,List.take_left' (row_length _ _ _)]) w
theorem pair_p2 (f g:Nat→Int) (w:World):(part 23 ([row .u8 32 f,row .u8 32 g].flatten).toArray 32).run Tryz.prog w=.ok (.agg (row .u8 32 g).toArray) w:=part_key _ 32 _ (by
 rw [List.extract_toArray,List.extract_eq_take_drop,List.flatten_cons,List.drop_left' (row_length _ _ _),List.flatten_cons,List.take_left' (row_length _ _ _)]) w
theorem pair_n : (Tryz.prog.fieldsOf 41).toList.map Field.name = ["From", "To"] := by kernel_rfl
theorem pair_t:(Tryz.prog.fieldsOf 41).toList.map Field.type=[23,23]:=by kernel_rfl
theorem pair_o:(Tryz.prog.fieldsOf 41).toList.map Field.offset=[0,32]:=by kernel_rfl
theorem two_of {l:List Field} {n1 n2:String} {t1 t2:TypeId} {o1 o2:Nat} (hn:l.map Field.name=[n1,n2]) (ht:l.map Field.type=[t1,t2]) (ho:l.map Field.offset=[o1,o2]):∃ a b:Field,l=[a,b]∧a.name=n1∧b.name=n2∧a.type=t1∧b.type=t2∧a.offset=o1∧b.offset=o2:=by
 rcases l with _ | ⟨a,_ | ⟨b,_ | ⟨c,l⟩⟩⟩
 · simp at hn
 · simp at hn
 · simp only [List.map_cons,List.map_nil,List.cons.injEq,and_true] at hn ht ho
   exact ⟨a,b,rfl,hn.1,hn.2,ht.1,ht.2,ho.1,ho.2⟩
 · simp at hn
theorem fields_2 {d : Nat} {xs : Array Value} {a b : Field} {t : TypeId} {o1 o2 : Nat} {x y : Value} (w : World) (n1 : a.name ≠ "_") (n2 : b.name ≠ "_") (t1 : a.type = t) (t2 : b.type = t) (h1 : a.offset = o1) (h2 : b.offset = o2) (p1 : (part t xs o1).run Tryz.prog w = .ok x w) (p2 : (part t xs o2).run Tryz.prog w = .ok y w) (q1 : (Op.equalIn d t x x).run Tryz.prog w = .ok true w) (q2 : (Op.equalIn d t y y).run Tryz.prog w = .ok true w) : (Op.eqFields d xs xs [a, b]).run Tryz.prog w = .ok true w := by
 subst t1 h1 h2
 rw [← t2] at p2 q2
 simp only [Op.eqFields,n1,n2,ne_eq,not_false_eq_true,if_true,Sem.run_bind,p1,p2,q1,q2,Result.andThen_ok,Bool.not_true,Bool.false_eq_true,if_false,Sem.run_pure]
theorem eqPair (f g:Nat→Int) (w:World):(Op.equalIn (9999+1) 41 (.agg ([row .u8 32 f,row .u8 32 g].flatten).toArray) (.agg ([row .u8 32 f,row .u8 32 g].flatten).toArray)).run Tryz.prog w=.ok true w:=by
 rw [run_equalIn_struct w 9999 41 _ _ (by kernel_rfl) (by kernel_rfl)]
 obtain ⟨a,b,e,n1,n2,t1,t2,o1,o2⟩:=two_of pair_n pair_t pair_o
 rw [e]
 have q1:=run_equalIn_row w 9997 23 5 32 .u8 (P:=Tryz.prog) Tryz.underlying23 Tryz.underlying5 (fun _=>by kernel_rfl)
 exact fields_2 w (by rw [n1]; decide) (by rw [n2]; decide) t1 t2 o1 o2 (pair_p1 f g w) (pair_p2 f g w) (q1 f) (q1 g)
theorem eqlPr {o:Oper} {a:Act} (f g:Nat→Int) (x y:Operand) (ho:o.op=.binOp .eql 41 x y 41) (hx:a.eval x=.agg ([row .u8 32 f,row .u8 32 g].flatten).toArray) (hy:a.eval y=.agg ([row .u8 32 f,row .u8 32 g].flatten).toArray) (w:World) :
 (execOp a.eval o).run Tryz.prog w=.ok (.value (.bool true)) w:=by
 have e1:(binOp .eql 41 (.agg ([row .u8 32 f,row .u8 32 g].flatten).toArray) (.agg ([row .u8 32 f,row .u8 32 g].flatten).toArray)).run Tryz.prog w=.ok (.bool true) w:=by
  rw [run_eql_struct,eqPair]
  rfl
 unfold execOp
 simp only [ho,hx,hy,Sem.run_bind,run_eqGuard_agg (P:=Tryz.prog) w .eql 41 x y _ _ (by kernel_rfl),Result.andThen_ok,e1,Sem.run_pure]
end Go.Proofs.YtklnibmfpcmeeaaGreatDoor
