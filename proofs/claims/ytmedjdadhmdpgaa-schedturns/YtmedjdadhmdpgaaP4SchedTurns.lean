/- Texts of Au Av, joined. -/
import Derived.Test.YtmedjdadhmdpgaaP3SchedTurns
set_option maxRecDepth 20000
set_option maxHeartbeats 64000000
namespace Go.Proofs.Ytmedjdadhmdpgaa
open Go.RowKit
def PK21 (w:World) (E:Pes):Prop:=∀ e∈E,POK w e.2
theorem PK21.off {w w':World} {E:Pes} {C X:List (Nat × List Value)} {Y:List Nat} (h:PK21 w E) (hck:∀ e∈E,∀ q∈gks e.2.Z,q∈C) (o:Off Y w w') (h2:∀ b∈Y,b∉X.map Prod.fst) (hX:∀ q∈gp E++C,q∈X):PK21 w' E:=fun e he=>(h e he).off o (fun b hb hm=>h2 b hb (mem_bl (q:=(b,[])) (hX _ (List.mem_append_left _ (gp_mem he (mT _ (List.mem_map.2 ⟨b,hm,rfl⟩))))))) (fun b hb hm=>by
 obtain ⟨q,hq,rfl⟩:=List.mem_map.1 hm
 exact h2 q.1 hb (mem_bl (hX _ (List.mem_append_right _ (hck e he q hq)))))
theorem PK21.below {w w':World} {E:Pes} (h:PK21 w E) (l:Below w.heap.size w w'):PK21 w' E:=fun e he=>(h e he).below l
theorem plk_app (E:Pes) (B:Nat) (d:Dfl) (x:Int):plk (E++[(B,d)]) x=match plk E x with | some b=>some b | none=>if ((d.n:Nat):Int)=x then some B else none:=by
 induction E with
 | nil=>rfl
 | cons e E ih =>
   show (if ((e.2.n:Nat):Int)=x then some e.1 else plk (E++[(B,d)]) x)=match (if ((e.2.n:Nat):Int)=x then some e.1 else plk E x) with | some b=>some b | none=>_
   by_cases c:((e.2.n:Nat):Int)=x
   · rw [if_pos c,if_pos c]
   · rw [if_neg c,if_neg c,ih]
theorem pmf_app {E:Pes} {B:Nat} {d:Dfl} {id:Int} (hd:((d.n:Nat):Int)=id) (hn:plk E id=none):∀ x,iput (pmf E) id (.pointer (some ⟨B,0,none⟩)) x=pmf (E++[(B,d)]) x:=fun x=>by
 unfold pmf
 rw [plk_app]
 by_cases c:x=id
 · subst c
   rw [iput_same,hn,if_pos hd]
   rfl
 · rw [iput_other c]
   cases h:plk E x with
   | some b=>rfl
   | none=>show none=Option.map _ (if ((d.n:Nat):Int)=x then some B else none); rw [if_neg (fun e=>c (e.symm.trans hd))]; rfl
theorem plk_none {E:Pes} {x:Int} (h:∀ e∈pfl E,((e.n:Nat):Int)≠x):plk E x=none:=by
 induction E with
 | nil=>rfl
 | cons e E ih =>
   show (if ((e.2.n:Nat):Int)=x then some e.1 else plk E x)=none
   rw [if_neg (h e.2 (by unfold pfl; simp)),ih fun y hy=>h y (by unfold pfl at hy ⊢; simp only [List.map_cons,List.mem_cons]; exact .inr hy)]
theorem plk_drop {A F:Pes} {B:Nat} {d:Dfl} {x:Int} (h:((d.n:Nat):Int)≠x):plk (A++(B,d)::F) x=plk (A++F) x:=by
 induction A with
 | nil=>show (if ((d.n:Nat):Int)=x then _ else _)=_; rw [if_neg h]; rfl
 | cons e A ih=>show (if _ then _ else plk (A++(B,d)::F) x)=if _ then _ else plk (A++F) x; rw [ih]
theorem pmf_del {A F:Pes} {B:Nat} {d:Dfl} {id:Int} (hd:((d.n:Nat):Int)=id) (hA:∀ e∈pfl (A++F),((e.n:Nat):Int)≠id):∀ x,idel (pmf (A++(B,d)::F)) id x=pmf (A++F) x:=fun x=>by
 by_cases c:x=id
 · subst c
   rw [idel_same]
   unfold pmf
   rw [plk_none hA]
   rfl
 · rw [idel_other c]
   unfold pmf
   rw [plk_drop (fun e=>c (e.symm.trans hd))]
theorem pmf_key {E:Pes} {x:Int} (h:(pmf E x).isSome=true):x∈E.map fun e=>((e.2.n:Nat):Int):=by
 induction E with
 | nil=>cases h
 | cons e E ih =>
   unfold pmf at h
   by_cases c:((e.2.n:Nat):Int)=x
   · rw [← c]
     exact mS
   · refine mT _ (ih ?_)
     rw [show plk (e::E) x=plk E x from if_neg c] at h
     exact h
theorem NS.keys {w:World} {m:Option Nat} {n:Nat} {E:Pes} (h:NS w m n (pmf E)):NS w m E.length (pmf E):=by
 cases m with
 | none=>exact h
 | some b =>
   have:=IM.boundL h uk21 (E.map fun e=>((e.2.n:Nat):Int)) fun x hx=>pmf_key hx
   rw [List.length_map] at this
   exact this
theorem perm_open {α:Type} (b B R:α) (g T:List α):(R::b::B::(g++T)).Perm ((R::([b]++(g++[B])))++T):=by
 refine List.Perm.cons _ (List.Perm.cons _ ?_)
 show (B::(g++T)).Perm ((g++[B])++T)
 rw [List.append_assoc]
 exact List.perm_middle.symm
theorem sdel_none:∀ {L:List (Nat × Flg)} {id:Int},sfd L id=none→sdel L id=L
 | [],_,_=>rfl
 | q::L,id,h=>by
   unfold sfd at h
   unfold sdel
   by_cases c:((q.1:Nat):Int)=id
   · rw [if_pos c] at h; cases h
   · rw [if_neg c] at h ⊢
     rw [sdel_none h]
theorem vnew21_any (w0 w:World) (l:List (Nat × List Value)) (pol:Int) (M:Mm w0 l w) :
 Calls Try.prog 9 #[.int .i64 pol] w fun e w'=>∃ R,e=.returned (.pointer (some ⟨R,0,none⟩))∧PIn w' (snew pol) pol none [] []∧Mm w0 (pow R (snew pol) pol none []++l) w'∧Below w.heap.size w w':=by
 have lb_:=Below.refl w.heap.size w
 go_enter Try.func9,Try.ntmps9
 go_upto_region 0 with fail; refine wp_region_list ?_; refine xpL (.pointer none) ?_; refine xT ?_; go_upto_region 1 with fail; refine wp_region_list ?_; refine xpL (.int .i64 pol) ?_; refine xpL (.agg #[.int .i64 pol,.int .u64 0,.map none]) ?_; refine actL (w':=w.alloc (.cells #[.int .i64 pol,.int .u64 0,.map none] 55)) (.pointer (some ⟨w.heap.size,0,none⟩)) rfl (by kernel_rfl) ?_
 simp only [aP,lI,l0,lS]; have hlb:=(Below.refl w.heap.size w).alloc (xnR _) (.cells #[.int .i64 pol,.int .u64 0,.map none] 55); replace lb_:=lb_.trans (hlb.mono lb_.size); clear hlb
 have hB_B1:w0.heap.size≤w.heap.size:=M.below.size
 replace M:=M.box #[.int .i64 pol,.int .u64 0,.map none] 55 w.heap.size rfl; generalize w.alloc (.cells #[.int .i64 pol,.int .u64 0,.map none] 55)=w1 at M lb_ ⊢; generalize eB:w.heap.size=B1 at M hB_B1  ⊢
 have hE_B1:w.heap.size≤B1:=Nat.le_of_eq eB
 have hF_B1:B1≤w.heap.size:=Nat.le_of_eq eB.symm
 clear eB
 replace M:Mm w0 ((B1,[.int .i64 pol,.int .u64 0,.map none])::l) w1:=M
 refine xpL (.pointer (some ⟨B1,0,none⟩)) ?_; refine xT ?_; have HS:=show Hid _ from (show Mm w0 (pow B1 (snew pol) pol none []++l) w1 from M); have hbel:=show Hid _ from lb_; have hI:=show Hid _ from (show PIn w1 (snew pol) pol none [] [] from ⟨rfl,fun _=>rfl,rfl,(fun _ h=>by cases h),(fun _ h=>by cases h)⟩); clear M lb_; go_wp2; go_ret
 exact ⟨B1,rfl,hI.out,HS.out,hbel.out⟩
theorem vopn21_any (w0 w:World) (R:Nat) (p:Int) (m:Option Nat) (E:Pes) (C l:List (Nat × List Value)) (s:Sch) (hI:PIn w s p m E C) (hsz_:ssz s<1000000000) (M:Mm w0 (pow R s p m E++(C++l)) w) (id:Int) (hid:i64 id) :
 Calls Try.prog 12 #[.pointer (some ⟨R,0,none⟩),.int .i64 id] w fun e w'=>∃ m' E',e=.returned (.tuple #[])∧PIn w' (sop s id) p m' E' C∧Mm w0 (pow R (sop s id) p m' E'++(C++l)) w'∧Off ((pow R s p m E).map Prod.fst) w w':=by
 replace M:Mm w0 ((R,[.int .i64 p,.int .u64 (s.last+1),.map m])::((mbk m++gp E)++(C++l))) w:=M
 have M0:=show Hid _ from M; have hln:=hI.len
 go_enter Try.func12,Try.ntmps12
 rcases plk_cases E id with ⟨h1,h2⟩ | ⟨A,B,d,F,rfl,h2,h3,h4,h5⟩
 · go_upto_region 0 with fail
   refine wp_region_list ?_; refine xpL (.pointer (some ⟨R,0,none⟩)) ?_; refine xpL (.pointer (some ⟨R,0,none⟩)) ?_; refine xpL (.pointer (some ⟨R,2,none⟩)) ?_; refine xaL (.map m) (load1 53 _ ⟨R,2,none⟩ _ rfl rfl (fun _=>by kernel_rfl) (M.get mS 2 _ rfl)) ?_; refine xpL (.int .i64 id) ?_
   refine xaL (.tuple #[.pointer none,.bool false]) (lookOk21 hI.map Try.underlying53 (.pointer none) (fun _=>by kernel_rfl) id hid (.pointer none) (by unfold pmf; rw [h1]; rfl) false (by unfold pmf; rw [h1]; rfl) _ _ rfl rfl rfl) ?_; refine xpL (.tuple #[.pointer none,.bool false]) ?_; refine xpL (.pointer none) ?_; refine xpL (.bool false) ?_; refine xpL (.pointer none) ?_
   refine xpL (.bool false) ?_; refine xT ?_
   by_cases h0:id<0
   · go_upto_region 1 with fail
     refine wp_region_list ?_; refine xpL (.bool false) ?_; refine xpL (.bool false) ?_; refine xpL (.int .i64 id) ?_; refine xaL (.bool true) (lssI .i64 _ _ _ _ _ _ rfl rfl rfl true (decide_eq_true (by omega)) _) ?_; refine xpL (.bool true) ?_; refine xT ?_; have hE:=show Hid _ from (show sop s id=s from if_neg (fun h_=>by have:=h_.1; omega)); have HS:=show Hid _ from M0.out
     have hI2:=show Hid _ from hI; clear M M0 hI; go_wp2
     exact ⟨rfl,.tuple #[],by kernel_rfl,m,_,rfl,by rw [hE.out]; exact hI2.out,by rw [hE.out]; exact HS.out,Off.refl _ _⟩
   · go_upto_region 1 with fail
     refine wp_region_list ?_; refine xpL (.bool false) ?_; refine xpL (.bool false) ?_; refine xpL (.int .i64 id) ?_; refine xaL (.bool false) (lssI .i64 _ _ _ _ _ _ rfl rfl rfl false (decide_eq_false (by omega)) _) ?_; refine xpL (.bool false) ?_; refine xT ?_
     obtain ⟨n,rfl⟩:∃ n:Nat,id=(n:Int):=⟨id.toNat,by omega⟩
     have hsp:=show Hid _ from (show sop s (n:Int)={ s with L:=s.L++[(n,flg0)] } by unfold sop; rw [if_pos ⟨by omega,by rw [← hI.lst]; exact h2⟩,Int.toNat_natCast]); have hsz:=xnR w.heap.size
     have PK_:PK21 w E:=hI.ok
     have I_:=hI.map; have OF:=Off.refl ((pow R s p m E).map Prod.fst) w
     cases m with
     | none =>
       clear M
       have M:Mm w0 ((R,[.int .i64 p,.int .u64 (s.last+1),.map none])::(gp E++(C++l))) w:=M0.out
       clear M0; have M0:=show Hid _ from M; go_upto_region 2 with fail; refine wp_region_list ?_; refine xpL (.pointer (some ⟨R,0,none⟩)) ?_; refine xpL (.pointer (some ⟨R,0,none⟩)) ?_; refine xpL (.pointer (some ⟨R,2,none⟩)) ?_; refine xaL (.map none) (load1 53 _ ⟨R,2,none⟩ _ rfl rfl (fun _=>by kernel_rfl) (M.get mS 2 _ rfl)) ?_
       refine xaL (.bool true) (eqlM21 none _ _ _ _ _ _ true rfl rfl rfl rfl Try.underlying53 _) ?_; refine xT ?_; go_upto_region 3 with fail; refine wp_region_list ?_; refine xpL (.pointer (some ⟨R,0,none⟩)) ?_; have hlb:=(Below.refl w.heap.size w).alloc (xnR _) (.map #[] 0); refine actL (w':=w.alloc (.map #[] 0)) (.map (some w.heap.size)) rfl (by kernel_rfl) ?_; simp only [aP,lI,l0,lS]
       have hB_:=hsz; replace PK_:=PK_.below hlb; replace I_:=I_.below hlb; replace OF:=OF.below hlb; replace hsz:=xnT hsz hlb.size; have J_:=IM.made Try.prog 3 w; replace M:=M.boxM21; clear hlb; generalize w.alloc (.map #[] 0)=w1 at M J_ PK_ I_ OF hsz ⊢; generalize eB_:w.heap.size=b at M J_ ⊢
       have hB_b:w.heap.size≤b:=by rw [← eB_]; exact hB_
       clear hB_ eB_
       replace M:Mm w0 ((b,[])::(R,[.int .i64 p,.int .u64 (s.last+1),.map none])::(gp E++(C++l))) w1:=M
       refine xpL (.pointer (some ⟨R,0,none⟩)) ?_; refine xpL (.pointer (some ⟨R,2,none⟩)) ?_; replace M:=M.swap; refine skipOpL rfl (storeAny (.map (some b)) R 2 53 _ _ rfl rfl rfl rfl rfl (M.isSome mS 2 (by simp)) (M.free mS 2 (by simp)) (by kernel_rfl)) ?_; simp only [Act.put]; replace M:=M.set 2 (by simp) (.map (some b))
       replace PK_:=PK_.off hI.ck (X:=gp E++C) ((Off.refl [R] _).set (b:=R) mS 2 (.map (some b))) (fun b_ hb_=>by obtain rfl:=xm1 hb_; exact M.awayC (fun p_ hp_=>by rcases List.mem_append.1 hp_ with h_ | h_ <;> simp [h_])) (fun _ h_=>h_); replace OF:=OF.and1 ((Off.refl [R] _).set (b:=R) mS 2 (.map (some b))) (.inl (by simp [pow,mbk]))
       replace hsz:=xnT hsz (Off.size ((Off.refl [R] _).set (b:=R) mS 2 (.map (some b)))); replace J_:=J_.off ((Off.refl [R] _).set (b:=R) mS 2 (.map (some b))) (fun hm_=>by have h1_:=xm1 hm_; have h2_:=(List.pairwise_cons.1 M.apart).1 _ (mS); exact h2_ h1_.symm); generalize w1.setCell ⟨R,2,none⟩ (.map (some b))=w2 at M PK_ OF hsz J_ ⊢
       replace M:Mm w0 ((R,[.int .i64 p,.int .u64 (s.last+1),.map (some b)])::(b,[])::(gp E++(C++l))) w2:=M
       refine xT ?_; have I_:=J_; clear J_; replace I_:=I_.mono (Nat.zero_le E.length); replace I_:=I_.congr (g:=pmf E) (fun x _=>(hI.map x).symm); go_upto_region 4 with fail; refine wp_region_list ?_; refine xpL (.pointer (some ⟨R,0,none⟩)) ?_; refine xpL (.pointer (some ⟨R,0,none⟩)) ?_; refine xpL (.pointer (some ⟨R,2,none⟩)) ?_
       refine xaL (.map (some b)) (load1 53 _ ⟨R,2,none⟩ _ rfl rfl (fun _=>by kernel_rfl) (M.get mS 2 _ rfl)) ?_; refine xpL (.int .i64 (n:Int)) ?_; refine xpL (.agg #[.int .i64 4,.int .i64 0,.slice none 0 0]) ?_; refine actL (w':=w2.alloc (.cells #[.int .i64 4,.int .i64 0,.slice none 0 0] 63)) (.pointer (some ⟨w2.heap.size,0,none⟩)) rfl (by kernel_rfl) ?_; simp only [aP,lI,l0,lS]
       have hlb:=(Below.refl w2.heap.size w2).alloc (xnR _) (.cells #[.int .i64 4,.int .i64 0,.slice none 0 0] 63); replace PK_:=PK_.below hlb; replace OF:=OF.below hlb; replace hsz:=xnT hsz hlb.size; replace I_:=I_.bel hlb; clear hlb
       have hB_B3:w0.heap.size≤w2.heap.size:=M.below.size
       replace M:=M.box #[.int .i64 4,.int .i64 0,.slice none 0 0] 63 w2.heap.size rfl; generalize w2.alloc (.cells #[.int .i64 4,.int .i64 0,.slice none 0 0] 63)=w3 at M PK_ OF hsz I_ ⊢; generalize eB:w2.heap.size=B3 at M hB_B3  ⊢
       have hE_B3:w2.heap.size≤B3:=Nat.le_of_eq eB
       have hF_B3:B3≤w2.heap.size:=Nat.le_of_eq eB.symm
       clear eB
       replace M:Mm w0 ((B3,[.int .i64 4,.int .i64 0,.slice none 0 0])::(R,[.int .i64 p,.int .u64 (s.last+1),.map (some b)])::(b,[])::(gp E++(C++l))) w3:=M
       replace M:=M.rot3
       replace M:Mm w0 ((b,[])::(B3,[.int .i64 4,.int .i64 0,.slice none 0 0])::(R,[.int .i64 p,.int .u64 (s.last+1),.map (some b)])::(gp E++(C++l))) w3:=M
       obtain ⟨w4,hr,I2,hgr⟩:=IM.put I_ uk21 Try.underlying53 (by unfold maxLen; omega) hid (.pointer (some ⟨B3,0,none⟩))
       refine skipOpL rfl (putOp21 _ _ _ rfl rfl rfl rfl hr) ?_; simp only [Act.put]; replace M:=M.touch hgr; have o1_:=Off.touched hgr; replace PK_:=PK_.off hI.ck (X:=gp E++C) o1_ (fun b_ hb_=>by obtain rfl:=xm1 hb_; exact M.awayC (fun p_ hp_=>by rcases List.mem_append.1 hp_ with h_ | h_ <;> simp [h_])) (fun _ h_=>h_); replace OF:=OF.and1 o1_ (.inr (by omega))
       replace hsz:=xnT hsz (Off.size o1_); clear hr hgr o1_ I_; have I_:=I2; clear I2; replace M:=M.rot3
       replace M:Mm w0 ((R,[.int .i64 p,.int .u64 (s.last+1),.map (some b)])::(b,[])::(B3,[.int .i64 4,.int .i64 0,.slice none 0 0])::(gp E++(C++l))) w4:=M
       have HS:=show Hid _ from (show Mm w0 (pow R { s with L:=s.L++[(n,flg0)] } p (some b) (E++[(B3,⟨n,4,none,[],none,0⟩)])++(C++l)) w4 by
        refine M.perm ?_
        unfold pow
        rw [gp_app]
        exact perm_open (b,[]) _ _ _ _)
       have hI2:=show Hid _ from (show PIn w4 { s with L:=s.L++[(n,flg0)] } p (some b) (E++[(B3,⟨n,4,none,[],none,0⟩)]) C from ⟨hI.pol,NS.keys (NS.congr (m:=some b) (n:=E.length+1) I_ (pmf_app (d:=⟨n,4,none,[],none,0⟩) rfl h1)),(by unfold pfl; rw [List.map_append,dpl_app,show dpl (E.map Prod.snd)=s.L from hI.lst]; rfl),fun e he=>by
        rcases List.mem_append.1 he with h | h
        · exact PK_ e h
        · obtain rfl:=xm1 h
          exact ⟨World.ownsRow_nil _ _ _ _,fun _ h=>by cases h⟩,fun e he q hq=>by
        rcases List.mem_append.1 he with h | h
        · exact hI.ck e h q hq
        · obtain rfl:=xm1 h
          cases hq⟩)
       have HO:=show Hid _ from OF; clear M M0 OF PK_ I_ hI
       exact ⟨rfl,.tuple #[],by kernel_rfl,some b,E++[(B3,⟨n,4,none,[],none,0⟩)],rfl,by rw [hsp.out]; exact hI2.out,by rw [hsp.out]; exact HS.out,HO.out⟩
     | some b =>
       clear M
       have M:Mm w0 ((R,[.int .i64 p,.int .u64 (s.last+1),.map (some b)])::(b,[])::(gp E++(C++l))) w:=M0.out
       clear M0; have M0:=show Hid _ from M; have hbR:=(List.pairwise_cons.1 M.apart).1 _ mS; have hbw:=M.lt (mT _ mS); go_upto_region 2 with fail; refine wp_region_list ?_; refine xpL (.pointer (some ⟨R,0,none⟩)) ?_; refine xpL (.pointer (some ⟨R,0,none⟩)) ?_; refine xpL (.pointer (some ⟨R,2,none⟩)) ?_
       refine xaL (.map (some b)) (load1 53 _ ⟨R,2,none⟩ _ rfl rfl (fun _=>by kernel_rfl) (M.get mS 2 _ rfl)) ?_; refine xaL (.bool false) (eqlM21 (some b) _ _ _ _ _ _ false rfl rfl rfl rfl Try.underlying53 _) ?_; refine xT ?_; go_upto_region 4 with fail; refine wp_region_list ?_; refine xpL (.pointer (some ⟨R,0,none⟩)) ?_; refine xpL (.pointer (some ⟨R,0,none⟩)) ?_
       refine xpL (.pointer (some ⟨R,2,none⟩)) ?_; refine xaL (.map (some b)) (load1 53 _ ⟨R,2,none⟩ _ rfl rfl (fun _=>by kernel_rfl) (M.get mS 2 _ rfl)) ?_; refine xpL (.int .i64 (n:Int)) ?_; refine xpL (.agg #[.int .i64 4,.int .i64 0,.slice none 0 0]) ?_
       refine actL (w':=w.alloc (.cells #[.int .i64 4,.int .i64 0,.slice none 0 0] 63)) (.pointer (some ⟨w.heap.size,0,none⟩)) rfl (by kernel_rfl) ?_; simp only [aP,lI,l0,lS]; have hlb:=(Below.refl w.heap.size w).alloc (xnR _) (.cells #[.int .i64 4,.int .i64 0,.slice none 0 0] 63); replace PK_:=PK_.below hlb; replace I_:=I_.bel hlb; replace OF:=OF.below hlb
       replace hsz:=xnT hsz hlb.size; clear hlb
       have hB_B5:w0.heap.size≤w.heap.size:=M.below.size
       replace M:=M.box #[.int .i64 4,.int .i64 0,.slice none 0 0] 63 w.heap.size rfl; generalize w.alloc (.cells #[.int .i64 4,.int .i64 0,.slice none 0 0] 63)=w5 at M PK_ I_ OF hsz ⊢; generalize eB:w.heap.size=B5 at M hB_B5  ⊢
       have hE_B5:w.heap.size≤B5:=Nat.le_of_eq eB
       have hF_B5:B5≤w.heap.size:=Nat.le_of_eq eB.symm
       clear eB
       replace M:Mm w0 ((B5,[.int .i64 4,.int .i64 0,.slice none 0 0])::(R,[.int .i64 p,.int .u64 (s.last+1),.map (some b)])::(b,[])::(gp E++(C++l))) w5:=M
       replace M:=M.rot3
       replace M:Mm w0 ((b,[])::(B5,[.int .i64 4,.int .i64 0,.slice none 0 0])::(R,[.int .i64 p,.int .u64 (s.last+1),.map (some b)])::(gp E++(C++l))) w5:=M
       obtain ⟨w6,hr,I2,hgr⟩:=IM.put I_ uk21 Try.underlying53 (by unfold maxLen; omega) hid (.pointer (some ⟨B5,0,none⟩))
       refine skipOpL rfl (putOp21 _ _ _ rfl rfl rfl rfl hr) ?_; simp only [Act.put]; replace M:=M.touch hgr; have o1_:=Off.touched hgr; replace PK_:=PK_.off hI.ck (X:=gp E++C) o1_ (fun b_ hb_=>by obtain rfl:=xm1 hb_; exact M.awayC (fun p_ hp_=>by rcases List.mem_append.1 hp_ with h_ | h_ <;> simp [h_])) (fun _ h_=>h_); replace OF:=OF.and1 o1_ (.inl (by simp [pow,mbk]))
       replace hsz:=xnT hsz (Off.size o1_); clear hr hgr o1_ I_; have I_:=I2; clear I2; replace M:=M.rot3
       replace M:Mm w0 ((R,[.int .i64 p,.int .u64 (s.last+1),.map (some b)])::(b,[])::(B5,[.int .i64 4,.int .i64 0,.slice none 0 0])::(gp E++(C++l))) w6:=M
       have HS:=show Hid _ from (show Mm w0 (pow R { s with L:=s.L++[(n,flg0)] } p (some b) (E++[(B5,⟨n,4,none,[],none,0⟩)])++(C++l)) w6 by
        refine M.perm ?_
        unfold pow
        rw [gp_app]
        exact perm_open (b,[]) _ _ _ _)
       have hI2:=show Hid _ from (show PIn w6 { s with L:=s.L++[(n,flg0)] } p (some b) (E++[(B5,⟨n,4,none,[],none,0⟩)]) C from ⟨hI.pol,NS.keys (NS.congr (m:=some b) (n:=E.length+1) I_ (pmf_app (d:=⟨n,4,none,[],none,0⟩) rfl h1)),(by unfold pfl; rw [List.map_append,dpl_app,show dpl (E.map Prod.snd)=s.L from hI.lst]; rfl),fun e he=>by
        rcases List.mem_append.1 he with h | h
        · exact PK_ e h
        · obtain rfl:=xm1 h
          exact ⟨World.ownsRow_nil _ _ _ _,fun _ h=>by cases h⟩,fun e he q hq=>by
        rcases List.mem_append.1 he with h | h
        · exact hI.ck e h q hq
        · obtain rfl:=xm1 h
          cases hq⟩)
       have HO:=show Hid _ from OF; clear M M0 OF PK_ I_ hI
       exact ⟨rfl,.tuple #[],by kernel_rfl,some b,E++[(B5,⟨n,4,none,[],none,0⟩)],rfl,by rw [hsp.out]; exact hI2.out,by rw [hsp.out]; exact HS.out,HO.out⟩
 · go_upto_region 0 with fail
   refine wp_region_list ?_; refine xpL (.pointer (some ⟨R,0,none⟩)) ?_; refine xpL (.pointer (some ⟨R,0,none⟩)) ?_; refine xpL (.pointer (some ⟨R,2,none⟩)) ?_; refine xaL (.map m) (load1 53 _ ⟨R,2,none⟩ _ rfl rfl (fun _=>by kernel_rfl) (M.get mS 2 _ rfl)) ?_; refine xpL (.int .i64 id) ?_
   refine xaL (.tuple #[.pointer (some ⟨B,0,none⟩),.bool true]) (lookOk21 hI.map Try.underlying53 (.pointer none) (fun _=>by kernel_rfl) id hid (.pointer (some ⟨B,0,none⟩)) (by unfold pmf; rw [h4]; rfl) true (by unfold pmf; rw [h4]; rfl) _ _ rfl rfl rfl) ?_; refine xpL (.tuple #[.pointer (some ⟨B,0,none⟩),.bool true]) ?_; refine xpL (.pointer (some ⟨B,0,none⟩)) ?_
   refine xpL (.bool true) ?_; refine xpL (.pointer (some ⟨B,0,none⟩)) ?_; refine xpL (.bool true) ?_; refine xT ?_; go_upto_region 1 with fail; refine wp_region_list ?_; refine xpL (.bool true) ?_; refine xpL (.bool true) ?_
   with_reducible refine skipL ?_ ?_
   · rfl
   simp only [aP,lI,l0,lS]
   with_reducible refine skipL ?_ ?_
   · rfl
   simp only [aP,lI,l0,lS]; refine xpL (.bool true) ?_; refine xT ?_; have hE:=show Hid _ from (show sop s id=s from if_neg (fun h_=>by rw [← hI.lst,h5] at h_; cases h_.2)); have HS:=show Hid _ from M0.out; have hI2:=show Hid _ from hI; clear M M0 hI; go_wp2
   exact ⟨rfl,.tuple #[],by kernel_rfl,m,_,rfl,by rw [hE.out]; exact hI2.out,by rw [hE.out]; exact HS.out,Off.refl _ _⟩
theorem Back.gone {w0 w:World} {s:Sch} {R:Nat} {p:Int} {m:Option Nat} {E:Pes} {C l X:List (Nat × List Value)} {id:Int} {B:Nat} {d:Dfl} (hw:SchW s) (hI:PIn w0 s p m E C) (h:Back w s R p m E (C++l) id B d X):∃ G,X=(R,prc s p m)::(mbk m++(gp G++(C++l)))∧(∀ e∈G,e∈E)∧(∀ x,idel (pmf E) id x=pmf G x)∧dpl (pfl G)=(scl s id).L∧(∀ b∈B::ob d.sr,b∈(pow R s p m E).map Prod.fst∨w.heap.size≤b):=by
 rcases h with ⟨A,F,rfl,hid,hA,rfl⟩ | ⟨hs,rfl,hB,rfl⟩
 · have e1:pfl (A++(B,d)::F)=pfl A++d::pfl F:=by unfold pfl; rw [List.map_append,List.map_cons]
   have e2:pfl (A++F)=pfl A++pfl F:=by unfold pfl; rw [List.map_append]
   have hnd:∀ e∈pfl (A++F),((e.n:Nat):Int)≠id:=fun e he=>by
    rw [e2] at he
    rcases List.mem_append.1 he with h | h
    · exact hA e h
    · have h1:=hw.d
      rw [← hI.lst,e1,dpl_app,dpl_cons,List.map_append,List.map_cons,List.nodup_append] at h1
      have h2:=(List.nodup_cons.1 h1.2.1).1
      exact fun c=>h2 (by
       have:e.n=d.n:=by omega
       rw [← this]
       exact List.mem_map.2 ⟨(e.n,e.f),List.mem_map.2 ⟨e,h,rfl⟩,rfl⟩)
   refine ⟨A++F,rfl,fun e he=>?_,pmf_del hid hnd,?_,fun b hb=>.inl ?_⟩
   · rcases List.mem_append.1 he with h | h
     · exact List.mem_append_left _ h
     · exact List.mem_append_right _ (mT _ h)
   · show _=sdel s.L id
     rw [← hI.lst,e1,e2,sdel_mid hid hA]
   · have hm:(B,d)∈A++(B,d)::F:=by simp
     rcases xc1 hb with rfl | hb
     · exact mem_bl (q:=(b,ppc d)) (mT _ (List.mem_append_right _ (gp_mem hm mS)))
     · exact mem_bl (q:=(b,[])) (mT _ (List.mem_append_right _ (gp_mem hm (mT _ (List.mem_map.2 ⟨b,hb,rfl⟩)))))
 · refine ⟨E,rfl,fun e he=>he,fun x=>?_,?_,fun b hb=>.inr ?_⟩
   · by_cases c:x=id
     · subst c
       rw [idel_same]
       rcases plk_cases E x with ⟨h1,_⟩ | ⟨A,B',d',F,rfl,h2,h3,h4,h5⟩
       · unfold pmf; rw [h1]; rfl
       · rw [hI.lst,hs] at h5
         cases h5
     · rw [idel_other c]
   · rw [hI.lst]
     exact (sdel_none hs).symm
   · rcases xc1 hb with rfl | hb
     · exact hB
     · cases hb
theorem perm_close2 {α:Type} (S k d g T:List α) (R:α):(S++(R::(k++(d++(g++T))))).Perm (d++((R::(k++g))++(S++T))):=by
 have e1:(R::(k++(d++(g++T))))=(R::k)++(d++(g++T)):=rfl
 rw [e1]
 have h1:=(sw21 (R::k) d (g++T)).append_left S; have h2:=sw21 S d ((R::k)++(g++T)); have h3:=(sw21 S (R::(k++g)) T).append_left d; refine (h1.trans h2).trans ?_
 have e2:((R::k)++(g++T))=(R::(k++g))++T:=by simp [List.append_assoc]
 rw [e2]
 exact h3
theorem NewW.ofOwn21 {w:World} {base:Nat} {rl:List (Int × Int)} {so:Option Addr} {co:Nat} (h:w.ownsRow base 38 2 (.slice so rl.length co) rl.length (wrc rl)):NewW w base rl (.slice so rl.length co):=by
 rcases h.2 with ⟨e,h0⟩ | ⟨g,cap,cur,e,hb,hgg,hc,_⟩
 · injection e with e1 e2 e3
   subst e1 e3
   obtain rfl:=List.eq_nil_of_length_eq_zero h0
   exact ⟨none,0,rfl,xnR _,fun _=>rfl,fun j u hu=>(by cases hu),fun a e=>(by cases e)⟩
 · injection e with e1 e2 e3
   subst e1 e3
   refine ⟨some ⟨g,0,none⟩,co,rfl,hc,fun e=>(by cases e),fun j u hu=>⟨_,rfl,World.ownsRow.cells h (g:=g) rfl j u hu⟩,fun a e=>?_⟩
   cases e
   exact World.ownsRow.lt h g rfl
theorem vcls21_any (w0 w:World) (R:Nat) (p:Int) (m:Option Nat) (E:Pes) (C l:List (Nat × List Value)) (s:Sch) (hI:PIn w s p m E C) (hw:SchW s) (hsz_:ssz s<1000000000) (M:Mm w0 (pow R s p m E++(C++l)) w) (id:Int) (hid:i64 id) :
 Calls Try.prog 15 #[.pointer (some ⟨R,0,none⟩),.int .i64 id] w fun e w'=>∃ sq cq E',e=.returned (.slice sq (sclO s id).length cq)∧NewW w' w0.heap.size (sclO s id) (.slice sq (sclO s id).length cq)∧PIn w' (scl s id) p m E' C∧Mm w0 (pow R (scl s id) p m E'++(obs sq++(C++l))) w'∧Off ((pow R s p m E).map Prod.fst) w w':=by
 replace M:Mm w0 ((R,[.int .i64 p,.int .u64 (s.last+1),.map m])::((mbk m++gp E)++(C++l))) w:=M
 go_enter Try.func15,Try.ntmps15
 go_upto_region 0 with fail; refine wp_region_list ?_; refine xpL (.slice none 0 0) ?_; refine xT ?_; go_upto_region 1 with fail; refine wp_region_list ?_; refine xpL (.pointer (some ⟨R,0,none⟩)) ?_; refine xpL (.int .i64 id) ?_; have key:=vat21_any w0 w R p m E C l s hI M id hid; refine xcL key ?_; clear key; rintro e w2 ⟨B,d,X,rfl,M',P,hdf,hck,lb,hbk⟩; clear M
 have M:Mm w0 ((B,[.int .i64 ((d.win:Nat):Int),.int .i64 (pnx d.top),.slice d.sr d.Z.length d.cr])::(obs d.sr++X)) w2:=M'
 clear M'; refine xeL ?_; refine xpL (.pointer (some ⟨B,0,none⟩)) ?_; refine xpL (.pointer (some ⟨B,2,none⟩)) ?_; refine xaL (.slice d.sr d.Z.length d.cr) (load1 61 _ ⟨B,2,none⟩ _ rfl rfl (fun _=>by kernel_rfl) (M.get mS 2 _ rfl)) ?_; refine xpL (.slice d.sr d.Z.length d.cr) ?_; refine xT ?_
 obtain ⟨G,hX,hGE,hGm,hGL,hB3⟩:=hbk.gone hw hI
 subst hX; have hI1:=hI.below lb; have I_:=hI1.map
 have hsd:=show Hid _ from (show sclO s id=sall (d.Z.map Prod.fst) by
  have:sclO s id=sall (sgf s id).rs:=by unfold sclO sgf; cases sfd s.L id <;> rfl
  rw [this,← hdf]; rfl)
 have hlen:=sgf_len (s:=s) id
 rw [← hdf] at hlen
 have hln1:d.Z.length≤ssz s:=by have h_:d.f.rs.length=d.Z.length:=List.length_map ..; omega
 have hln2:(sall (d.Z.map Prod.fst)).length≤ssz s:=by have h_:(sall d.f.rs).length=(sall (d.Z.map Prod.fst)).length:=rfl; omega
 have OF:Off ((pow R s p m E).map Prod.fst) w w2:=Off.of_below lb
 have hPK:∀ e∈G,POK w2 e.2:=fun e he=>hI1.ok e (hGE e he)
 have hsub:Mm w0 ((R,[.int .i64 p,.int .u64 (s.last+1),.map m])::(mbk m++(obs d.sr++(gp G++(C++l))))) w2:=by
  have h1:=M.tail
  have h2:(obs d.sr++((R,prc s p m)::(mbk m++(gp G++(C++l))))).Perm ((R,prc s p m)::(mbk m++(obs d.sr++(gp G++(C++l))))):=by
   have h3:=sw21 (obs d.sr) ((R,prc s p m)::mbk m) (gp G++(C++l))
   simpa [List.append_assoc] using h3
  exact h1.perm h2
 clear M; have M:=hsub; clear hsub; go_upto_region 2 with fail; refine wp_region_list ?_; refine xpL (.pointer (some ⟨R,0,none⟩)) ?_; refine xpL (.pointer (some ⟨R,0,none⟩)) ?_; refine xpL (.pointer (some ⟨R,2,none⟩)) ?_; refine xaL (.map m) (load1 53 _ ⟨R,2,none⟩ _ rfl rfl (fun _=>by kernel_rfl) (M.get mS 2 _ rfl)) ?_; refine xpL (.int .i64 id) ?_
 obtain ⟨w3,hr,I2,hgr⟩:=NS.del I_ Try.underlying53 hid 0
 have MM:=Mm.touch21 (m:=m) (l:=(R,[.int .i64 p,.int .u64 (s.last+1),.map m])::(obs d.sr++(gp G++(C++l)))) (M.perm (List.perm_middle (l₁:=mbk m)).symm) hgr; have o1:=Off.touched21 hgr
 have haw:∀ x∈(mbk m).map Prod.fst,x∉(obs d.sr++(gp G++(C++l))).map Prod.fst:=Mm.apart2 (M.tail)
 refine actL _ rfl (delOp21 _ _ rfl rfl rfl hr) ?_; simp only [Act.put]
 have P2:=P.off o1 (fun b hb hm=>haw b hb (mem_bl (q:=(b,[])) (List.mem_append_left _ (List.mem_map.2 ⟨b,hm,rfl⟩)))) (fun b hb hm=>by
  obtain ⟨q,hq,rfl⟩:=List.mem_map.1 hm
  exact haw q.1 hb (mem_bl (List.mem_append_right _ (List.mem_append_right _ (List.mem_append_left _ (hck q hq))))))
 have hPK2:PK21 w3 G:=PK21.off (C:=C) hPK (fun e he=>hI.ck e (hGE e he)) o1 (X:=obs d.sr++(gp G++(C++l))) haw (fun q hq=>by
  rcases List.mem_append.1 hq with h | h <;> simp [h])
 have I3:NS w3 m G.length (pmf G):=NS.keys (I2.congr hGm)
 replace OF:=OF.and21 o1 (fun b hb=>.inl (by
  obtain ⟨q,hq,rfl⟩:=List.mem_map.1 hb
  exact mem_bl (mT _ (List.mem_append_left _ hq))))
 clear M P hPK I_ I2 hr hgr o1 haw
 have M:Mm w0 ((R,[.int .i64 p,.int .u64 (s.last+1),.map m])::(mbk m++(obs d.sr++(gp G++(C++l))))) w3:=MM.perm (List.perm_middle (l₁:=mbk m))
 clear MM; refine xT ?_; go_upto_region 3 with fail; refine wp_region_list ?_; refine xpL (.slice d.sr d.Z.length d.cr) ?_; have key:=vcar21_any 0 d.Z d.sr d.cr (by omega) (by omega) w3 P2.V P2.K; refine xcL key ?_; clear key; rintro e w4 ⟨sq,cq,rfl,V_q,l_⟩; have M3:=M.newRow21 l_ V_q; replace OF:=OF.below l_; replace I3:=I3.below l_; replace hPK2:=hPK2.below l_
 have N_q:=NewW.ofOwn21 (ownsRow_mono21 (b:=w0.heap.size) V_q M.below.size); clear l_ V_q M P2; refine xeL ?_; refine xpL (.slice sq ((sall (d.Z.map Prod.fst)).length) cq) ?_; refine xT ?_; have hI2:=show Hid _ from (show PIn w4 (scl s id) p m G C from ⟨hI.pol,I3,hGL,hPK2,fun e he=>hI.ck e (hGE e he)⟩)
 have HS:=show Hid _ from (show Mm w0 (pow R (scl s id) p m G++(obs sq++(C++l))) w4 by
  have h1:=M3.perm (perm_close2 (obs sq) (mbk m) (obs d.sr) (gp G) (C++l) _)
  exact h1.sub _ (List.sublist_append_right (obs d.sr) _))
 have HN:=show Hid _ from N_q; have HO:=show Hid _ from OF; clear M3 N_q OF I3 hPK2; go_wp2; go_ret
 rw [hsd.out]
 exact ⟨sq,cq,G,rfl,HN.out,hI2.out,HS.out,HO.out⟩
theorem eqlN21 {P:Program} {o:Oper} {a:Act} (t e t':TypeId) (x y:Operand) (sp:Option Addr) (n c:Nat) (b:Bool) (ho:o.op=.binOp .eql t x y t') (hx:a.eval x=.slice sp n c) (hy:a.eval y=.slice none 0 0) (hu:P.underlying t=some (.slice e)) (hb:sp.isNone=b) (w:World):(execOp a.eval o).run P w=.ok (.value (.bool b)) w:=by
 subst hb
 unfold execOp
 have e1:(eqGuard .eql t x y (.slice sp n c) (.slice none 0 0)).run P w=.ok () w:=rfl
 simp only [ho,hx,hy,Sem.run_bind,e1,Lib.run_eql_slice_nil w t e sp n c 0 0 hu,Sem.run_pure,Result.andThen_ok]
theorem Mm.rowApp21 {w0 w w2:World} {l:List (Nat × List Value)} {sp sq:Option Addr} {n cap m cap2 base size:Nat} {e:TypeId} {ys:List Value} (M:Mm w0 (obs sp++l) w) (hg:w.grownBy w2 (Value.slice sp n cap).ownBlock) (V2:w2.ownsRow base e size (.slice sq m cap2) m ys) (h2:∀ g,(Value.slice sq m cap2).ownBlock=some g→(Value.slice sp n cap).ownBlock=some g∨g=w.heap.size):Mm w0 (obs sq++l) w2:=by
 have Ml:Mm w0 l w:=M.sub l (List.sublist_append_right _ _)
 have hlo:∀ b,(Value.slice sp n cap).ownBlock=some b→w0.heap.size≤b:=fun b hb=>M.lo (List.mem_append_left _ (List.mem_map.2 ⟨b,(ob_own sp n cap b).1 hb,rfl⟩))
 have hap:∀ b,(Value.slice sp n cap).ownBlock=some b→∀ p∈l,p.1≠b:=fun b hb p hp e=>by
  have hm:b∈ob sp:=(ob_own sp n cap b).1 hb
  have:=(List.pairwise_append.1 M.apart).2.2 (b,[]) (List.mem_map.2 ⟨b,hm,rfl⟩) p hp
  exact this e.symm
 have Ml2:=Ml.grownN hg (fun b hb=>⟨hlo b hb,hap b hb⟩)
 cases sq with
 | none=>exact Ml2
 | some a =>
   have hl:=World.ownsRow.lt V2 a.block rfl; have hm:=M.below.size; refine Ml2.addB ?_ hl.2 fun p hp e=>?_
   · rcases h2 a.block rfl with h | h
     · exact hlo _ h
     · omega
   · rcases h2 a.block rfl with h | h
     · exact hap _ h p hp e
     · have:=(Ml.rows p hp).2.2
       omega
theorem perm_sent {α:Type} (S d X:List α) (B:α):(S++(B::(d++X))).Perm (d++(B::(S++X))):=by
 have h1:(S++(B::(d++X))).Perm (B::(S++(d++X))):=List.perm_middle
 have h2:=(sw21 S d X).cons B
 exact (h1.trans h2).trans List.perm_middle.symm
theorem perm_lose {α:Type} (S s2 d X:List α) (B:α):(S++(B::(s2++(d++X)))).Perm (d++(B::(s2++(S++X)))):=by
 have h1:(S++(B::(s2++(d++X)))).Perm (B::(S++(s2++(d++X)))):=List.perm_middle
 have h2:=(sw21 S s2 (d++X)).cons B; have h3:=((sw21 S d X).append_left s2).cons B; have h4:=(sw21 s2 d (S++X)).cons B
 exact (((h1.trans h2).trans h3).trans h4).trans List.perm_middle.symm
theorem Back.own {w:World} {s:Sch} {R:Nat} {p:Int} {m:Option Nat} {E:Pes} {T X:List (Nat × List Value)} {id:Int} {B:Nat} {d:Dfl} (h:Back w s R p m E T id B d X):∀ b∈B::ob d.sr,b∈(pow R s p m E).map Prod.fst∨w.heap.size≤b:=fun b hb=>by
 rcases h with ⟨A,F,rfl,hid,hA,rfl⟩ | ⟨hs,rfl,hB,rfl⟩
 · have hm:(B,d)∈A++(B,d)::F:=by simp
   rcases xc1 hb with rfl | hb
   · exact .inl (mem_bl (q:=(b,ppc d)) (mT _ (List.mem_append_right _ (gp_mem hm mS))))
   · exact .inl (mem_bl (q:=(b,[])) (mT _ (List.mem_append_right _ (gp_mem hm (mT _ (List.mem_map.2 ⟨b,hb,rfl⟩))))))
 · rcases xc1 hb with rfl | hb
   · exact .inr hB
   · cases hb
theorem vclw21_any (sp:Option Addr) (cap:Nat) (L:List (Int × Int)) (hln:L.length<2000000) (w:World) (N:RgW w L (.slice sp L.length cap)) :
 Calls Try.prog 35 #[.slice sp L.length cap] w fun e w'=>∃ sq cq,e=.returned (.slice sq L.length cq)∧w'.ownsRow w.heap.size 38 2 (.slice sq L.length cq) L.length (wrc L)∧Below w.heap.size w w':=by
 have M:=Mm.init w
 go_enter Try.func35,Try.ntmps35
 go_upto_region 0 with fail; refine wp_region_list ?_; refine xpL (.slice none 0 0) ?_; refine xT ?_
 cases hs:sp with
 | none =>
   subst hs
   obtain rfl:L=[]:=by
    cases L with
    | nil=>rfl
    | cons a b=>obtain ⟨_,h_,_⟩:=RgW.at N (i:=0) rfl; cases h_
   go_upto_region 1 with fail; refine wp_region_list ?_; refine xpL (.slice none 0 cap) ?_; refine xaL (.bool true) (eqlN21 28 38 _ _ _ none _ _ true rfl rfl rfl Try.underlying28 rfl _) ?_; refine xT ?_; go_upto_region 2 with fail; refine wp_region_list ?_; refine xpL (.slice none 0 0) ?_; refine xT ?_; have hbel:=M.below; have hO:=World.ownsRow_nil w w.heap.size 38 2; clear M; go_wp2; go_ret
   exact ⟨_,_,rfl,hO,hbel⟩
 | some ad =>
   subst hs; go_upto_region 1 with fail; refine wp_region_list ?_; refine xpL (.slice (some ad) L.length cap) ?_; refine xaL (.bool false) (eqlN21 28 38 _ _ _ (some ad) _ _ false rfl rfl rfl Try.underlying28 rfl _) ?_; refine xT ?_; go_upto_region 3 with fail; refine wp_region_list ?_
   obtain ⟨bz,hbz,VR⟩:∃ bz,bz=w.heap.size∧(w.alloc (.cells #[] 38)).ownsRow w.heap.size 38 2 (.slice (some ⟨bz,0,none⟩) 0 0) 0 []:=⟨_,rfl,World.ownsRow_lit (e:=38) (size:=2) w #[] 0 M.below.size (by unfold maxLen; omega) rfl⟩
   refine actL (w':=w.alloc (.cells #[] 38)) (.slice (some ⟨w.heap.size,0,none⟩) 0 0) rfl (by kernel_rfl) ?_; simp only [aP,lI,l0,lS]; have hlb:=(Below.refl w.heap.size w).alloc (xnR _) (.cells #[] 38)
   have hgz:w.heap.size≤bz:=by have:=M.below.size; omega
   replace M:=M.call hlb; clear hlb
   rw [← hbz]
   generalize w.alloc (.cells #[] 38)=w1 at M VR ⊢; clear hbz; refine xpL (.slice (some ad) L.length cap) ?_
   have adr:∀ j u,(wrc L)[j]?=some u→w1.cell? (ad.add j)=some u:=fun j u hu=>by obtain ⟨_,_,e_,_,_,h_⟩:=N.below M.below; injection e_ with e1_; subst e1_; obtain ⟨_,e2_,h2_⟩:=h_ j u hu; injection e2_ with e2_; subst e2_; exact h2_
   obtain ⟨v2,w9,hr,V2,hgr,hg2⟩:=run_append_OwnV (P:=Try.prog) (ty:=28) Try.underlying28 manyW rfl (by decide) VR ad L.length cap (wrc L) (wrc_len L) adr (wrc_one L) (by unfold maxLen; omega) (by omega) M.below.size
   obtain ⟨sv,cv,rfl,_,_⟩:=row_form16 V2
   have hbel:=M.below.grown hgr M.below.size (fun b_ hb_=>by injection hb_ with hb_; simp only at hb_; omega); refine xaL _ (appendOp _ _ 28 _ _ _ rfl rfl rfl hr) ?_; clear hr hgr hg2 M VR adr
   rw [Nat.zero_add] at V2 ⊢
   rw [List.nil_append] at V2
   refine xpL (.slice sv L.length cv) ?_; refine xT ?_; have HS:=show Hid _ from (And.intro V2 hbel); clear V2 hbel; go_wp2; go_ret
   exact ⟨sv,cv,rfl,HS.out⟩
theorem vsnt21_any (w0 w:World) (R:Nat) (p:Int) (m:Option Nat) (E:Pes) (C l:List (Nat × List Value)) (s:Sch) (hI:PIn w s p m E C) (hw:SchW s) (hsz_:ssz s<1000000000) (M:Mm w0 (pow R s p m E++(C++l)) w) (id:Int) (hid:i64 id) (c now:Int) (k:List (Int × Int)) (sk:Option Addr) (ck:Nat) (hk:k.length<2000000) (N:RgW w k (.slice sk k.length ck)) (hks:∀ b∈(pow R s p m E).map Prod.fst,k≠[]→b∉ob sk) :
 Calls Try.prog 17 #[.pointer (some ⟨R,0,none⟩),.int .i64 id,.int .i64 c,.int .i64 now,.slice sk k.length ck] w fun e w'=>∃ D E',e=.returned (.tuple #[])∧PIn w' (ssn s id c now k) p m E' (D++C)∧Mm w0 (pow R (ssn s id c now k) p m E'++(D++(C++l))) w'∧Off ((pow R s p m E).map Prod.fst) w w':=by
 replace M:Mm w0 ((R,[.int .i64 p,.int .u64 (s.last+1),.map m])::((mbk m++gp E)++(C++l))) w:=M
 have N0:=show Hid _ from N
 go_enter Try.func17,Try.ntmps17
 go_upto_region 0 with fail; refine wp_region_list ?_; refine xpL (.pointer (some ⟨R,0,none⟩)) ?_; refine xpL (.int .i64 id) ?_; have key:=vat21_any w0 w R p m E C l s hI M id hid; refine xcL key ?_; clear key; rintro e w2 ⟨B,d,X,rfl,M',P,hdf,hck,lb,hbk⟩; clear M; replace N:=N.below lb
 have M:Mm w0 ((B,[.int .i64 ((d.win:Nat):Int),.int .i64 (pnx d.top),.slice d.sr d.Z.length d.cr])::(obs d.sr++X)) w2:=M'
 clear M'; refine xeL ?_; refine xpL (.pointer (some ⟨B,0,none⟩)) ?_; refine xT ?_; have hfw:=sgf_w hw id; have hlen:=sgf_len (s:=s) id
 rw [← hdf] at hfw hlen
 have hln1:d.Z.length≤ssz s:=by have h_:d.f.rs.length=d.Z.length:=List.length_map ..; omega
 have hln2:(sall (d.Z.map Prod.fst)).length≤ssz s:=by have h_:(sall d.f.rs).length=(sall (d.Z.map Prod.fst)).length:=rfl; omega
 have hap:=fun x (hx:x∈B::ob d.sr)=>Mm.apart2 (a:=(B,ppc d)::obs d.sr) (b:=X) M x (by rw [List.map_cons,obs_fst]; exact hx)
 have hBs:B∉ob d.sr:=fun hm=>by
  have:=(List.pairwise_cons.1 M.apart).1 (B,[]) (List.mem_append_left _ (List.mem_map.2 ⟨B,hm,rfl⟩))
  exact this rfl
 have hCX:∀ q∈C,q∈X:=fun q hq=>hbk.mem (List.mem_append_left _ hq)
 have hBc:B∉(gks d.Z).map Prod.fst:=fun hm=>by
  obtain ⟨q,hq,e⟩:=List.mem_map.1 hm
  exact hap B mS (e ▸ mem_bl (hCX q (hck q hq)))
 have hSc:∀ b∈ob d.sr,b∉(gks d.Z).map Prod.fst:=fun b hb hm=>by
  obtain ⟨q,hq,e⟩:=List.mem_map.1 hm
  exact hap b (mT _ hb) (e ▸ mem_bl (hCX q (hck q hq)))
 have M1:=show Hid _ from (show Mm w0 ((B,ppc d)::(obs d.sr++X)) w2 from M); have hown:=hbk.own
 have hBk:k≠[]→B∉ob sk:=fun hne=>by
  rcases hown B mS with h | h
  · exact hks B h hne
  · exact RgW.away N0.out h hne
 have hSk:∀ b∈ob d.sr,k≠[]→b∉ob sk:=fun b hb hne=>by
  rcases hown b (mT _ hb) with h | h
  · exact hks b h hne
  · exact RgW.away N0.out h hne
 have OF:=Off.refl (B::ob d.sr) w2
 have htp:pnx d.top≤281474976710656∧0≤pnx d.top:=by
  cases h:d.top with
  | none=>exact ⟨by decide,by decide⟩
  | some t=>have:=hfw.t1 t h; show (t:Int)+1≤_∧0≤(t:Int)+1; omega
 by_cases h1:c<pnx d.top
 · have hcc:c<pnx d.top∨c>281474976710655:=.inl h1
   go_upto_region 1 with fail; refine wp_region_list ?_; refine xpL (.int .i64 c) ?_; refine xpL (.pointer (some ⟨B,0,none⟩)) ?_; refine xpL (.pointer (some ⟨B,0,none⟩)) ?_; refine xpL (.pointer (some ⟨B,1,none⟩)) ?_; refine xaL (.int .i64 (pnx d.top)) (load1 3 _ ⟨B,1,none⟩ _ rfl rfl (fun _=>by kernel_rfl) (M.get mS 1 _ rfl)) ?_
   refine xaL (.bool true) (lssI .i64 _ _ _ _ _ _ rfl rfl rfl true (decide_eq_true (by omega)) _) ?_; refine xpL (.bool true) ?_
   with_reducible refine skipL ?_ ?_
   · rfl
   simp only [aP,lI,l0,lS]
   with_reducible refine skipL ?_ ?_
   · rfl
   simp only [aP,lI,l0,lS]; refine xpL (.bool true) ?_; refine xT ?_
   have hno:=show Hid _ from (show ssn s id c now k=spx s id d.f by
    rw [hdf,spx_self]
    unfold ssn
    split
    · next f hf =>
      have e1:f=d.f:=by rw [hdf]; unfold sgf; rw [hf]; rfl
      have e2:smay f c=false:=by
       rw [e1,Bool.eq_false_iff]
       intro hm
       unfold smay at hm
       rw [xbA,decide_eq_true_eq] at hm
       obtain ⟨g1,g2⟩:=hm
       change (match d.top with | some t=>decide ((t:Int)<c) | none=>true)=true at g2
       cases ht:d.top with
       | none=>rw [ht] at hcc; simp only [pnx] at hcc; omega
       | some t=>rw [ht] at hcc g2; simp only [pnx,decide_eq_true_eq] at hcc g2; omega
      rw [e2,if_neg (by decide)]
    · rfl)
   obtain ⟨E',hc1,hc2,hc3⟩:=Back.close hI hbk M1.out lb OF rfl P (D:=[]) M (C':=C) hck (fun _ h=>h)
   have HS:=show Hid _ from (And.intro hc1 (And.intro hc2 hc3)); clear M M1 OF P N N0 hc1 hc2 hc3 hbk hI; go_wp2
   first | exact ⟨rfl,.tuple #[],by kernel_rfl,rfl,[],E',by rw [hno.out]; exact HS.out.1,by rw [hno.out,pow_spx]; exact HS.out.2.1,HS.out.2.2⟩ | exact ⟨rfl,.tuple #[],by kernel_rfl,[],E',rfl,by rw [hno.out]; exact HS.out.1,by rw [hno.out,pow_spx]; exact HS.out.2.1,HS.out.2.2⟩
 · by_cases h2:c>281474976710655
   · have hcc:c<pnx d.top∨c>281474976710655:=.inr h2
     go_upto_region 1 with fail; refine wp_region_list ?_; refine xpL (.int .i64 c) ?_; refine xpL (.pointer (some ⟨B,0,none⟩)) ?_; refine xpL (.pointer (some ⟨B,0,none⟩)) ?_; refine xpL (.pointer (some ⟨B,1,none⟩)) ?_; refine xaL (.int .i64 (pnx d.top)) (load1 3 _ ⟨B,1,none⟩ _ rfl rfl (fun _=>by kernel_rfl) (M.get mS 1 _ rfl)) ?_
     refine xaL (.bool false) (lssI .i64 _ _ _ _ _ _ rfl rfl rfl false (decide_eq_false (by omega)) _) ?_; refine xpL (.bool false) ?_; refine xpL (.int .i64 c) ?_; refine xaL (.bool true) (gtrI .i64 _ _ _ _ _ _ rfl rfl rfl true (decide_eq_true (by omega)) _) ?_; refine xpL (.bool true) ?_; refine xT ?_
     have hno:=show Hid _ from (show ssn s id c now k=spx s id d.f by
      rw [hdf,spx_self]
      unfold ssn
      split
      · next f hf =>
        have e1:f=d.f:=by rw [hdf]; unfold sgf; rw [hf]; rfl
        have e2:smay f c=false:=by
         rw [e1,Bool.eq_false_iff]
         intro hm
         unfold smay at hm
         rw [xbA,decide_eq_true_eq] at hm
         obtain ⟨g1,g2⟩:=hm
         change (match d.top with | some t=>decide ((t:Int)<c) | none=>true)=true at g2
         cases ht:d.top with
         | none=>rw [ht] at hcc; simp only [pnx] at hcc; omega
         | some t=>rw [ht] at hcc g2; simp only [pnx,decide_eq_true_eq] at hcc g2; omega
        rw [e2,if_neg (by decide)]
      · rfl)
     obtain ⟨E',hc1,hc2,hc3⟩:=Back.close hI hbk M1.out lb OF rfl P (D:=[]) M (C':=C) hck (fun _ h=>h)
     have HS:=show Hid _ from (And.intro hc1 (And.intro hc2 hc3)); clear M M1 OF P N N0 hc1 hc2 hc3 hbk hI; go_wp2
     first | exact ⟨rfl,.tuple #[],by kernel_rfl,rfl,[],E',by rw [hno.out]; exact HS.out.1,by rw [hno.out,pow_spx]; exact HS.out.2.1,HS.out.2.2⟩ | exact ⟨rfl,.tuple #[],by kernel_rfl,[],E',rfl,by rw [hno.out]; exact HS.out.1,by rw [hno.out,pow_spx]; exact HS.out.2.1,HS.out.2.2⟩
   · go_upto_region 1 with fail
     refine wp_region_list ?_; refine xpL (.int .i64 c) ?_; refine xpL (.pointer (some ⟨B,0,none⟩)) ?_; refine xpL (.pointer (some ⟨B,0,none⟩)) ?_; refine xpL (.pointer (some ⟨B,1,none⟩)) ?_; refine xaL (.int .i64 (pnx d.top)) (load1 3 _ ⟨B,1,none⟩ _ rfl rfl (fun _=>by kernel_rfl) (M.get mS 1 _ rfl)) ?_
     refine xaL (.bool false) (lssI .i64 _ _ _ _ _ _ rfl rfl rfl false (decide_eq_false (by omega)) _) ?_; refine xpL (.bool false) ?_; refine xpL (.int .i64 c) ?_; refine xaL (.bool false) (gtrI .i64 _ _ _ _ _ _ rfl rfl rfl false (decide_eq_false (by omega)) _) ?_; refine xpL (.bool false) ?_; refine xT ?_; go_upto_region 2 with fail; refine wp_region_list ?_
     refine xpL (.pointer (some ⟨B,0,none⟩)) ?_; refine xpL (.int .i64 c) ?_; refine xaL (.int .i64 (c+1)) (addI .i64 _ _ _ _ _ _ _ rfl rfl rfl (by rw [xw6]; omega) _) ?_; refine xpL (.pointer (some ⟨B,0,none⟩)) ?_; refine xpL (.pointer (some ⟨B,1,none⟩)) ?_
     refine skipOpL rfl (storeAny (.int .i64 (c+1)) B 1 3 _ _ rfl rfl rfl rfl rfl (M.isSome mS 1 (by simp)) (M.free mS 1 (by simp)) (by kernel_rfl)) ?_; simp only [Act.put]; replace M:=M.set 1 (by simp) (.int .i64 (c+1)); replace N:=N.offB ((Off.refl [B] _).set (b:=B) mS 1 (.int .i64 (c+1))) (fun b_ hb_ hne_ hm_=>by obtain rfl:=xm1 hb_; exact hBk hne_ hm_)
     replace P:=P.off ((Off.refl [B] _).set (b:=B) mS 1 (.int .i64 (c+1))) (fun b_ hb_=>by obtain rfl:=xm1 hb_; exact hBs) (fun b_ hb_=>by obtain rfl:=xm1 hb_; exact hBc); replace OF:=OF.and1 ((Off.refl [B] _).set (b:=B) mS 1 (.int .i64 (c+1))) (.inl mS); generalize w2.setCell ⟨B,1,none⟩ (.int .i64 (c+1))=w3 at M N P OF ⊢
     replace M:Mm w0 ((B,[.int .i64 ((d.win:Nat):Int),.int .i64 (c+1),.slice d.sr d.Z.length d.cr])::(obs d.sr++X)) w3:=M
     refine xT ?_; go_upto_region 3 with fail; have hdr:=(Below.refl w3.heap.size w3).drew; replace M:=M.drew; replace N:=N.below hdr; replace P:=P.below hdr; replace OF:=OF.below hdr; clear hdr
     refine wp_region_C (S:=fun w'=>Mm w0 [(B,[.int .i64 ((d.win:Nat):Int),.int .i64 (c+1),.slice d.sr d.Z.length d.cr])] w') 15 (by kernel_rfl) (M.sub _ (List.cons_sublist_cons.2 (List.nil_sublist _))) ?_; intro _; generalize w3.drew=w4 at M N P OF ⊢
     refine readC (i:=0) (some 29) rfl (.pointer (some ⟨B,0,none⟩)) rfl rfl (by kernel_rfl) rfl (fun _ M=>(by kernel_rfl)) (by kernel_rfl) (by kernel_rfl) (by kernel_rfl) (by kernel_rfl) (fun _ _ _ h=>h) (M.sub _ (List.cons_sublist_cons.2 (List.nil_sublist _))) ?_; simp only [aP,lI,l0,lS]
     refine readC (i:=1) (some 30) rfl (.pointer (some ⟨B,0,none⟩)) rfl rfl (by kernel_rfl) rfl (fun _ M=>(by kernel_rfl)) (by kernel_rfl) (by kernel_rfl) (by kernel_rfl) (by kernel_rfl) (fun _ _ _ h=>h) (M.sub _ (List.cons_sublist_cons.2 (List.nil_sublist _))) ?_; simp only [aP,lI,l0,lS]
     refine readC (i:=2) (some 31) rfl (.pointer (some ⟨B,0,none⟩)) rfl rfl (by kernel_rfl) rfl (fun _ M=>(by kernel_rfl)) (by kernel_rfl) (by kernel_rfl) (by kernel_rfl) (by kernel_rfl) (fun _ _ _ h=>h) (M.sub _ (List.cons_sublist_cons.2 (List.nil_sublist _))) ?_; simp only [aP,lI,l0,lS]
     refine readC (i:=3) (some 32) rfl (.pointer (some ⟨B,2,none⟩)) rfl rfl (by kernel_rfl) rfl (fun _ M=>(by kernel_rfl)) (by kernel_rfl) (by kernel_rfl) (by kernel_rfl) (by kernel_rfl) (fun _ _ _ h=>h) (M.sub _ (List.cons_sublist_cons.2 (List.nil_sublist _))) ?_; simp only [aP,lI,l0,lS]
     refine readC (i:=4) (some 33) rfl (.slice d.sr d.Z.length d.cr) rfl rfl (by kernel_rfl) rfl (fun _ M=>load1 61 _ ⟨B,2,none⟩ _ rfl rfl (fun _=>by kernel_rfl) (M.get mS 2 _ rfl)) (by kernel_rfl) (by kernel_rfl) (by kernel_rfl) (by kernel_rfl) (fun _ _ _ h=>h) (M.sub _ (List.cons_sublist_cons.2 (List.nil_sublist _))) ?_; simp only [aP,lI,l0,lS]
     refine readC (i:=5) (some 34) rfl (.int .i64 c) rfl rfl (by kernel_rfl) rfl (fun _ M=>(by kernel_rfl)) (by kernel_rfl) (by kernel_rfl) (by kernel_rfl) (by kernel_rfl) (fun _ _ _ h=>h) (M.sub _ (List.cons_sublist_cons.2 (List.nil_sublist _))) ?_; simp only [aP,lI,l0,lS]
     refine readC (i:=6) (some 35) rfl (.int .i64 now) rfl rfl (by kernel_rfl) rfl (fun _ M=>(by kernel_rfl)) (by kernel_rfl) (by kernel_rfl) (by kernel_rfl) (by kernel_rfl) (fun _ _ _ h=>h) (M.sub _ (List.cons_sublist_cons.2 (List.nil_sublist _))) ?_; simp only [aP,lI,l0,lS]
     refine readC (i:=8) (some 37) rfl (.slice sk k.length ck) rfl rfl (by kernel_rfl) rfl (fun _ M=>(by kernel_rfl)) (by kernel_rfl) (by kernel_rfl) (by kernel_rfl) (by kernel_rfl) (fun _ _ _ h=>h) (M.sub _ (List.cons_sublist_cons.2 (List.nil_sublist _))) ?_; simp only [aP,lI,l0,lS]; have key:=vclk21_any now w4
     refine callMC (i:=7) (some 36) rfl (by kernel_rfl) rfl rfl (fun _=>by kernel_rfl) key ?_; clear key; rintro e w6 ⟨rfl,l_⟩; replace M:=M.call l_; replace N:=N.below l_; replace P:=P.below l_; replace OF:=OF.below l_
     clear l_
     refine ⟨_,rfl,(M.sub _ (List.cons_sublist_cons.2 (List.nil_sublist _))),?_⟩
     simp only [aP,lI,l0,lS]; have key:=vclw21_any sk ck k hk w6 N; refine callMC (i:=9) (some 38) rfl (by kernel_rfl) rfl rfl (fun _=>by kernel_rfl) key ?_; clear key; rintro e w8 ⟨sq,cq,rfl,V_q,l_⟩; have hqlo:=fun b_ hb_=>(World.ownsRow.lt V_q b_ hb_); have hq0:=OF.size; have hM0:=M.below.size
     have hlts:=fun x (hx:x∈((B,ppc d)::(obs d.sr++X)).map Prod.fst)=>M.lts21 (a:=[]) hx; have N_q:=RgW.ofW (NewW.ofOwn21 V_q); have MQ:=M.newRow21 l_ V_q; clear V_q; replace M:=M.call l_; replace N:=N.below l_; replace P:=P.below l_; replace OF:=OF.below l_; clear l_ N
     refine ⟨_,rfl,(M.sub _ (List.cons_sublist_cons.2 (List.nil_sublist _))),?_⟩
     simp only [aP,lI,l0,lS]
     have hcn:((c.toNat:Nat):Int)=c:=Int.toNat_of_nonneg (by omega)
     refine readC (i:=10) (some 39) rfl (.agg #[.int .i64 c,.int .i64 ((smom now:Nat):Int),.slice sq k.length cq]) rfl rfl (by kernel_rfl) rfl (fun _ M=>(by kernel_rfl)) (by kernel_rfl) (by kernel_rfl) (by kernel_rfl) (by kernel_rfl) (fun _ _ _ h=>h) (M.sub _ (List.cons_sublist_cons.2 (List.nil_sublist _))) ?_; simp only [aP,lI,l0,lS]
     have hlb:=(Below.refl w8.heap.size w8).alloc (xnR _) (.cells #[.int .i64 c,.int .i64 ((smom now:Nat):Int),.slice sq k.length cq] 72); have T_b:=World.ownsRow.cells (World.ownsRow_lit (base:=w8.heap.size) (e:=72) (size:=3) w8 #[.int .i64 c,.int .i64 ((smom now:Nat):Int),.slice sq k.length cq] 1 (xnR _) (by unfold maxLen; omega) rfl) (g:=w8.heap.size) rfl
     have M_:=M.call hlb; replace MQ:=MQ.call hlb; refine onlyC (i:=11) (w':=w8.alloc (.cells #[.int .i64 c,.int .i64 ((smom now:Nat):Int),.slice sq k.length cq] 72)) (some 40) rfl (.slice (some ⟨w8.heap.size,0,none⟩) 1 1) (by kernel_rfl) rfl rfl (by kernel_rfl) (M_.sub _ (List.cons_sublist_cons.2 (List.nil_sublist _))) ?_; simp only [aP,lI,l0,lS]; replace P:=P.below hlb
     replace OF:=OF.below hlb; replace N_q:=N_q.below hlb; clear M hlb; have M:=M_; clear M_; generalize w8.alloc (.cells #[.int .i64 c,.int .i64 ((smom now:Nat):Int),.slice sq k.length cq] 72)=w9 at M MQ T_b P OF N_q ⊢; generalize w8.heap.size=bz at T_b ⊢
     have T_c:∀ j u,(rc1 ((⟨c.toNat,smom now,k⟩:Rcd),sq,cq))[j]?=some u→w9.cell? ((⟨bz,0,none⟩:Addr).add j)=some u:=fun j u hu=>T_b j u (by
      have e_:rc1 ((⟨c.toNat,smom now,k⟩:Rcd),sq,cq)=[.int .i64 c,.int .i64 ((smom now:Nat):Int),.slice sq k.length cq]:=by unfold rc1; rw [show ((c.toNat:Nat):Int)=c from Int.toNat_of_nonneg (by omega)]
      rw [e_] at hu
      exact hu)
     obtain ⟨v2,wz9,hr,V2,hgr,hg2⟩:=run_append_OwnV (P:=Try.prog) (ty:=61) Try.underlying61 manyP rfl (by decide) P.V ⟨bz,0,none⟩ 1 1 (rc1 ((⟨c.toNat,smom now,k⟩:Rcd),sq,cq)) rfl T_c (fun u hu=>rcs_one [((⟨c.toNat,smom now,k⟩:Rcd),sq,cq)] u (by rw [rcs_one1]; exact hu)) (by unfold maxLen; omega) (by omega) (Nat.zero_le _)
     have o1:Off (ob d.sr) w9 wz9:=Off.grown (Off.refl (ob d.sr) _) hgr (fun b_ hb_=>.inl ((ob_own _ _ _ b_).1 hb_))
     obtain ⟨sv,cv,rfl,_,_⟩:=row_form16 V2
     rw [← rcs_one1,← rcs_app] at V2
     have hsv:∀ b∈ob sv,b∈ob d.sr∨b=w9.heap.size:=fun b hb=>by
      rcases hg2 b ((ob_own sv _ cv b).2 hb) with h | h
      · exact .inl ((ob_own _ _ _ b).1 h)
      · exact .inr h
     have hM1:=M.below.size
     have hB1:B<w9.heap.size:=M.lt mS
     have hBv:B∉ob sv:=fun h=>by
      rcases hsv B h with h | h
      · exact hBs h
      · omega
     have hBq:B∉ob sq:=fun h=>by
      have h1:=hqlo B ((ob_own sq k.length cq B).2 h); have h2:=hlts B (by simp)
      omega
     have hsq:∀ b∈ob d.sr,b∉ob sq:=fun b hb h=>by
      have h1:=hqlo b ((ob_own sq k.length cq b).2 h); have h2:=hlts b (mem_bl (q:=(b,[])) (mT _ (List.mem_append_left _ (List.mem_map.2 ⟨b,hb,rfl⟩))))
      omega
     have P2:POK wz9 { d with Z:=d.Z++[((⟨c.toNat,smom now,k⟩:Rcd),sq,cq)],sr:=sv,cr:=cv }:=⟨by
      show wz9.ownsRow 0 72 3 (.slice sv (d.Z++[((⟨c.toNat,smom now,k⟩:Rcd),sq,cq)]).length cv) (d.Z++[((⟨c.toNat,smom now,k⟩:Rcd),sq,cq)]).length (rcs (d.Z++[((⟨c.toNat,smom now,k⟩:Rcd),sq,cq)]))
      rw [List.length_append]
      exact V2,fun q hq=>by
      rcases List.mem_append.1 hq with h | h
      · exact (P.K.off o1 hSc) q h
      · obtain rfl:=xm1 h
        exact N_q.offB o1 fun b hb _ hm=>hsq b hb hm⟩
     have hBc2:B∉(gks (d.Z++[((⟨c.toNat,smom now,k⟩:Rcd),sq,cq)])).map Prod.fst:=fun hm=>by
      rw [gks_app,List.map_append] at hm
      rcases List.mem_append.1 hm with h | h
      · exact hBc h
      · rw [gks_cons,show gks ([]:List (Rcd × Option Addr × Nat))=[] from rfl,List.append_nil,obs_fst] at h
        exact hBq h
     replace OF:=OF.trans (o1.mono fun b hb=>mT _ hb); have MP:=MQ.perm (perm_sent (obs sq) (obs d.sr) X (B,[.int .i64 ((d.win:Nat):Int),.int .i64 (c+1),.slice d.sr d.Z.length d.cr]))
     have M9:Mm w0 ((obs sv)++((B,[.int .i64 ((d.win:Nat):Int),.int .i64 (c+1),.slice d.sr d.Z.length d.cr])::(obs sq++X))) wz9:=Mm.rowApp21 MP hgr V2 hg2
     have MB:Mm w0 ((B,[.int .i64 ((d.win:Nat):Int),.int .i64 (c+1),.slice d.sr d.Z.length d.cr])::(obs sv++(obs sq++X))) wz9:=M9.perm List.perm_middle
     have M_:Mm w0 [(B,[.int .i64 ((d.win:Nat):Int),.int .i64 (c+1),.slice d.sr d.Z.length d.cr])] wz9:=MB.sub _ (List.cons_sublist_cons.2 (List.nil_sublist _))
     refine onlyC (i:=12) (w':=wz9) (some 41) rfl _ (by kernel_rfl) rfl rfl (appendOp _ _ 61 _ _ _ rfl rfl rfl hr) M_ ?_; simp only [aP,lI,l0,lS]; clear hr hgr hg2 M MP M9 MQ T_b T_c P N_q o1 V2 M_; have M:=MB; clear MB; refine xqC 13 42 rfl (.pointer (some ⟨B,0,none⟩)) (fun _=>(by kernel_rfl)) (M.sub _ (List.cons_sublist_cons.2 (List.nil_sublist _))) ?_
     refine readC (i:=14) (some 43) rfl (.pointer (some ⟨B,2,none⟩)) rfl rfl (by kernel_rfl) rfl (fun _ M=>(by kernel_rfl)) (by kernel_rfl) (by kernel_rfl) (by kernel_rfl) (by kernel_rfl) (fun _ _ _ h=>h) (M.sub _ (List.cons_sublist_cons.2 (List.nil_sublist _))) ?_; simp only [aP,lI,l0,lS]
     refine skipC (S2:=fun _=>True) none rfl (by kernel_rfl) rfl rfl (storeAny (.slice sv (d.Z.length+1) cv) B 2 61 _ _ rfl rfl rfl rfl rfl (M.isSome mS 2 (by simp)) (M.free mS 2 (by simp)) (by kernel_rfl)) (by kernel_rfl) ?_; simp only [Act.put]; replace M:=M.set 2 (by simp) (.slice sv (d.Z.length+1) cv)
     replace OF:=OF.and1 ((Off.refl [B] _).set (b:=B) mS 2 (.slice sv (d.Z.length+1) cv)) (.inl mS); replace P2:=P2.off ((Off.refl [B] _).set (b:=B) mS 2 (.slice sv (d.Z.length+1) cv)) (fun b_ hb_=>by obtain rfl:=xm1 hb_; exact hBv) (fun b_ hb_=>by obtain rfl:=xm1 hb_; exact hBc2); generalize wz9.setCell ⟨B,2,none⟩ (.slice sv (d.Z.length+1) cv)=w10 at M OF P2 ⊢
     replace M:Mm w0 ((B,[.int .i64 ((d.win:Nat):Int),.int .i64 (c+1),.slice sv (d.Z.length+1) cv])::(obs sv++(obs sq++X))) w10:=M
     refine wpAnyH_done (by kernel_rfl) ?_ _
     have hno:=show Hid _ from (show ssn s id c now k=spx s id ({ d with top:=some c.toNat,Z:=d.Z++[((⟨c.toNat,smom now,k⟩:Rcd),sq,cq)],sr:=sv,cr:=cv }:Dfl).f by
      unfold ssn spx
      split
      · next f hf =>
        have e1:f=d.f:=by rw [hdf]; unfold sgf; rw [hf]; rfl
        have e2:smay f c=true:=by
         rw [e1]
         unfold smay
         rw [xbA,decide_eq_true_eq]
         refine ⟨⟨by omega,by omega⟩,?_⟩
         change (match d.top with | some t=>decide ((t:Int)<c) | none=>true)=true
         cases ht:d.top with
         | none=>rfl
         | some t=>rw [ht] at h1; simp only [pnx,decide_eq_true_eq] at h1 ⊢; omega
        rw [e2,if_pos rfl,hf,e1]
        show ({ s with L:=sput s.L id ⟨d.win,some c.toNat,d.Z.map Prod.fst++[(⟨c.toNat,smom now,k⟩:Rcd)]⟩ }:Sch)={ s with L:=sput s.L id ⟨d.win,some c.toNat,(d.Z++[((⟨c.toNat,smom now,k⟩:Rcd),sq,cq)]).map Prod.fst⟩ }
        rw [List.map_append]
        rfl
      · next hf=>rw [hf])
     have hPn:POK w10 { d with top:=some c.toNat,Z:=d.Z++[((⟨c.toNat,smom now,k⟩:Rcd),sq,cq)],sr:=sv,cr:=cv }:=⟨P2.V,P2.K⟩
     have M9:Mm w0 ((B,ppc { d with top:=some c.toNat,Z:=d.Z++[((⟨c.toNat,smom now,k⟩:Rcd),sq,cq)],sr:=sv,cr:=cv })::(obs sv++(obs sq++X))) w10:=by
      have e1:ppc { d with top:=some c.toNat,Z:=d.Z++[((⟨c.toNat,smom now,k⟩:Rcd),sq,cq)],sr:=sv,cr:=cv }=[.int .i64 ((d.win:Nat):Int),.int .i64 (c+1),.slice sv (d.Z.length+1) cv]:=by
       show [Value.int .i64 ((d.win:Nat):Int),.int .i64 (pnx (some c.toNat)),.slice sv (d.Z++[((⟨c.toNat,smom now,k⟩:Rcd),sq,cq)]).length cv]=_
       rw [show pnx (some c.toNat)=c+1 by show ((c.toNat:Nat):Int)+1=_; rw [Int.toNat_of_nonneg (by omega)],List.length_append]
       rfl
      rw [e1]
      exact M
     obtain ⟨E',hc1,hc2,hc3⟩:=Back.close hI hbk M1.out lb OF (d':={ d with top:=some c.toNat,Z:=d.Z++[((⟨c.toNat,smom now,k⟩:Rcd),sq,cq)],sr:=sv,cr:=cv }) rfl hPn (D:=obs sq) M9 (C':=obs sq++C) (fun q hq=>by
      have h1:q∈gks (d.Z++[((⟨c.toNat,smom now,k⟩:Rcd),sq,cq)]):=hq
      rw [gks_app] at h1
      rcases List.mem_append.1 h1 with h | h
      · exact List.mem_append_right _ (hck q h)
      · rw [gks_cons,show gks ([]:List (Rcd × Option Addr × Nat))=[] from rfl,List.append_nil] at h
        exact List.mem_append_left _ h) (fun q h=>List.mem_append_right _ h)
     exact ⟨rfl,.tuple #[],by kernel_rfl,obs sq,E',rfl,by rw [hno.out]; exact hc1,by rw [hno.out,pow_spx]; exact hc2,hc3⟩
theorem Mm.drop21 {w0 w:World} {a x b l:List (Nat × List Value)} (M:Mm w0 (a++(x++(b++l))) w):Mm w0 (a++(x++l)) w:=M.sub _ ((List.Sublist.refl _).append ((List.Sublist.refl _).append (List.sublist_append_right _ _)))
theorem Mm.behind21 {w0 w:World} {x T C l:List (Nat × List Value)} (M:Mm w0 (x++(T++(C++l))) w):Mm w0 (T++(C++(x++l))) w:=by
 have h1:=sw21 x (T++C) l; refine M.perm ?_
 simpa [List.append_assoc] using h1
theorem filt_fst (Z:List (Rcd × Option Addr × Nat)) (pr:Rcd→Bool):(Z.filter fun q=>pr q.1).map Prod.fst=(Z.map Prod.fst).filter pr:=by
 induction Z with
 | nil=>rfl
 | cons q Z ih =>
   rw [List.filter_cons,List.map_cons,List.filter_cons]
   cases pr q.1
   · exact ih
   · show _::_=_::_; rw [ih]
theorem flose_is (d:Dfl) (win:Nat) (pr:Rcd→Bool) (st:Option Addr) (ct:Nat) (Z:List (Rcd × Option Addr × Nat)) (n:Nat):(⟨n,lwn (Z.filter fun q=>pr q.1) win,d.top,Z.filter fun q=>!pr q.1,st,ct⟩:Dfl).f=flose d.f win ((Z.map Prod.fst).filter pr) ((Z.map Prod.fst).filter fun r=>!pr r):=by
 show Flg.mk _ _ _=Flg.mk _ _ _
 have e1:=filt_fst Z pr; have e2:=filt_fst Z (fun r=>!pr r)
 rw [e2]
 congr 1
 unfold lwn
 rw [← e1]
 by_cases h:(Z.filter fun q=>pr q.1)=[]
 · rw [if_pos h,h]; rfl
 · rw [if_neg h,if_neg (fun e=>h (List.map_eq_nil_iff.1 e))]
theorem vlat21_any (w0 w:World) (R:Nat) (p:Int) (m:Option Nat) (E:Pes) (C l:List (Nat × List Value)) (s:Sch) (hI:PIn w s p m E C) (hw:SchW s) (hsz_:ssz s<1000000000) (M:Mm w0 (pow R s p m E++(C++l)) w) (id:Int) (hid:i64 id) (now age:Int) :
 Calls Try.prog 21 #[.pointer (some ⟨R,0,none⟩),.int .i64 id,.int .i64 now,.int .i64 age] w fun e w'=>∃ sq cq E',e=.returned (.slice sq (slO s id now age).length cq)∧NewW w' w0.heap.size (slO s id now age) (.slice sq (slO s id now age).length cq)∧PIn w' (sla s id now age) p m E' C∧Mm w0 (pow R (sla s id now age) p m E'++(obs sq++(C++l))) w'∧Off ((pow R s p m E).map Prod.fst) w w':=by
 replace M:Mm w0 ((R,[.int .i64 p,.int .u64 (s.last+1),.map m])::((mbk m++gp E)++(C++l))) w:=M
 have lb_:=Below.refl w.heap.size w; have hlo1:=smom_le now; have hlo2:=smom_le age; have hRw:=M.lt mS
 go_enter Try.func21,Try.ntmps21
 go_upto_region 0 with fail; refine wp_region_list ?_; refine xpL (.slice none 0 0) ?_; refine xT ?_; go_upto_region 1 with fail; refine wp_region_list ?_; refine xpL (.int .i64 now) ?_; have key:=vclk21_any now w; refine xcL key ?_; clear key; rintro e w2 ⟨rfl,l_⟩; replace M:=M.call l_; replace lb_:=lb_.trans (l_.mono lb_.size)
 clear l_; refine xeL ?_; refine xpL (.int .i64 age) ?_; have key:=vclk21_any age w2; refine xcL key ?_; clear key; rintro e w4 ⟨rfl,l_⟩; replace M:=M.call l_; replace lb_:=lb_.trans (l_.mono lb_.size)
 clear l_; refine xeL ?_; refine readL (.int .i64 (((smom now:Nat):Int)-((smom age:Nat):Int))) rfl (subI .i64 _ _ _ _ _ _ _ rfl rfl rfl (by rw [xw6]; omega) _) ?_; simp only [aP,lI,l0,lS]; have hlz_:=lb_.size; refine actL (w':=w4.alloc (.cells #[.int .i64 0] 3)) (.pointer (some ⟨w4.heap.size,0,none⟩)) rfl (by kernel_rfl) ?_; simp only [aP,lI,l0,lS]
 have hlb:=(Below.refl w4.heap.size w4).alloc (xnR _) (.cells #[.int .i64 0] 3); replace lb_:=lb_.trans (hlb.mono lb_.size); clear hlb
 have hB_B5:w0.heap.size≤w4.heap.size:=M.below.size
 replace M:=M.box #[.int .i64 0] 3 w4.heap.size rfl; generalize w4.alloc (.cells #[.int .i64 0] 3)=w5 at M lb_ ⊢; generalize eB:w4.heap.size=B5 at M hB_B5  ⊢
 have hE_B5:w4.heap.size≤B5:=Nat.le_of_eq eB
 have hF_B5:B5≤w4.heap.size:=Nat.le_of_eq eB.symm
 clear eB
 replace M:Mm w0 ((B5,[.int .i64 0])::(R,[.int .i64 p,.int .u64 (s.last+1),.map m])::((mbk m++gp E)++(C++l))) w5:=M
 have hL_B5:w.heap.size≤B5:=by omega
 clear hlz_; refine skipOpL rfl (storeAny (.int .i64 (((smom now:Nat):Int)-((smom age:Nat):Int))) B5 0 3 _ _ rfl rfl rfl rfl rfl (M.isSome mS 0 (by simp)) (M.free mS 0 (by simp)) (by kernel_rfl)) ?_; simp only [Act.put]; replace M:=M.set 0 (by simp) (.int .i64 (((smom now:Nat):Int)-((smom age:Nat):Int)))
 replace lb_:Below w.heap.size w (w5.setCell ⟨B5,0,none⟩ (.int .i64 (((smom now:Nat):Int)-((smom age:Nat):Int)))):=below_setAll lb_ B5 (by omega) 0 [.int .i64 (((smom now:Nat):Int)-((smom age:Nat):Int))]
 generalize w5.setCell ⟨B5,0,none⟩ (.int .i64 (((smom now:Nat):Int)-((smom age:Nat):Int)))=w6 at M lb_ ⊢
 replace M:Mm w0 ((B5,[.int .i64 (((smom now:Nat):Int)-((smom age:Nat):Int))])::(R,[.int .i64 p,.int .u64 (s.last+1),.map m])::((mbk m++gp E)++(C++l))) w6:=M
 refine xT ?_; have hI2:=hI.below lb_
 have MA:Mm w0 (pow R s p m E++(C++([(B5,[.int .i64 (((smom now:Nat):Int)-((smom age:Nat):Int))])]++l))) w6:=Mm.behind21 (x:=[(B5,[.int .i64 (((smom now:Nat):Int)-((smom age:Nat):Int))])]) M
 clear M; go_upto_region 2 with fail; refine wp_region_list ?_; refine xpL (.pointer (some ⟨R,0,none⟩)) ?_; refine xpL (.int .i64 id) ?_; have key:=vat21_any w0 w6 R p m E C ([(B5,[.int .i64 (((smom now:Nat):Int)-((smom age:Nat):Int))])]++l) s hI2 MA id hid; refine xcL key ?_; clear key; rintro e w8 ⟨B,d,X,rfl,M',P,hdf,hck,lb,hbk⟩; clear MA
 have M:Mm w0 ((B,[.int .i64 ((d.win:Nat):Int),.int .i64 (pnx d.top),.slice d.sr d.Z.length d.cr])::(obs d.sr++X)) w8:=M'
 clear M'; refine xeL ?_; have hfw:=sgf_w hw id; have hlen:=sgf_len (s:=s) id
 rw [← hdf] at hfw hlen
 have hln1:d.Z.length≤ssz s:=by have h_:d.f.rs.length=d.Z.length:=List.length_map ..; omega
 have hln2:(sall (d.Z.map Prod.fst)).length≤ssz s:=by have h_:(sall d.f.rs).length=(sall (d.Z.map Prod.fst)).length:=rfl; omega
 have hap:=fun x (hx:x∈B::ob d.sr)=>Mm.apart2 (a:=(B,ppc d)::obs d.sr) (b:=X) M x (by rw [List.map_cons,obs_fst]; exact hx)
 have hBs:B∉ob d.sr:=fun hm=>by
  have:=(List.pairwise_cons.1 M.apart).1 (B,[]) (List.mem_append_left _ (List.mem_map.2 ⟨B,hm,rfl⟩))
  exact this rfl
 have hCX:∀ q∈C,q∈X:=fun q hq=>hbk.mem (List.mem_append_left _ hq)
 have hBc:B∉(gks d.Z).map Prod.fst:=fun hm=>by
  obtain ⟨q,hq,e⟩:=List.mem_map.1 hm
  exact hap B mS (e ▸ mem_bl (hCX q (hck q hq)))
 have hSc:∀ b∈ob d.sr,b∉(gks d.Z).map Prod.fst:=fun b hb hm=>by
  obtain ⟨q,hq,e⟩:=List.mem_map.1 hm
  exact hap b (mT _ hb) (e ▸ mem_bl (hCX q (hck q hq)))
 have OF:=Off.refl (B::ob d.sr) w8; have M1:=show Hid _ from (show Mm w0 ((B,ppc d)::(obs d.sr++X)) w8 from M)
 have hmX:(B5,[.int .i64 (((smom now:Nat):Int)-((smom age:Nat):Int))])∈X:=hbk.mem (List.mem_append_right _ (by simp))
 have c_l:w8.cell? ⟨B5,0,none⟩=some (.int .i64 (((smom now:Nat):Int)-((smom age:Nat):Int))):=(M.get (mT _ (List.mem_append_right _ hmX)) 0 _ rfl)
 refine xpL (.func (.func 45) #[] #[.pointer (some ⟨B5,0,none⟩)]) ?_
 have hF_:Clo21 w8 (.func (.func 45) #[] #[.pointer (some ⟨B5,0,none⟩)]) (slt now age) d.Z:=⟨_,_,rfl,.inr ⟨.inr rfl,_,rfl⟩,fun w' l_ q _=>vl1_any q B5 (((smom now:Nat):Int)-((smom age:Nat):Int)) w' (cell21 l_ c_l)⟩
 have key:=vlose21_any w0 w8 B d _ M P (by first | omega | exact hz2) (by first | omega | exact hs2) hfw.w2 hBc _ (slt now age) hF_; refine xcL key ?_; clear key; rintro e w9 ⟨sq,cq,s2,c2,rfl,V_q,V_l,M',o1⟩; have hsz1:=OF.size; replace OF:=OF.trans (o1.mono fun b hb=>by rw [xm1 hb]; exact mS)
 clear M hF_; refine xeL ?_; refine xpL (.slice sq ((sall ((d.Z.filter fun q=>(slt now age) q.1).map Prod.fst)).length) cq) ?_; refine xT ?_; have K_:=P.K.off (X:=[B]) o1 (fun b hb=>by obtain rfl:=xm1 hb; exact hBc)
 have hPn:POK w9 (⟨d.n,lwn (d.Z.filter fun q=>(slt now age) q.1) d.win,d.top,d.Z.filter fun q=>!(slt now age) q.1,s2,c2⟩:Dfl):=⟨ownsRow_mono21 V_l (Nat.zero_le _),K_.sub fun q hq=>(List.mem_filter.1 hq).1⟩
 have M9:Mm w0 ((B,ppc (⟨d.n,lwn (d.Z.filter fun q=>(slt now age) q.1) d.win,d.top,d.Z.filter fun q=>!(slt now age) q.1,s2,c2⟩:Dfl))::(obs s2++(obs sq++X))) w9:=by
  have h1:=M'.perm (perm_lose (obs sq) (obs s2) (obs d.sr) X _)
  exact h1.sub _ (List.sublist_append_right (obs d.sr) _)
 have hno:=show Hid _ from (show sla s id now age=spx s id (⟨d.n,lwn (d.Z.filter fun q=>(slt now age) q.1) d.win,d.top,d.Z.filter fun q=>!(slt now age) q.1,s2,c2⟩:Dfl).f by
  unfold sla spx
  split
  · next f hf =>
    have e1:f=d.f:=by rw [hdf]; unfold sgf; rw [hf]; rfl
    rw [flose_is,hf,e1]
    rfl
  · next hf=>rw [hf])
 have hso:=show Hid _ from (show slO s id now age=sall ((d.Z.filter fun q=>(slt now age) q.1).map Prod.fst) by
  have:slO s id now age=sall (slG (sgf s id) now age):=by unfold slO sgf; cases sfd s.L id <;> rfl
  rw [this,← hdf,filt_fst]
  rfl)
 have hN:=NewW.ofOwn21 (ownsRow_mono21 (b:=w0.heap.size) V_q (by have:=M1.out.below.size; omega))
 obtain ⟨E',hc1,hc2,hc3⟩:=Back.close hI2 hbk M1.out lb OF (d':=⟨d.n,lwn (d.Z.filter fun q=>(slt now age) q.1) d.win,d.top,d.Z.filter fun q=>!(slt now age) q.1,s2,c2⟩) rfl hPn (D:=obs sq) M9 (C':=C) (fun q hq=>hck q ((gks_sub List.filter_sublist).subset hq)) (fun _ h=>h)
 have hO3:=(Off.of_below lb_).trans hc3; have HS:=show Hid _ from (show PIn w9 (sla s id now age) p m E' C∧Mm w0 (pow R (sla s id now age) p m E'++(obs sq++(C++l))) w9 from ⟨by rw [hno.out]; exact hc1,by rw [hno.out,pow_spx]; exact hc2.sub _ ((List.Sublist.refl _).append ((List.Sublist.refl _).append ((List.Sublist.refl _).append (List.sublist_append_right _ _))))⟩)
 have HO:=show Hid _ from hO3; have HN:=show Hid _ from hN; clear M' M1 OF P V_q V_l K_ hPn M9 hc1 hc2 hc3 hO3 hbk hI hI2 hN c_l; go_wp2; go_ret
 rw [hso.out]
 exact ⟨sq,cq,E',rfl,HN.out,HS.out.1,HS.out.2,HO.out⟩
def gpr (top:Int) (k:List (Int × Int)) (r:Rcd):Bool:=stl r.c top k
theorem filt_two (Z:List (Rcd × Option Addr × Nat)) (pr:Rcd × Option Addr × Nat→Bool):(Z.filter pr).length+(Z.filter fun q=>!pr q).length=Z.length:=by
 induction Z with
 | nil=>rfl
 | cons q Z ih =>
   rw [List.filter_cons,List.filter_cons]
   cases pr q
   · simp only [Bool.false_eq_true,if_false,Bool.not_false,if_true,List.length_cons]; omega
   · simp only [if_true,Bool.not_true,Bool.false_eq_true,if_false,List.length_cons]; omega
theorem sgW_is (d:Dfl) (top:Int) (k:List (Int × Int)):((sgW d.f top k:Nat):Int)=min 32 (((d.win:Nat):Int)+(((d.Z.filter fun q=>gpr top k q.1).length:Nat):Int)):=by
 have h1:=filt_two d.Z (fun q=>gpr top k q.1)
 have h2:(sgL d.f top k).length=(d.Z.filter fun q=>!gpr top k q.1).length:=by
  unfold sgL
  show ((d.Z.map Prod.fst).filter fun r=>!gpr top k r).length=_
  rw [← filt_fst d.Z (fun r=>!gpr top k r),List.length_map]
 have h3:d.f.rs.length=d.Z.length:=List.length_map ..
 unfold sgW
 rw [h2,h3]
 show ((min 32 (d.win+(d.Z.length-_)):Nat):Int)=_
 omega
theorem vgot21_any (w0 w:World) (R:Nat) (p:Int) (m:Option Nat) (E:Pes) (C l:List (Nat × List Value)) (s:Sch) (hI:PIn w s p m E C) (hw:SchW s) (hsz_:ssz s<1000000000) (M:Mm w0 (pow R s p m E++(C++l)) w) (id:Int) (hid:i64 id) (top now:Int) (k:List (Int × Int)) (sk:Option Addr) (ck:Nat) (hk:k.length<140737488355328) (N:RgW w k (.slice sk k.length ck)) :
 Calls Try.prog 19 #[.pointer (some ⟨R,0,none⟩),.int .i64 id,.int .i64 top,.slice sk k.length ck,.int .i64 now] w fun e w'=>∃ sq cq E',e=.returned (.tuple #[.slice sq (sgO s id top k).length cq,.int .i64 (sgT s id top now)])∧NewW w' w0.heap.size (sgO s id top k) (.slice sq (sgO s id top k).length cq)∧PIn w' (sgt s id top k) p m E' C∧Mm w0 (pow R (sgt s id top k) p m E'++(obs sq++(C++l))) w'∧Off ((pow R s p m E).map Prod.fst) w w':=by
 replace M:Mm w0 ((R,[.int .i64 p,.int .u64 (s.last+1),.map m])::((mbk m++gp E)++(C++l))) w:=M
 have lb_:=Below.refl w.heap.size w; have hRw:=M.lt mS
 go_enter Try.func19,Try.ntmps19
 go_upto_region 0 with fail; refine wp_region_list ?_; have hlz_:=lb_.size; refine actL (w':=w.alloc (.cells #[.int .i64 top] 3)) (.pointer (some ⟨w.heap.size,0,none⟩)) rfl (by kernel_rfl) ?_; simp only [aP,lI,l0,lS]; have hlb:=(Below.refl w.heap.size w).alloc (xnR _) (.cells #[.int .i64 top] 3); replace lb_:=lb_.trans (hlb.mono lb_.size); replace N:=N.below hlb; clear hlb
 have hB_B1:w0.heap.size≤w.heap.size:=M.below.size
 replace M:=M.box #[.int .i64 top] 3 w.heap.size rfl; generalize w.alloc (.cells #[.int .i64 top] 3)=w1 at M lb_ N ⊢; generalize eB:w.heap.size=B1 at M hB_B1  ⊢
 have hE_B1:w.heap.size≤B1:=Nat.le_of_eq eB
 have hF_B1:B1≤w.heap.size:=Nat.le_of_eq eB.symm
 clear eB
 replace M:Mm w0 ((B1,[.int .i64 top])::(R,[.int .i64 p,.int .u64 (s.last+1),.map m])::((mbk m++gp E)++(C++l))) w1:=M
 have hL_B1:w.heap.size≤B1:=by omega
 clear hlz_; have hlz_:=lb_.size; refine actL (w':=w1.alloc (.cells #[.slice sk k.length ck] 28)) (.pointer (some ⟨w1.heap.size,0,none⟩)) rfl (by kernel_rfl) ?_; simp only [aP,lI,l0,lS]; have hlb:=(Below.refl w1.heap.size w1).alloc (xnR _) (.cells #[.slice sk k.length ck] 28); replace lb_:=lb_.trans (hlb.mono lb_.size); replace N:=N.below hlb; clear hlb
 have hB_B2:w0.heap.size≤w1.heap.size:=M.below.size
 replace M:=M.box #[.slice sk k.length ck] 28 w1.heap.size rfl; generalize w1.alloc (.cells #[.slice sk k.length ck] 28)=w2 at M lb_ N ⊢; generalize eB:w1.heap.size=B2 at M hB_B2  ⊢
 have hE_B2:w1.heap.size≤B2:=Nat.le_of_eq eB
 have hF_B2:B2≤w1.heap.size:=Nat.le_of_eq eB.symm
 clear eB
 replace M:Mm w0 ((B2,[.slice sk k.length ck])::(B1,[.int .i64 top])::(R,[.int .i64 p,.int .u64 (s.last+1),.map m])::((mbk m++gp E)++(C++l))) w2:=M
 have hL_B2:w.heap.size≤B2:=by omega
 clear hlz_; refine xpL (.slice none 0 0) ?_; refine xpL (.int .i64 0) ?_; refine xT ?_; have hI2:=hI.below lb_
 have MA:Mm w0 (pow R s p m E++(C++([(B2,[.slice sk k.length ck]),(B1,[.int .i64 top])]++l))) w2:=Mm.behind21 (x:=[(B2,[.slice sk k.length ck]),(B1,[.int .i64 top])]) M
 clear M; go_upto_region 1 with fail; refine wp_region_list ?_; refine xpL (.pointer (some ⟨R,0,none⟩)) ?_; refine xpL (.int .i64 id) ?_; have key:=vat21_any w0 w2 R p m E C ([(B2,[.slice sk k.length ck]),(B1,[.int .i64 top])]++l) s hI2 MA id hid; refine xcL key ?_; clear key; rintro e w4 ⟨B,d,X,rfl,M',P,hdf,hck,lb,hbk⟩; clear MA; replace N:=N.below lb
 have M:Mm w0 ((B,[.int .i64 ((d.win:Nat):Int),.int .i64 (pnx d.top),.slice d.sr d.Z.length d.cr])::(obs d.sr++X)) w4:=M'
 clear M'; refine xeL ?_; have hfw:=sgf_w hw id; have hlen:=sgf_len (s:=s) id
 rw [← hdf] at hfw hlen
 have hln1:d.Z.length≤ssz s:=by have h_:d.f.rs.length=d.Z.length:=List.length_map ..; omega
 have hln2:(sall (d.Z.map Prod.fst)).length≤ssz s:=by have h_:(sall d.f.rs).length=(sall (d.Z.map Prod.fst)).length:=rfl; omega
 have hap:=fun x (hx:x∈B::ob d.sr)=>Mm.apart2 (a:=(B,ppc d)::obs d.sr) (b:=X) M x (by rw [List.map_cons,obs_fst]; exact hx)
 have hBs:B∉ob d.sr:=fun hm=>by
  have:=(List.pairwise_cons.1 M.apart).1 (B,[]) (List.mem_append_left _ (List.mem_map.2 ⟨B,hm,rfl⟩))
  exact this rfl
 have hCX:∀ q∈C,q∈X:=fun q hq=>hbk.mem (List.mem_append_left _ hq)
 have hBc:B∉(gks d.Z).map Prod.fst:=fun hm=>by
  obtain ⟨q,hq,e⟩:=List.mem_map.1 hm
  exact hap B mS (e ▸ mem_bl (hCX q (hck q hq)))
 have hSc:∀ b∈ob d.sr,b∉(gks d.Z).map Prod.fst:=fun b hb hm=>by
  obtain ⟨q,hq,e⟩:=List.mem_map.1 hm
  exact hap b (mT _ hb) (e ▸ mem_bl (hCX q (hck q hq)))
 have OF:=Off.refl (B::ob d.sr) w4; have M1:=show Hid _ from (show Mm w0 ((B,ppc d)::(obs d.sr++X)) w4 from M)
 have hmT:(B1,[Value.int .i64 top])∈X:=hbk.mem (List.mem_append_right _ (by simp))
 have hmL:(B2,[Value.slice sk k.length ck])∈X:=hbk.mem (List.mem_append_right _ (by simp))
 have c_t:w4.cell? ⟨B1,0,none⟩=some (.int .i64 top):=(M.get (mT _ (List.mem_append_right _ hmT)) 0 _ rfl)
 have c_l:w4.cell? ⟨B2,0,none⟩=some (.slice sk k.length ck):=(M.get (mT _ (List.mem_append_right _ hmL)) 0 _ rfl)
 have hne_t:B1≠B:=fun e=>hap B mS (e ▸ mem_bl hmT)
 have hsw:=show Hid _ from sgW_is d top k
 have hBw:B<w4.heap.size:=M.lt mS
 refine xpL (.pointer (some ⟨B,0,none⟩)) ?_; refine xT ?_; go_upto_region 2 with fail; refine wp_region_list ?_; refine xpL (.pointer (some ⟨B,0,none⟩)) ?_; refine xpL (.func (.func 38) #[] #[.pointer (some ⟨B1,0,none⟩),.pointer (some ⟨B2,0,none⟩)]) ?_
 have hF_:Clo21 w4 (.func (.func 38) #[] #[.pointer (some ⟨B1,0,none⟩),.pointer (some ⟨B2,0,none⟩)]) (gpr top k) d.Z:=⟨_,_,rfl,.inl ⟨rfl,_,_,rfl⟩,fun w' l_ q _=>vg1_any q k sk ck hk B1 B2 top w' (cell21 l_ c_t) (cell21 l_ c_l) (N.below l_)⟩
 have hwB:=xnR w4.heap.size; have key:=vtake21_any w0 w4 B d _ M P.V (by omega) _ (gpr top k) hF_; refine xcL key ?_; clear key; rintro e w5 ⟨st,ct,sl,cl,rfl,V_t,V_l,M',o1⟩; replace OF:=OF.trans (o1.mono fun b hb=>by rw [xm1 hb]; exact mS); have K_:=P.K.off o1 (fun b hb=>by obtain rfl:=xm1 hb; exact hBc); replace c_t:=o1.cell c_t (fun hm_=>hne_t (xm1 hm_))
 clear o1 M P hF_ c_l N; refine xeL ?_
 have M:Mm w0 ((B,[.int .i64 ((d.win:Nat):Int),.int .i64 (pnx d.top),.slice sl ((d.Z.filter fun q=>!gpr top k q.1).length) cl])::(obs sl++(obs d.sr++X))) w5:=M'
 clear M'; have hTl:=List.length_filter_le (fun q:Rcd × Option Addr × Nat=>gpr top k q.1) d.Z; have hTl2:=List.length_filter_le (fun q:Rcd × Option Addr × Nat=>!gpr top k q.1) d.Z; have hTs2:=sall_sub ((List.filter_sublist (p:=fun q:Rcd × Option Addr × Nat=>!gpr top k q.1) (l:=d.Z)).map Prod.fst); refine xpL (.slice st ((d.Z.filter fun q=>gpr top k q.1).length) ct) ?_
 refine xT ?_; go_upto_region 3 with fail; refine wp_region_list ?_; refine xpL (.pointer (some ⟨B,0,none⟩)) ?_; refine xpL (.pointer (some ⟨B,0,none⟩)) ?_; refine xpL (.pointer (some ⟨B,0,none⟩)) ?_; refine xpL (.pointer (some ⟨B,0,none⟩)) ?_; refine xaL (.int .i64 ((d.win:Nat):Int)) (load1 3 _ ⟨B,0,none⟩ _ rfl rfl (fun _=>by kernel_rfl) (M.get mS 0 _ rfl)) ?_
 refine xpL (.slice st ((d.Z.filter fun q=>gpr top k q.1).length) ct) ?_; refine readL (.int .i64 (((d.Z.filter fun q=>gpr top k q.1).length:Nat):Int)) rfl (lenS _ 61 72 st ((d.Z.filter fun q=>gpr top k q.1).length) ct rfl Try.underlying61 rfl _) ?_; simp only [aP,lI,l0,lS]
 refine readL (.int .i64 (((d.win:Nat):Int)+(((d.Z.filter fun q=>gpr top k q.1).length:Nat):Int))) rfl (addI .i64 _ _ _ _ _ _ _ rfl rfl rfl (by have:=hfw.w2; rw [xw6]; simp only [Dfl.f] at this; omega) _) ?_; simp only [aP,lI,l0,lS]; refine xaL (.int .i64 ((sgW d.f top k:Nat):Int)) (minI .i64 .i64 _ _ _ _ _ _ _ rfl rfl rfl (by have h_:=hsw.out; split <;> omega) _) ?_
 refine xpL (.pointer (some ⟨B,0,none⟩)) ?_; refine xpL (.pointer (some ⟨B,0,none⟩)) ?_; refine skipOpL rfl (storeAny (.int .i64 ((sgW d.f top k:Nat):Int)) B 0 3 _ _ rfl rfl rfl rfl rfl (M.isSome mS 0 (by simp)) (M.free mS 0 (by simp)) (by kernel_rfl)) ?_; simp only [Act.put]; replace M:=M.set 0 (by simp) (.int .i64 ((sgW d.f top k:Nat):Int))
 replace OF:=OF.and1 ((Off.refl [B] _).set (b:=B) mS 0 (.int .i64 ((sgW d.f top k:Nat):Int))) (.inl mS); replace V_t:=ownsRow_away V_t ((Off.refl [B] _).set (b:=B) mS 0 (.int .i64 ((sgW d.f top k:Nat):Int))) (fun b_ hb_ hm_=>by obtain rfl:=xm1 hb_; have:=(World.ownsRow.lt V_t _ ((ob_own _ _ _ _).2 hm_)).1; omega)
 replace V_l:=ownsRow_away V_l ((Off.refl [B] _).set (b:=B) mS 0 (.int .i64 ((sgW d.f top k:Nat):Int))) (fun b_ hb_ hm_=>by obtain rfl:=xm1 hb_; have:=(World.ownsRow.lt V_l _ ((ob_own _ _ _ _).2 hm_)).1; omega); replace K_:=K_.off ((Off.refl [B] _).set (b:=B) mS 0 (.int .i64 ((sgW d.f top k:Nat):Int))) (fun b hb=>by obtain rfl:=xm1 hb; exact hBc)
 replace c_t:=((Off.refl [B] _).set (b:=B) mS 0 (.int .i64 ((sgW d.f top k:Nat):Int))).cell c_t (fun hm_=>hne_t.symm (xm1 hm_).symm); generalize w5.setCell ⟨B,0,none⟩ (.int .i64 ((sgW d.f top k:Nat):Int))=w6 at M OF V_t V_l K_ c_t ⊢
 replace M:Mm w0 ((B,[.int .i64 ((sgW d.f top k:Nat):Int),.int .i64 (pnx d.top),.slice sl ((d.Z.filter fun q=>!gpr top k q.1).length) cl])::(obs sl++(obs d.sr++X))) w6:=M
 refine xT ?_
 have hP1:POK w6 (⟨d.n,sgW d.f top k,d.top,(d.Z.filter fun q=>!gpr top k q.1),sl,cl⟩:Dfl):=⟨ownsRow_mono21 V_l (Nat.zero_le _),K_.sub fun q hq=>(List.mem_filter.1 hq).1⟩
 have hz2:(⟨d.n,sgW d.f top k,d.top,(d.Z.filter fun q=>!gpr top k q.1),sl,cl⟩:Dfl).Z.length<1000000000:=by show (d.Z.filter fun q=>!gpr top k q.1).length<_; omega
 have hs2:(sall ((⟨d.n,sgW d.f top k,d.top,(d.Z.filter fun q=>!gpr top k q.1),sl,cl⟩:Dfl).Z.map Prod.fst)).length<1000000000:=by show (sall ((d.Z.filter fun q=>!gpr top k q.1).map Prod.fst)).length<_; omega
 have hw1:(⟨d.n,sgW d.f top k,d.top,(d.Z.filter fun q=>!gpr top k q.1),sl,cl⟩:Dfl).win≤32:=by show sgW d.f top k≤32; unfold sgW; omega
 go_upto_region 4 with fail; refine wp_region_list ?_; refine xpL (.pointer (some ⟨B,0,none⟩)) ?_; refine xpL (.func (.func 41) #[] #[.pointer (some ⟨B1,0,none⟩)]) ?_
 have hso:=show Hid _ from (show sgO s id top k=sall (((d.Z.filter fun q=>!gpr top k q.1).filter fun q=>(sold top) q.1).map Prod.fst) by
  have:sgO s id top k=sall (sgG (sgf s id) top k):=by unfold sgO sgf; cases sfd s.L id <;> rfl
  rw [this,← hdf,filt_fst,filt_fst d.Z (fun r=>!gpr top k r)]
  rfl)
 have hF_:Clo21 w6 (.func (.func 41) #[] #[.pointer (some ⟨B1,0,none⟩)]) (sold top) (d.Z.filter fun q=>!gpr top k q.1):=⟨_,_,rfl,.inr ⟨.inl rfl,_,rfl⟩,fun w' l_ q hq=>vg2_any q (hfw.rc q.1 (List.mem_map.2 ⟨q,(List.mem_filter.1 hq).1,rfl⟩)).1 B1 top w' (cell21 l_ c_t)⟩
 have key:=vlose21_any w0 w6 B (⟨d.n,sgW d.f top k,d.top,(d.Z.filter fun q=>!gpr top k q.1),sl,cl⟩:Dfl) _ M hP1 (by first | omega | exact hz2) (by first | omega | exact hs2) hw1 (fun hm=>hBc (((gks_sub List.filter_sublist).map Prod.fst).subset hm)) _ (sold top) hF_; refine xcL key ?_; clear key; rintro e w7 ⟨sq,cq,s2,c2,rfl,V_q,V_l2,M',o1⟩; have hsz1:=OF.size
 replace OF:=OF.trans (o1.mono fun b hb=>by rw [xm1 hb]; exact mS); have hbq:=OF.size; replace c_t:=o1.cell c_t (fun hm_=>hne_t (xm1 hm_)); replace V_t:=ownsRow_away V_t o1 (fun b_ hb_ hm_=>by obtain rfl:=xm1 hb_; have:=(World.ownsRow.lt V_t _ ((ob_own _ _ _ _).2 hm_)).1; omega); replace K_:=K_.off o1 (fun b hb=>by obtain rfl:=xm1 hb; exact hBc); clear V_l
 rw [← hso.out]
 rw [← hso.out] at V_q
 clear M hF_; refine xeL ?_; clear hP1; refine xpL (.slice sq ((sgO s id top k).length) cq) ?_; refine xT ?_; have M:=M'; go_upto_region 5 with fail; have hdr:=(Below.refl w7.heap.size w7).drew; replace M:=M.drew; replace OF:=OF.below hdr; replace V_t:=ownsRow_bel V_t hdr; replace V_q:=ownsRow_bel V_q hdr; replace V_l2:=ownsRow_bel V_l2 hdr; replace K_:=K_.below hdr
 replace c_t:=cell21 hdr c_t; clear hdr; refine wp_region_held_drew (S:=fun w'=>w'.cell? ⟨B1,0,none⟩=some (.int .i64 top)) (by kernel_rfl) c_t ?_; intro _; generalize w7.drew=w8 at M OF V_t V_q V_l2 K_ c_t ⊢; refine xrH 0 34 rfl (.slice sq ((sgO s id top k).length) cq) (fun _ c_t=>(by kernel_rfl)) c_t ?_
 refine xrH 1 35 rfl (.slice st ((d.Z.filter fun q=>gpr top k q.1).length) ct) (fun _ c_t=>(by kernel_rfl)) c_t ?_; refine xrH 2 36 rfl (.int .i64 top) (fun _ c_t=>load1 3 _ ⟨B1,0,none⟩ _ rfl rfl (fun _=>by kernel_rfl) (c_t)) c_t ?_; refine xrH 3 37 rfl (.int .i64 now) (fun _ c_t=>(by kernel_rfl)) c_t ?_; have key:=vclk21_any now w8
 refine callH (i:=4) (some 38) rfl (by kernel_rfl) rfl rfl (fun _=>by kernel_rfl) key ?_; clear key; rintro e w10 ⟨rfl,l_⟩; replace M:=M.call l_; replace OF:=OF.below l_; replace V_t:=ownsRow_bel V_t l_; replace V_q:=ownsRow_bel V_q l_; replace V_l2:=ownsRow_bel V_l2 l_; replace K_:=K_.below l_; replace c_t:=cell21 l_ c_t
 clear l_
 refine ⟨_,rfl,c_t,?_⟩
 simp only [aP,lI,l0,lS]; have key:=vtk21_any _ (d.Z.filter fun q=>gpr top k q.1) st ct (by omega) (fun q hq=>(hfw.rc q.1 (List.mem_map.2 ⟨q,(List.mem_filter.1 hq).1,rfl⟩)).2.1) top ((smom now:Nat):Int) (by have:=smom_le now; omega) w10 V_t; refine callH (i:=5) (some 39) rfl (by kernel_rfl) rfl rfl (fun _=>by kernel_rfl) key ?_; clear key; rintro e w12 ⟨rfl,l_⟩
 replace M:=M.call l_; replace OF:=OF.below l_; replace V_t:=ownsRow_bel V_t l_; replace V_q:=ownsRow_bel V_q l_; replace V_l2:=ownsRow_bel V_l2 l_; replace K_:=K_.below l_; replace c_t:=cell21 l_ c_t
 clear l_
 refine ⟨_,rfl,c_t,?_⟩
 simp only [aP,lI,l0,lS]; refine xrH 6 10 rfl (.slice sq ((sgO s id top k).length) cq) (fun _ c_t=>(by kernel_rfl)) c_t ?_; refine xrH 7 11 rfl (.int .i64 (tkr top ((smom now:Nat):Int) ((d.Z.filter fun q=>gpr top k q.1).map Prod.fst))) (fun _ c_t=>(by kernel_rfl)) c_t ?_
 refine wpAnyH_done (by kernel_rfl) ?_ _
 first | show Exit.then _ _ _ _ _ | show Exit.inBlock _ _ _ _ _
 have hPn:POK w12 (⟨d.n,lwn ((d.Z.filter fun q=>!gpr top k q.1).filter fun q=>(sold top) q.1) (sgW d.f top k),d.top,(d.Z.filter fun q=>!gpr top k q.1).filter fun q=>!(sold top) q.1,s2,c2⟩:Dfl):=⟨ownsRow_mono21 V_l2 (Nat.zero_le _),K_.sub fun q hq=>(List.mem_filter.1 (List.mem_filter.1 hq).1).1⟩
 have M9:Mm w0 ((B,ppc (⟨d.n,lwn ((d.Z.filter fun q=>!gpr top k q.1).filter fun q=>(sold top) q.1) (sgW d.f top k),d.top,(d.Z.filter fun q=>!gpr top k q.1).filter fun q=>!(sold top) q.1,s2,c2⟩:Dfl))::(obs s2++(obs sq++X))) w12:=by
  have h1:=M.perm (perm_lose (obs sq) (obs s2) (obs sl) (obs d.sr++X) _); have h2:=h1.sub _ (List.sublist_append_right (obs sl) _)
  exact Mm.drop21 (a:=[_]) (x:=obs s2++obs sq) (b:=obs d.sr) (by simpa [List.append_assoc] using h2) |> fun h=>by simpa [List.append_assoc] using h
 have hno:=show Hid _ from (show sgt s id top k=spx s id (⟨d.n,lwn ((d.Z.filter fun q=>!gpr top k q.1).filter fun q=>(sold top) q.1) (sgW d.f top k),d.top,(d.Z.filter fun q=>!gpr top k q.1).filter fun q=>!(sold top) q.1,s2,c2⟩:Dfl).f by
  unfold sgt spx
  split
  · next f hf =>
    have e1:f=d.f:=by rw [hdf]; unfold sgf; rw [hf]; rfl
    rw [flose_is,hf,e1,filt_fst d.Z (fun r=>!gpr top k r)]
    rfl
  · next hf=>rw [hf])
 have hst:=show Hid _ from (show sgT s id top now=tkr top ((smom now:Nat):Int) ((d.Z.filter fun q=>gpr top k q.1).map Prod.fst) by
  have:sgT s id top now=stk top now (sgf s id).rs:=by unfold sgT sgf; cases sfd s.L id <;> rfl
  rw [this,← hdf,filt_fst d.Z (gpr top k)]
  exact stk_tkr top now _ (fun r hr=>by show stl r.c top k=true; unfold stl; rw [beq_iff_eq.2 hr,Bool.or_true]) _ hfw.up)
 have hN:=NewW.ofOwn21 (ownsRow_mono21 (b:=w0.heap.size) V_q (by have:=M1.out.below.size; omega))
 obtain ⟨E',hc1,hc2,hc3⟩:=Back.close hI2 hbk M1.out lb OF (d':=(⟨d.n,lwn ((d.Z.filter fun q=>!gpr top k q.1).filter fun q=>(sold top) q.1) (sgW d.f top k),d.top,(d.Z.filter fun q=>!gpr top k q.1).filter fun q=>!(sold top) q.1,s2,c2⟩:Dfl)) rfl hPn (D:=obs sq) M9 (C':=C) (fun q hq=>hck q ((gks_sub (List.filter_sublist.trans List.filter_sublist)).subset hq)) (fun _ h=>h)
 have hO3:=(Off.of_below lb_).trans hc3; have HS:=show Hid _ from (show PIn w12 (sgt s id top k) p m E' C∧Mm w0 (pow R (sgt s id top k) p m E'++(obs sq++(C++l))) w12 from ⟨by rw [hno.out]; exact hc1,by rw [hno.out,pow_spx]; exact hc2.sub _ ((List.Sublist.refl _).append ((List.Sublist.refl _).append ((List.Sublist.refl _).append (List.sublist_append_right _ _))))⟩)
 have HO:=show Hid _ from hO3; have HN:=show Hid _ from hN; clear M M' M1 OF V_q V_l2 V_t K_ hPn M9 hc1 hc2 hc3 hO3 hbk hI hI2 hN c_t; go_wp2; go_ret2
 rw [hst.out]
 first | exact ⟨sq,cq,rfl,HN.out,E',HS.out.1,HS.out.2,HO.out⟩ | exact ⟨sq,cq,E',rfl,HN.out,HS.out.1,HS.out.2,HO.out⟩
end Go.Proofs.Ytmedjdadhmdpgaa
