/- Texts of Ay Al, joined. -/
import Derived.Test.YtmedjdadhmdpgaaP4SchedPlays
set_option maxRecDepth 20000
set_option maxHeartbeats 64000000
namespace Go.Proofs.Ytmedjdadhmdpgaa
open Go.RowKit
def PX21 (w:World) (v:Value) (s:Sch) (bs:List (Nat × List Value)):Prop:=∃ R p m E C,v=.pointer (some ⟨R,0,none⟩)∧bs=pow R s p m E++C∧PIn w s p m E C
theorem mem_map_l {a b:List (Nat × List Value)} {x:Nat} (h:x∈a.map Prod.fst):x∈(a++b).map Prod.fst:=by
 rw [List.map_append]
 exact List.mem_append_left _ h
theorem Off.wide21 {a b:List (Nat × List Value)} {w w':World} (o:Off (a.map Prod.fst) w w'):Off ((a++b).map Prod.fst) w w':=o.mono fun _ h=>mem_map_l h
theorem Mm.swap21 {w0 w:World} {a b c l:List (Nat × List Value)} (M:Mm w0 (a++(b++(c++l))) w):Mm w0 ((a++c)++(b++l)) w:=by
 rw [List.append_assoc]
 exact M.perm ((sw21 b c l).append_left a)
theorem Mm.join21 {w0 w:World} {a c l:List (Nat × List Value)} (M:Mm w0 (a++(c++l)) w):Mm w0 ((a++c)++l) w:=by
 rw [List.append_assoc]
 exact M
theorem vsch_any:SchOK PX21 where
 ptr:=fun _ _ _ _ ⟨R,_,_,_,_,h,_⟩=>⟨R,h⟩
 off:=fun w w' v s bs X ⟨R,p,m,E,C,h1,h2,h3⟩ o hX=>by
  subst h2
  refine ⟨R,p,m,E,C,h1,rfl,h3.off o (fun q hq hm=>hX q.1 hm ?_) (fun b hb hm=>hX b hb ?_) (fun b hb hm=>hX b hb ?_)⟩
  · exact mem_bl (List.mem_append_left _ (mT _ (List.mem_append_left _ hq)))
  · obtain ⟨q,hq,rfl⟩:=List.mem_map.1 hm
    exact mem_bl (List.mem_append_left _ (mT _ (List.mem_append_right _ hq)))
  · obtain ⟨q,hq,rfl⟩:=List.mem_map.1 hm
    exact mem_bl (List.mem_append_right _ hq)
 new:=fun w0 w l p _ M=>(vnew21_any w0 w l p M).mono fun e w' ⟨R,he,hI,hM,hb⟩=>⟨_,_,he,⟨R,p,none,[],[],rfl,rfl,hI⟩,by rw [List.append_nil]; exact hM,hb⟩
 opn:=fun w0 w v s bs l id hw hs hi ⟨R,p,m,E,C,h1,h2,h3⟩ M=>by
  subst h1 h2
  rw [List.append_assoc] at M
  exact (vopn21_any w0 w R p m E C l s h3 hs M id hi).mono fun e w' ⟨m',E',he,hI,hM,ho⟩=>⟨_,he,⟨R,p,m',E',C,rfl,rfl,hI⟩,hM.join21,ho.wide21⟩
 cls:=fun w0 w v s bs l id hw hs hi ⟨R,p,m,E,C,h1,h2,h3⟩ M=>by
  subst h1 h2
  rw [List.append_assoc] at M
  exact (vcls21_any w0 w R p m E C l s h3 hw hs M id hi).mono fun e w' ⟨sq,cq,E',he,hN,hI,hM,ho⟩=>⟨sq,cq,_,he,hN,⟨R,p,m,E',C,rfl,rfl,hI⟩,hM.swap21,ho.wide21⟩
 snt:=fun w0 w v s bs l id c now k sk ck hw hs hi _ _ hk hkv N hks ⟨R,p,m,E,C,h1,h2,h3⟩ M=>by
  subst h1 h2
  rw [List.append_assoc] at M
  exact (vsnt21_any w0 w R p m E C l s h3 hw hs M id hi c now k sk ck hk N fun b hb=>hks b (mem_map_l hb)).mono fun e w' ⟨D,E',he,hI,hM,ho⟩=>⟨_,he,⟨R,p,m,E',D++C,rfl,rfl,hI⟩,by
   have h:=hM
   rw [← List.append_assoc D] at h
   exact h.join21,ho.wide21⟩
 got:=fun w0 w v s bs l id top k sk ck now hw hs hi _ _ hk hkv N hks ⟨R,p,m,E,C,h1,h2,h3⟩ M=>by
  subst h1 h2
  rw [List.append_assoc] at M
  exact (vgot21_any w0 w R p m E C l s h3 hw hs M id hi top now k sk ck hk N).mono fun e w' ⟨sq,cq,E',he,hN,hI,hM,ho⟩=>⟨sq,cq,_,he,hN,⟨R,p,m,E',C,rfl,rfl,hI⟩,hM.swap21,ho.wide21⟩
 lat:=fun w0 w v s bs l id now age hw hs hi _ _ ⟨R,p,m,E,C,h1,h2,h3⟩ M=>by
  subst h1 h2
  rw [List.append_assoc] at M
  exact (vlat21_any w0 w R p m E C l s h3 hw hs M id hi now age).mono fun e w' ⟨sq,cq,E',he,hN,hI,hM,ho⟩=>⟨sq,cq,_,he,hN,⟨R,p,m,E',C,rfl,rfl,hI⟩,hM.swap21,ho.wide21⟩
 pck:=fun w0 w v s bs l a sa ca r sr cr hw hs ha _ _ hai Sa hab hr _ _ hri Sr hrb ⟨R,p,m,E,C,h1,h2,h3⟩ M=>by
  subst h1 h2
  rw [List.append_assoc] at M
  exact (vpck21_any w0 w R p m E C l s h3 hw M a sa ca ha Sa hai (fun b hb=>hab b (mem_map_l hb)) r sr cr hr Sr).mono fun e w' ⟨he,hI,hM,ho⟩=>⟨_,he,⟨R,p,m,E,C,rfl,rfl,hI⟩,hM.join21,ho.wide21⟩
 win:=fun w0 w v s bs l id hw hs hi ⟨R,p,m,E,C,h1,h2,h3⟩ M=>by
  subst h1 h2
  rw [List.append_assoc] at M
  exact vwin21_any w0 w R p m E C l s h3 M id hi
 und:=fun w0 w v s bs l id hw hs hi ⟨R,p,m,E,C,h1,h2,h3⟩ M=>by
  subst h1 h2
  rw [List.append_assoc] at M
  exact vund21_any w0 w R p m E C l s h3 M id hi
section
def dpo (s:Sch):Int:=if s.tu=true then 1 else 0
def drc (s:Sch) (sf:Option Addr) (n cf:Nat):List Value:=[.int .i64 (dpo s),.int .i64 s.last,.slice sf n cf]
structure DIn (w:World) (s:Sch) (L:List Dfl) (sf:Option Addr) (cf:Nat):Prop where
 V:w.ownsRow 0 66 5 (.slice sf L.length cf) L.length (fcs L)
 A:AOK w L
 lst:s.L=dpl L
theorem DIn.off {w w':World} {s:Sch} {L:List Dfl} {sf:Option Addr} {cf:Nat} {X:List Nat} (h:DIn w s L sf cf) (o:Off X w w') (h1:∀ b∈X,b∉ob sf) (h2:∀ b∈X,b∉(gf L).map Prod.fst):DIn w' s L sf cf:=⟨ownsRow_away h.V o h1,h.A.off o h2,h.lst⟩
theorem DIn.below {w w':World} {s:Sch} {L:List Dfl} {sf:Option Addr} {cf:Nat} (h:DIn w s L sf cf) (l:Below w.heap.size w w'):DIn w' s L sf cf:=h.off (X:=[]) (Off.of_below l) (fun _ hb=>by cases hb) (fun _ hb=>by cases hb)
theorem DIn.len {w:World} {s:Sch} {L:List Dfl} {sf:Option Addr} {cf:Nat} (h:DIn w s L sf cf):L.length≤ssz s:=by
 have h1:=congrArg List.length h.lst
 rw [dpl_len] at h1
 unfold ssz
 omega
theorem manyF21:Many Try.prog 66 (.agg #[.int .i64 0,.int .i64 0,.int .i64 0,.bool false,.slice none 0 0]) 56 5:=⟨by kernel_rfl⟩
theorem manyD21:Many Try.prog 74 (.agg #[.int .i64 0,.int .i64 0,.slice none 0 0]) 40 3:=⟨by kernel_rfl⟩
theorem d_sz {s:Sch} {L A B:List Dfl} {d:Dfl} (hl:s.L=dpl L) (h:L=A++d::B):d.Z.length+(sall (d.Z.map Prod.fst)).length≤ssz s:=by
 have h1:fsz d.f≤(s.L.map fun q=>fsz q.2).sum:=single_le_sum21 (List.mem_map.2 ⟨(d.n,d.f),by rw [hl,h]; exact List.mem_map.2 ⟨d,by simp,rfl⟩,rfl⟩)
 have h2:fsz d.f=d.Z.length+(sall (d.Z.map Prod.fst)).length:=by
  show (d.Z.map Prod.fst).length+_=_
  rw [List.length_map]
  rfl
 unfold ssz
 omega
def s5 (sp:Option Addr) (cap l:Nat):Option Addr:=if cap=l then sp else sp.map (·.add (l*5))
theorem s5_g {g cap l:Nat} (h:cap≠l):s5 (some ⟨g,0,none⟩) cap l=some ⟨g,l*5,none⟩:=by
 unfold s5
 rw [if_neg h,Option.map_some,Addr.add_mid,Nat.zero_add]
theorem s5_0 (g cap:Nat):s5 (some ⟨g,0,none⟩) cap 0=some ⟨g,0,none⟩:=by
 by_cases h:cap=0
 · unfold s5; rw [if_pos h]
 · rw [s5_g h,Nat.zero_mul]
section
variable {P:Program}
theorem s5_h {t e:TypeId} (ht:P.underlying t=some (.slice e)) (hsz:∀ w,(sizeOf (P.elem t)).run P w=.ok 5 w) (sp:Option Addr) (n cap h:Nat) (hh:h≤cap) (w:World):(Instr.sliceAt t (.slice sp n cap) none (some (.int .i64 (h:Int))) none).run P w=.ok (.slice (s5 sp cap 0) h cap) w:=by
 have ht':P.underlying t=some (.slice (P.elem t)):=by unfold Program.elem; rw [ht]
 rw [run_sliceAt_slice w t _ _ _ _ ht',run_slice_h w t sp n cap ht' .i64 (h:Int) (by omega) (by omega),hsz]
 simp only [Result.andThen,sliced,Int.toNat_natCast,s5,Nat.sub_zero]
theorem s5_l {t e:TypeId} (ht:P.underlying t=some (.slice e)) (hsz:∀ w,(sizeOf (P.elem t)).run P w=.ok 5 w) (sp:Option Addr) (n cap l:Nat) (hl:l≤n) (w:World):(Instr.sliceAt t (.slice sp n cap) (some (.int .i64 (l:Int))) none none).run P w=.ok (.slice (s5 sp cap l) (n-l) (cap-l)) w:=by
 have ht':P.underlying t=some (.slice (P.elem t)):=by unfold Program.elem; rw [ht]
 rw [run_sliceAt_slice w t _ _ _ _ ht',run_slice_l w t sp n cap ht' .i64 (l:Int) (by omega) (by omega),hsz]
 simp only [Result.andThen,sliced,Int.toNat_natCast,s5]
end
theorem NewW.nil21 (w:World) (base:Nat):NewW w base [] (.slice none 0 0):=⟨none,0,rfl,xnR _,fun _=>rfl,fun _ _ h=>(by cases h),fun _ h=>(by cases h)⟩
theorem perm_dcl {α:Type} (sv sq g gl l:List α) (R:α):(R::(sv++(sq++(g++(gl++l))))).Perm (R::(sv++(gl++((g++sq)++l)))):=by
 refine List.Perm.cons _ (List.Perm.append_left _ ?_)
 have h1:=sw21 (sq++g) gl l
 have h2:((sq++g)++l).Perm ((g++sq)++l):=List.perm_append_comm.append_right l
 have h3:=h1.trans (h2.append_left gl)
 simpa [List.append_assoc] using h3
theorem gf_mid (A B:List Dfl) (d:Dfl) (T:List (Nat × List Value)):(gf (A++d::B)++T).Perm (gd d++(gf (A++B)++T)):=by
 rw [gf_app,gf_cons,gf_app]
 rw [List.append_assoc,List.append_assoc,List.append_assoc,← List.append_assoc,← List.append_assoc (gd d)]
 exact List.perm_append_comm.append_right _
theorem dnew21_any (w0 w:World) (l:List (Nat × List Value)) (pol:Int) (M:Mm w0 l w) :
 Calls Try.prog 10 #[.int .i64 pol] w fun e w'=>∃ R,e=.returned (.pointer (some ⟨R,0,none⟩))∧DIn w' (snew pol) [] none 0∧Mm w0 ((R,drc (snew pol) none 0 0)::l) w'∧Below w.heap.size w w':=by
 have lb_:=Below.refl w.heap.size w
 go_enter Try.func10,Try.ntmps10
 go_upto_region 0 with fail; refine wp_region_list ?_; refine xpL (.pointer none) ?_; refine xT ?_
 by_cases hp1:¬ pol=1
 · go_upto_region 1 with fail
   refine wp_region_list ?_; refine xpL (.int .i64 pol) ?_; refine xaL (.bool true) (neqI .i64 _ _ _ _ _ _ rfl rfl rfl true (bne_iff_ne.2 hp1) _) ?_; refine xT ?_; go_upto_region 2 with fail; refine wp_region_list ?_; refine xpL (.int .i64 0) ?_; refine xT ?_; go_upto_region 3 with fail; refine wp_region_list ?_; refine xpL (.int .i64 0) ?_
   refine xpL (.agg #[.int .i64 0,.int .i64 (-1),.slice none 0 0]) ?_; refine actL (w':=w.alloc (.cells #[.int .i64 0,.int .i64 (-1),.slice none 0 0] 58)) (.pointer (some ⟨w.heap.size,0,none⟩)) rfl (by kernel_rfl) ?_; simp only [aP,lI,l0,lS]; have hlb:=(Below.refl w.heap.size w).alloc (xnR _) (.cells #[.int .i64 0,.int .i64 (-1),.slice none 0 0] 58)
   replace lb_:=lb_.trans (hlb.mono lb_.size); clear hlb
   have hB_B1:w0.heap.size≤w.heap.size:=M.below.size
   replace M:=M.box #[.int .i64 0,.int .i64 (-1),.slice none 0 0] 58 w.heap.size rfl; generalize w.alloc (.cells #[.int .i64 0,.int .i64 (-1),.slice none 0 0] 58)=w1 at M lb_ ⊢; generalize eB:w.heap.size=B1 at M hB_B1  ⊢
   have hE_B1:w.heap.size≤B1:=Nat.le_of_eq eB
   have hF_B1:B1≤w.heap.size:=Nat.le_of_eq eB.symm
   clear eB
   replace M:Mm w0 ((B1,[.int .i64 0,.int .i64 (-1),.slice none 0 0])::l) w1:=M
   refine xpL (.pointer (some ⟨B1,0,none⟩)) ?_; refine xT ?_; have hS:=show Hid _ from (show snew pol=⟨false,-1,[]⟩ by unfold snew; rw [decide_eq_false hp1]); have HS:=show Hid _ from (show DIn w1 (snew pol) [] none 0∧Mm w0 ((B1,drc (snew pol) none 0 0)::l) w1∧Below w.heap.size w w1 from ⟨⟨World.ownsRow_nil _ _ _ _,AOK.nil _,rfl⟩,by rw [hS.out]; exact M,lb_⟩); clear M lb_
   go_wp2; go_ret
   exact ⟨B1,rfl,HS.out⟩
 · replace hp1:=Classical.not_not.1 hp1
   go_upto_region 1 with fail; refine wp_region_list ?_; refine xpL (.int .i64 pol) ?_; refine xaL (.bool false) (neqI .i64 _ _ _ _ _ _ rfl rfl rfl false (by rw [bne_eq_false_iff_eq]; exact hp1) _) ?_; refine xT ?_; subst hp1; go_upto_region 3 with fail; refine wp_region_list ?_; refine xpL (.int .i64 1) ?_; refine xpL (.agg #[.int .i64 1,.int .i64 (-1),.slice none 0 0]) ?_
   refine actL (w':=w.alloc (.cells #[.int .i64 1,.int .i64 (-1),.slice none 0 0] 58)) (.pointer (some ⟨w.heap.size,0,none⟩)) rfl (by kernel_rfl) ?_; simp only [aP,lI,l0,lS]; have hlb:=(Below.refl w.heap.size w).alloc (xnR _) (.cells #[.int .i64 1,.int .i64 (-1),.slice none 0 0] 58); replace lb_:=lb_.trans (hlb.mono lb_.size); clear hlb
   have hB_B2:w0.heap.size≤w.heap.size:=M.below.size
   replace M:=M.box #[.int .i64 1,.int .i64 (-1),.slice none 0 0] 58 w.heap.size rfl; generalize w.alloc (.cells #[.int .i64 1,.int .i64 (-1),.slice none 0 0] 58)=w2 at M lb_ ⊢; generalize eB:w.heap.size=B2 at M hB_B2  ⊢
   have hE_B2:w.heap.size≤B2:=Nat.le_of_eq eB
   have hF_B2:B2≤w.heap.size:=Nat.le_of_eq eB.symm
   clear eB
   replace M:Mm w0 ((B2,[.int .i64 1,.int .i64 (-1),.slice none 0 0])::l) w2:=M
   refine xpL (.pointer (some ⟨B2,0,none⟩)) ?_; refine xT ?_; have HS:=show Hid _ from (show DIn w2 (snew 1) [] none 0∧Mm w0 ((B2,drc (snew 1) none 0 0)::l) w2∧Below w.heap.size w w2 from ⟨⟨World.ownsRow_nil _ _ _ _,AOK.nil _,rfl⟩,M,lb_⟩); clear M lb_; go_wp2; go_ret
   exact ⟨B2,rfl,HS.out⟩
theorem dopn21_any (w0 w:World) (R:Nat) (L:List Dfl) (sf:Option Addr) (cf:Nat) (l:List (Nat × List Value)) (s:Sch) (hI:DIn w s L sf cf) (hsz_:ssz s<1000000000) (M:Mm w0 ((R,drc s sf L.length cf)::(obs sf++(gf L++l))) w) (id:Int) :
 Calls Try.prog 13 #[.pointer (some ⟨R,0,none⟩),.int .i64 id] w fun e w'=>∃ L' sf' cf',e=.returned (.tuple #[])∧DIn w' (sop s id) L' sf' cf'∧Mm w0 ((R,drc (sop s id) sf' L'.length cf')::(obs sf'++(gf L'++l))) w'∧Off (R::(ob sf++(gf L).map Prod.fst)) w w':=by
 replace M:Mm w0 ((R,[.int .i64 (dpo s),.int .i64 s.last,.slice sf L.length cf])::(obs sf++(gf L++l))) w:=M
 have hln:L.length<1000000000:=by have:=hI.len; omega
 have lb_:=Below.refl w.heap.size w
 go_enter Try.func13,Try.ntmps13
 by_cases h0:id<0
 · go_upto_region 0 with fail
   refine wp_region_list ?_; refine xpL (.int .i64 id) ?_; refine xaL (.bool false) (geqI .i64 _ _ _ _ _ _ rfl rfl rfl false (decide_eq_false (by omega)) _) ?_; refine xpL (.bool false) ?_
   with_reducible refine skipL ?_ ?_
   · rfl
   simp only [aP,lI,l0,lS]
   with_reducible refine skipL ?_ ?_
   · rfl
   simp only [aP,lI,l0,lS]
   with_reducible refine skipL ?_ ?_
   · rfl
   simp only [aP,lI,l0,lS]
   with_reducible refine skipL ?_ ?_
   · rfl
   simp only [aP,lI,l0,lS]; refine xpL (.bool false) ?_; refine xT ?_; have hE:=show Hid _ from (show sop s id=s from if_neg (fun h_=>by omega)); have HS:=show Hid _ from (And.intro (hI.below lb_) (And.intro M (Off.of_below (X:=R::(ob sf++(gf L).map Prod.fst)) lb_))); clear M hI lb_ ; go_wp2
   first | exact ⟨rfl,.tuple #[],by kernel_rfl,rfl,L,sf,cf,by rw [hE.out]; exact HS.out⟩ | exact ⟨rfl,.tuple #[],by kernel_rfl,L,sf,cf,rfl,by rw [hE.out]; exact HS.out⟩
 · rcases sat_cases L id with ⟨h1,h2,h3⟩ | ⟨A,d,B,h1,h2,h3,h4,h5⟩
   · go_upto_region 0 with fail
     refine wp_region_list ?_; refine xpL (.int .i64 id) ?_; refine xaL (.bool true) (geqI .i64 _ _ _ _ _ _ rfl rfl rfl true (decide_eq_true (by omega)) _) ?_; refine xpL (.bool true) ?_; refine xpL (.pointer (some ⟨R,0,none⟩)) ?_; refine xpL (.int .i64 id) ?_; have key:=dat21_any w 0 R L sf cf hln (M.get mS 2 _ rfl) hI.V id; refine xcL key ?_; clear key; rintro e w2 ⟨rfl,l_⟩
     replace M:=M.call l_; replace lb_:=lb_.trans (l_.mono lb_.size)
     clear l_; refine xeL ?_; refine xaL (.bool true) (lssI .i64 _ _ _ _ _ _ rfl rfl rfl true (by rw [h1]; decide) _) ?_; refine xpL (.bool true) ?_; refine xT ?_
     obtain ⟨n,rfl⟩:∃ n:Nat,id=(n:Int):=⟨id.toNat,by omega⟩
     have hsp:=show Hid _ from (show sop s (n:Int)={ s with L:=s.L++[(n,flg0)] } by unfold sop; rw [if_pos ⟨by omega,by rw [hI.lst]; exact h2⟩,Int.toNat_natCast]); have hI2:=hI.below lb_; have V_f:=hI2.V; have OF:=Off.of_below (X:=R::(ob sf++(gf L).map Prod.fst)) lb_; go_upto_region 1 with fail; refine wp_region_list ?_; refine xpL (.pointer (some ⟨R,0,none⟩)) ?_
     refine xpL (.pointer (some ⟨R,0,none⟩)) ?_; refine xpL (.pointer (some ⟨R,0,none⟩)) ?_; refine xpL (.pointer (some ⟨R,2,none⟩)) ?_; refine xaL (.slice sf L.length cf) (load1 56 _ ⟨R,2,none⟩ _ rfl rfl (fun _=>by kernel_rfl) (M.get mS 2 _ rfl)) ?_; refine xpL (.int .i64 (n:Int)) ?_; refine xpL (.agg #[.int .i64 (n:Int),.int .i64 4,.int .i64 0,.bool false,.slice none 0 0]) ?_
     have hlb:=(Below.refl w2.heap.size w2).alloc (xnR _) (.cells #[.int .i64 (n:Int),.int .i64 4,.int .i64 0,.bool false,.slice none 0 0] 66); have T_b:=World.ownsRow.cells (World.ownsRow_lit (base:=w2.heap.size) (e:=66) (size:=5) w2 #[.int .i64 (n:Int),.int .i64 4,.int .i64 0,.bool false,.slice none 0 0] 1 (xnR _) (by unfold maxLen; omega) rfl) (g:=w2.heap.size) rfl
     refine actL (w':=w2.alloc (.cells #[.int .i64 (n:Int),.int .i64 4,.int .i64 0,.bool false,.slice none 0 0] 66)) (.slice (some ⟨w2.heap.size,0,none⟩) 1 1) rfl (by kernel_rfl) ?_; simp only [aP,lI,l0,lS]; replace M:=M.call hlb; replace V_f:=ownsRow_bel V_f hlb; replace hI2:=hI2.below hlb; replace OF:=OF.below hlb; clear hlb
     generalize w2.alloc (.cells #[.int .i64 (n:Int),.int .i64 4,.int .i64 0,.bool false,.slice none 0 0] 66)=w3 at M T_b V_f hI2 OF ⊢; generalize w2.heap.size=bz at T_b ⊢
     obtain ⟨v2,wz9,hr,V2,hgr,hg2⟩:=run_append_OwnV (P:=Try.prog) (ty:=56) Try.underlying56 manyF21 rfl (by decide) V_f ⟨bz,0,none⟩ 1 1 (fc1 (⟨n,4,none,[],none,0⟩:Dfl)) rfl T_b (fun u hu=>fcs_one [(⟨n,4,none,[],none,0⟩:Dfl)] u (by rw [fcs_cons]; exact List.mem_append_left _ hu)) (by unfold maxLen; omega) (by omega) (Nat.zero_le _)
     have o1:Off (ob sf) w3 wz9:=Off.grown (Off.refl (ob sf) _) hgr (fun b_ hb_=>.inl ((ob_own _ _ _ b_).1 hb_))
     obtain ⟨sv,cv,rfl,_,_⟩:=row_form16 V2
     have hfa:fcs L++fc1 (⟨n,4,none,[],none,0⟩:Dfl)=fcs (L++[(⟨n,4,none,[],none,0⟩:Dfl)]):=by rw [fcs_app,fcs_cons]; exact congrArg (fcs L++·) (List.append_nil _).symm
     rw [hfa] at V2
     have hgl:∀ b∈ob sf,b∉(gf L).map Prod.fst:=fun b hb hm=>Mm.apart2 (a:=obs sf) M.tail b (by rw [obs_fst]; exact hb) (by rw [List.map_append]; exact List.mem_append_left _ hm)
     have hA2:=hI2.A.off o1 hgl; replace OF:=OF.trans (o1.mono fun b hb=>mT _ (List.mem_append_left _ hb)); have MP:=M.perm (List.perm_middle (l₁:=obs sf)).symm; have M9:=Mm.rowApp21 MP hgr V2 hg2; refine xaL _ (appendOp _ _ 56 _ _ _ rfl rfl rfl hr) ?_; clear hr hgr hg2 M MP T_b V_f o1 hI2 hgl; have M:=M9.perm (List.perm_middle (l₁:=obs sv)); clear M9
     replace M:Mm w0 ((R,[.int .i64 (dpo s),.int .i64 s.last,.slice sf L.length cf])::(obs sv++(gf L++l))) wz9:=M
     have V_f:=V2; have A2:=hA2; clear V2 hA2; refine xpL (.pointer (some ⟨R,0,none⟩)) ?_; refine xpL (.pointer (some ⟨R,2,none⟩)) ?_; refine skipOpL rfl (storeAny (.slice sv (L.length+1) cv) R 2 56 _ _ rfl rfl rfl rfl rfl (M.isSome mS 2 (by simp)) (M.free mS 2 (by simp)) (by kernel_rfl)) ?_; simp only [Act.put]; replace M:=M.set 2 (by simp) (.slice sv (L.length+1) cv)
     replace V_f:=ownsRow_away V_f ((Off.refl [R] _).set (b:=R) mS 2 (.slice sv (L.length+1) cv)) (fun b_ hb_=>by obtain rfl:=xm1 hb_; exact M.awayB (fun p_ hp_=>by simp [hp_])); replace A2:=A2.off ((Off.refl [R] _).set (b:=R) mS 2 (.slice sv (L.length+1) cv)) (fun b_ hb_=>by obtain rfl:=xm1 hb_; exact M.awayC (fun p_ hp_=>by simp [hp_]))
     replace OF:=OF.trans (((Off.refl [R] _).set (b:=R) mS 2 (.slice sv (L.length+1) cv)).mono (fun b_ hb_=>by rw [xm1 hb_]; exact mS)); generalize wz9.setCell ⟨R,2,none⟩ (.slice sv (L.length+1) cv)=w4 at M V_f A2 OF ⊢
     replace M:Mm w0 ((R,[.int .i64 (dpo s),.int .i64 s.last,.slice sv (L.length+1) cv])::(obs sv++(gf L++l))) w4:=M
     have hgn:gf (L++[(⟨n,4,none,[],none,0⟩:Dfl)])=gf L:=by rw [gf_app]; exact List.append_nil _
     have hIn:DIn w4 { s with L:=s.L++[(n,flg0)] } (L++[(⟨n,4,none,[],none,0⟩:Dfl)]) sv cv:=⟨by rw [List.length_append]; exact V_f,fun d hd=>by
      rcases List.mem_append.1 hd with h | h
      · exact A2 d h
      · obtain rfl:=xm1 h
        exact ⟨World.ownsRow_nil _ _ _ _,fun _ h=>by cases h⟩,by rw [dpl_app,← hI.lst]; rfl⟩
     exact ⟨rfl,.tuple #[],by kernel_rfl,L++[(⟨n,4,none,[],none,0⟩:Dfl)],sv,cv,rfl,by rw [hsp.out]; exact hIn,by rw [hsp.out,hgn,List.length_append]; exact M,OF⟩
   · go_upto_region 0 with fail
     refine wp_region_list ?_; refine xpL (.int .i64 id) ?_; refine xaL (.bool true) (geqI .i64 _ _ _ _ _ _ rfl rfl rfl true (decide_eq_true (by omega)) _) ?_; refine xpL (.bool true) ?_; refine xpL (.pointer (some ⟨R,0,none⟩)) ?_; refine xpL (.int .i64 id) ?_; have key:=dat21_any w 0 R L sf cf hln (M.get mS 2 _ rfl) hI.V id; refine xcL key ?_; clear key; rintro e w6 ⟨rfl,l_⟩
     replace M:=M.call l_; replace lb_:=lb_.trans (l_.mono lb_.size)
     clear l_; refine xeL ?_
     refine xaL (.bool false) (lssI .i64 _ _ _ _ _ _ rfl rfl rfl false (by rw [h4]; exact decide_eq_false (by omega)) _) ?_
     refine xpL (.bool false) ?_; refine xT ?_; have hE:=show Hid _ from (show sop s id=s from if_neg (fun h_=>by rw [hI.lst,h5] at h_; cases h_.2)); have HS:=show Hid _ from (And.intro (hI.below lb_) (And.intro M (Off.of_below (X:=R::(ob sf++(gf L).map Prod.fst)) lb_))); clear M hI lb_ h1 h3 h4 h5; go_wp2
     first | exact ⟨rfl,.tuple #[],by kernel_rfl,rfl,L,sf,cf,by rw [hE.out]; exact HS.out⟩ | exact ⟨rfl,.tuple #[],by kernel_rfl,L,sf,cf,rfl,by rw [hE.out]; exact HS.out⟩
theorem dcls21_any (w0 w:World) (R:Nat) (L:List Dfl) (sf:Option Addr) (cf:Nat) (l:List (Nat × List Value)) (s:Sch) (hI:DIn w s L sf cf) (hsz_:ssz s<1000000000) (M:Mm w0 ((R,drc s sf L.length cf)::(obs sf++(gf L++l))) w) (id:Int) :
 Calls Try.prog 16 #[.pointer (some ⟨R,0,none⟩),.int .i64 id] w fun e w'=>∃ sq cq L' sf' cf',e=.returned (.slice sq (sclO s id).length cq)∧NewW w' w0.heap.size (sclO s id) (.slice sq (sclO s id).length cq)∧DIn w' (scl s id) L' sf' cf'∧Mm w0 ((R,drc (scl s id) sf' L'.length cf')::(obs sf'++(gf L'++(obs sq++l)))) w'∧Off (R::(ob sf++(gf L).map Prod.fst)) w w':=by
 replace M:Mm w0 ((R,[.int .i64 (dpo s),.int .i64 s.last,.slice sf L.length cf])::(obs sf++(gf L++l))) w:=M
 have hln:L.length<1000000000:=by have:=hI.len; omega
 have lb_:=Below.refl w.heap.size w
 go_enter Try.func16,Try.ntmps16
 go_upto_region 0 with fail; refine wp_region_list ?_; refine xpL (.slice none 0 0) ?_; refine xT ?_; go_upto_region 1 with fail; refine wp_region_list ?_; refine xpL (.pointer (some ⟨R,0,none⟩)) ?_; refine xpL (.int .i64 id) ?_; have key:=dat21_any w 0 R L sf cf hln (M.get mS 2 _ rfl) hI.V id; refine xcL key ?_; clear key; rintro e w2 ⟨rfl,l_⟩; replace M:=M.call l_
 replace lb_:=lb_.trans (l_.mono lb_.size)
 clear l_; refine xeL ?_; refine xpL (.int .i64 (sat L id)) ?_; refine xT ?_
 rcases sat_cases L id with ⟨h1,h2,h3⟩ | ⟨A,d,B,h1,h2,h3,h4,h5⟩
 · rw [h1]
   go_upto_region 2 with fail; refine wp_region_list ?_; refine xpL (.int .i64 (-1)) ?_; refine xaL (.bool true) (lssI .i64 _ _ _ _ _ _ rfl rfl rfl true (by decide) _) ?_; refine xT ?_; go_upto_region 3 with fail; refine wp_region_list ?_; refine xpL (.slice none 0 0) ?_; refine xT ?_; have hE:=show Hid _ from (show scl s id=s by unfold scl; rw [sdel_none (by rw [hI.lst]; exact h2)])
   have hO:=show Hid _ from (show sclO s id=[] by unfold sclO; rw [hI.lst,h2]); have HS:=show Hid _ from (show DIn w2 s L sf cf∧Mm w0 ((R,drc s sf L.length cf)::(obs sf++(gf L++(obs none++l)))) w2∧Off (R::(ob sf++(gf L).map Prod.fst)) w w2 from ⟨hI.below lb_,M,Off.of_below lb_⟩); clear M hI lb_ h1 h2 h3; go_wp2; go_ret
   rw [hE.out,hO.out]
   first | exact ⟨none,0,rfl,NewW.nil21 _ _,L,sf,cf,HS.out⟩ | exact ⟨none,0,L,sf,cf,rfl,NewW.nil21 _ _,HS.out⟩
 · rw [h4]
   have h6:L[A.length]?=some d:=by rw [h1,List.getElem?_append_right (xnR _),Nat.sub_self]; rfl
   have h7:=(List.getElem?_eq_some_iff.1 h6).1
   obtain ⟨g,hg⟩:=row_some5 hI.V (by omega)
   have hzz:=d_sz hI.lst h1; have hdk:=hI.A d (by rw [h1]; simp); go_upto_region 2 with fail; refine wp_region_list ?_; refine xpL (.int .i64 ((A.length:Nat):Int)) ?_; refine xaL (.bool false) (lssI .i64 _ _ _ _ _ _ rfl rfl rfl false (decide_eq_false (by omega)) _) ?_; refine xT ?_; go_upto_region 4 with fail; refine wp_region_list ?_; refine xpL (.pointer (some ⟨R,0,none⟩)) ?_
   refine xpL (.pointer (some ⟨R,0,none⟩)) ?_; refine xpL (.pointer (some ⟨R,2,none⟩)) ?_; refine xaL (.slice sf L.length cf) (load1 56 _ ⟨R,2,none⟩ _ rfl rfl (fun _=>by kernel_rfl) (M.get mS 2 _ rfl)) ?_; refine xpL (.int .i64 ((A.length:Nat):Int)) ?_
   refine xaL (.pointer (some ⟨g,A.length*5,none⟩)) (idxF5 g _ _ A.length sf hg (List.getElem?_eq_some_iff.1 h6).1 _ _ rfl rfl rfl _) ?_; refine xpL (.pointer (some ⟨g,A.length*5+4,none⟩)) ?_; refine xaL (.slice d.sr d.Z.length d.cr) (load1 64 _ ⟨g,A.length*5+4,none⟩ _ rfl rfl (fun _=>by kernel_rfl) (row_cell5 (ownsRow_bel hI.V lb_) hg (fcs_get h6 rfl))) ?_
   have key:=dall21_any 0 d.Z d.sr d.cr (by omega) (by omega) w2 (hdk.off (X:=[]) (Off.of_below lb_) (fun _ h=>by cases h)).V (hdk.off (X:=[]) (Off.of_below lb_) (fun _ h=>by cases h)).K; refine xcL key ?_; clear key; rintro e w4 ⟨sq,cq,rfl,V_q,l_⟩; have MQ:=M.newRow21 l_ V_q; replace V_q:=ownsRow_mono21 (b:=w0.heap.size) V_q M.below.size; replace M:=M.call l_
   replace lb_:=lb_.trans (l_.mono lb_.size); clear l_; refine xeL ?_; refine xpL (.slice sq ((sall (d.Z.map Prod.fst)).length) cq) ?_; refine xT ?_; have hI2:=hI.below lb_; have lb2:=Below.refl w4.heap.size w4; have CR2:=M.get mS 2 _ rfl; subst hg
   have hcf:L.length≤cf:=by
    obtain ⟨_,_,hv_,hl_,_⟩:=row_form16 hI2.V
    injection hv_ with _ _ e3_
    omega
   have hLs:=congrArg List.length h1
   rw [List.length_append,List.length_cons] at hLs
   go_upto_region 5 with fail; refine wp_region_list ?_
   obtain ⟨bz,hbz,VR⟩:∃ bz,bz=w4.heap.size∧(w4.alloc (.cells #[] 66)).ownsRow w4.heap.size 66 5 (.slice (some ⟨bz,0,none⟩) 0 0) 0 []:=⟨_,rfl,World.ownsRow_lit (e:=66) (size:=5) w4 #[] 0 lb2.size (by unfold maxLen; omega) rfl⟩
   refine actL (w':=w4.alloc (.cells #[] 66)) (.slice (some ⟨w4.heap.size,0,none⟩) 0 0) rfl (by kernel_rfl) ?_; simp only [aP,lI,l0,lS]; replace lb2:=lb2.alloc (xnR _) (.cells #[] 66)
   rw [← hbz]
   generalize w4.alloc (.cells #[] 66)=w5 at lb2 VR ⊢; clear hbz; refine xpL (.pointer (some ⟨R,0,none⟩)) ?_; refine xpL (.pointer (some ⟨R,0,none⟩)) ?_; refine xpL (.pointer (some ⟨R,2,none⟩)) ?_; refine xaL (.slice (some ⟨g,0,none⟩) L.length cf) (load1 56 _ ⟨R,2,none⟩ _ rfl rfl (fun _=>by kernel_rfl) (cell21 lb2 CR2)) ?_; refine xpL (.int .i64 ((A.length:Nat):Int)) ?_
   refine xaL (.slice (s5 (some ⟨g,0,none⟩) cf 0) A.length cf) (cutHi _ _ _ _ _ _ rfl rfl rfl (s5_h (P:=Try.prog) (t:=56) Try.underlying56 (fun _=>by kernel_rfl) (some ⟨g,0,none⟩) L.length cf A.length (by omega) _)) ?_
   obtain ⟨v2,wy1,hr,V2,hgr,hg2⟩:=run_append_opt (P:=Try.prog) (ty:=56) Try.underlying56 manyF21 rfl (by decide) VR (s5 (some ⟨g,0,none⟩) cf 0) A.length cf (fcs A) (by rw [fcs_len]) (fun j u hu=>⟨⟨g,0,none⟩,s5_0 g cf,by
    have hj:=(List.getElem?_eq_some_iff.1 hu).1; have h_:=row_cell5 (ownsRow_bel hI2.V lb2) rfl (j:=j) (u:=u) (by rw [h1,fcs_app,List.getElem?_append_left hj]; exact hu)
    rw [Addr.add_mid,Nat.zero_add]
    exact h_⟩) (fcs_one _) (by unfold maxLen; omega) (by omega) lb2.size
   replace lb2:=lb2.grown hgr lb2.size (fun b_ hb_=>(World.ownsRow.lt VR b_ hb_).1)
   obtain ⟨sv1,cv1,rfl,_,_⟩:=row_form16 V2
   refine xaL _ (appendOp _ _ 56 _ _ _ rfl rfl rfl hr) ?_; clear hr hgr hg2 VR
   rw [Nat.zero_add] at V2 ⊢
   rw [List.nil_append] at V2
   have VR:=V2; clear V2; refine xpL (.slice sv1 A.length cv1) ?_; refine xT ?_; go_upto_region 6 with fail; refine wp_region_list ?_; refine xpL (.pointer (some ⟨R,0,none⟩)) ?_; refine xpL (.slice sv1 A.length cv1) ?_; refine xpL (.pointer (some ⟨R,0,none⟩)) ?_; refine xpL (.pointer (some ⟨R,0,none⟩)) ?_; refine xpL (.pointer (some ⟨R,2,none⟩)) ?_
   refine xaL (.slice (some ⟨g,0,none⟩) L.length cf) (load1 56 _ ⟨R,2,none⟩ _ rfl rfl (fun _=>by kernel_rfl) (cell21 lb2 CR2)) ?_; refine xpL (.int .i64 ((A.length:Nat):Int)) ?_; refine readL (.int .i64 (((A.length:Nat):Int)+1)) rfl (addI .i64 _ _ _ _ _ _ _ rfl rfl rfl (by rw [xw6]; omega) _) ?_; simp only [aP,lI,l0,lS]
   refine xaL (.slice (s5 (some ⟨g,0,none⟩) cf (A.length+1)) (L.length-(A.length+1)) (cf-(A.length+1))) (cutOp _ _ _ _ _ _ rfl rfl rfl (s5_l (P:=Try.prog) (t:=56) Try.underlying56 (fun _=>by kernel_rfl) (some ⟨g,0,none⟩) L.length cf (A.length+1) (by omega) _)) ?_
   obtain ⟨v2,wy2,hr,V2,hgr,hg2⟩:=run_append_opt (P:=Try.prog) (ty:=56) Try.underlying56 manyF21 rfl (by decide) VR (s5 (some ⟨g,0,none⟩) cf (A.length+1)) (L.length-(A.length+1)) (cf-(A.length+1)) (fcs B) (by rw [fcs_len]; congr 1; omega) (fun j u hu=>⟨⟨g,(A.length+1)*5,none⟩,by
    have hj:=(List.getElem?_eq_some_iff.1 hu).1
    rw [fcs_len] at hj
    exact s5_g (by omega),by
    have h_:=row_cell5 (ownsRow_bel hI2.V lb2) rfl (j:=(A.length+1)*5+j) (u:=u) (by rw [h1,fcs_app,List.getElem?_append_right (by rw [fcs_len]; omega),fcs_len,fcs_cons,List.getElem?_append_right (by show 5≤_; omega)]; show (fcs B)[(A.length+1)*5+j-A.length*5-5]?=_; rw [show (A.length+1)*5+j-A.length*5-5=j by omega]; exact hu)
    rw [Addr.add_mid]
    exact h_⟩) (fcs_one _) (by unfold maxLen; omega) (by omega) lb2.size
   replace lb2:=lb2.grown hgr lb2.size (fun b_ hb_=>(World.ownsRow.lt VR b_ hb_).1)
   obtain ⟨sv2,cv2,rfl,_,_⟩:=row_form16 V2
   refine xaL _ (appendOp _ _ 56 _ _ _ rfl rfl rfl hr) ?_; clear hr hgr hg2 VR
   rw [← fcs_app,show A.length+(L.length-(A.length+1))=(A++B).length by rw [List.length_append]; omega] at V2
   rw [show A.length+(L.length-(A.length+1))=(A++B).length by rw [List.length_append]; omega]
   have hMM:=MQ; have M8:=(MQ.call lb2).own21 V2 MQ.below.size (fun b hb hm=>by have:=MQ.lts21 (a:=[]) hm; omega)
   have M9:Mm w0 ((R,[.int .i64 (dpo s),.int .i64 s.last,.slice (some ⟨g,0,none⟩) L.length cf])::(obs sv2++(obs sq++(obs (some ⟨g,0,none⟩)++(gf L++l))))) wy2:=by
    have e1:=List.perm_middle (l₁:=obs sv2++obs sq) (a:=(R,drc s (some ⟨g,0,none⟩) L.length cf)) (l₂:=obs (some ⟨g,0,none⟩)++(gf L++l))
    rw [List.append_assoc,List.append_assoc] at e1
    exact M8.perm e1
   clear M M8 MQ hMM; have M:=M9; clear M9; have V_f:=ownsRow_mono21 (b:=0) V2 (Nat.zero_le _)
   have hAo:AOK wy2 (A++B):=(AOK.below (AOK.mid (A:=A) (d:=d) (B:=B) (by rw [← h1]; exact hI2.A)).2 lb2)
   have V_q2:=ownsRow_bel V_q lb2; have OF:=Off.of_below (X:=R::(ob (some ⟨g,0,none⟩)++(gf L).map Prod.fst)) (lb_.trans (lb2.mono lb_.size)); clear V2 V_q lb2 lb_ CR2 hI2 hdk; refine xpL (.pointer (some ⟨R,0,none⟩)) ?_; refine xpL (.pointer (some ⟨R,2,none⟩)) ?_
   refine skipOpL rfl (storeAny (.slice sv2 ((A++B).length) cv2) R 2 56 _ _ rfl rfl rfl rfl rfl (M.isSome mS 2 (by simp)) (M.free mS 2 (by simp)) (by kernel_rfl)) ?_; simp only [Act.put]; replace M:=M.set 2 (by simp) (.slice sv2 ((A++B).length) cv2)
   replace V_f:=ownsRow_away V_f ((Off.refl [R] _).set (b:=R) mS 2 (.slice sv2 ((A++B).length) cv2)) (fun b_ hb_=>by obtain rfl:=xm1 hb_; exact M.awayB (fun p_ hp_=>by simp [hp_]))
   replace hAo:=hAo.off ((Off.refl [R] _).set (b:=R) mS 2 (.slice sv2 ((A++B).length) cv2)) (fun b_ hb_=>by obtain rfl:=xm1 hb_; exact fun hm_=>M.awayC (x:=gf L) (fun p_ hp_=>by simp [hp_]) (by rw [h1,gf_app,gf_cons]; rw [gf_app] at hm_; simp only [List.map_append,List.mem_append] at hm_ ⊢; rcases hm_ with h_ | h_ <;> simp [h_]))
   replace V_q2:=ownsRow_away V_q2 ((Off.refl [R] _).set (b:=R) mS 2 (.slice sv2 ((A++B).length) cv2)) (fun b_ hb_=>by obtain rfl:=xm1 hb_; exact M.awayB (fun p_ hp_=>by simp [hp_])); replace OF:=OF.trans (((Off.refl [R] _).set (b:=R) mS 2 (.slice sv2 ((A++B).length) cv2)).mono (fun b_ hb_=>by rw [xm1 hb_]; exact mS))
   generalize wy2.setCell ⟨R,2,none⟩ (.slice sv2 ((A++B).length) cv2)=w6 at M V_f hAo V_q2 OF ⊢
   replace M:Mm w0 ((R,[.int .i64 (dpo s),.int .i64 s.last,.slice sv2 ((A++B).length) cv2])::(obs sv2++(obs sq++(obs (some ⟨g,0,none⟩)++(gf L++l))))) w6:=M
   refine xT ?_; go_upto_region 7 with fail; refine wp_region_list ?_; refine xpL (.slice sq ((sall (d.Z.map Prod.fst)).length) cq) ?_; refine xpL (.slice sq ((sall (d.Z.map Prod.fst)).length) cq) ?_; refine xT ?_; have hE:=show Hid _ from (show (scl s id).L=dpl (A++B) by show sdel s.L id=_; rw [hI.lst,h1,sdel_mid h2 h3])
   have hO:=show Hid _ from (show sclO s id=(sall (d.Z.map Prod.fst)) by unfold sclO; rw [hI.lst,h5]; rfl)
   have HS:=show Hid _ from (show DIn w6 (scl s id) (A++B) sv2 cv2∧Mm w0 ((R,drc (scl s id) sv2 (A++B).length cv2)::(obs sv2++(gf (A++B)++(obs sq++l)))) w6∧_ from ⟨⟨V_f,hAo,hE.out⟩,by
    have e1:=M.perm (perm_dcl (obs sv2) (obs sq) (obs (some ⟨g,0,none⟩)) (gf L) l (R,drc (scl s id) sv2 (A++B).length cv2))
    refine e1.sub _ (List.cons_sublist_cons.2 ((List.Sublist.refl _).append (List.Sublist.append ?_ (by rw [List.append_assoc]; exact List.sublist_append_right _ _))))
    rw [h1,gf_app,gf_app,gf_cons]
    exact (List.Sublist.refl _).append (List.sublist_append_right _ _),OF⟩)
   have HN:=show Hid _ from NewW.ofOwn21 V_q2; clear M V_f hAo V_q2 OF hI h1 h2 h3 h4 h5 h6 hzz hLs; go_wp2; go_ret
   rw [hO.out]
   first | exact ⟨sq,cq,rfl,HN.out,A++B,sv2,cv2,HS.out⟩ | exact ⟨sq,cq,A++B,sv2,cv2,rfl,HN.out,HS.out⟩
end
end Go.Proofs.Ytmedjdadhmdpgaa
