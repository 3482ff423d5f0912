/- Texts of Ax Ao, joined. -/
import Derived.Maps.RangeWalk
import Derived.Test.YtmedjdadhmdpgaaP7SchedPlays
set_option maxRecDepth 20000
set_option maxHeartbeats 64000000
namespace Go.Proofs.Ytmedjdadhmdpgaa
open Go.RowKit
section
open Go.RowKit Go.MapKept Go.ChangeMaps Go.WideShapes
section
variable {P:Program} {o:Oper} {a:Act} {w w':World}
theorem rangeOp21 {t:TypeId} {v u:Value} (m:Operand) (ho:o.op=.range t m) (hm:a.eval m=v) (hr:(Instr.range t v).run P w=.ok u w'):(execOp a.eval o).run P w=.ok (.value u) w':=by
 simp [execOp,ho,hm,hr,Result.andThen]
theorem nextOp21 {v u:Value} (it:Operand) (ho:o.op=.next it false) (hit:a.eval it=v) (hr:(Instr.next v false o.type).run P w=.ok u w'):(execOp a.eval o).run P w=.ok (.value u) w':=by
 simp [execOp,ho,hit,hr,Result.andThen]
theorem entryOp21 {v u:Value} (it:Operand) (ho:o.op=.entry it) (hit:a.eval it=v) (hr:(Instr.entry v).run P w=.ok u w'):(execOp a.eval o).run P w=.ok (.value u) w':=by
 simp [execOp,ho,hit,hr,Result.andThen]
theorem rng_off21 {k:TypeId} {R:Value→Option (DataW Value × List MemPlace)} {b r n:Nat} {D:DataW Value} {left:Lit→Bool} {cnt:Nat} {X:List Nat} (h:w.ranges P k R b r n D left cnt) (o:Off X w w') (hb:b∉X) (hr:r∉X):w'.ranges P k R b r n D left cnt:=by
 have h1:=h.owns.lt; have h2:=h.lt
 obtain ⟨es,clock,since,seen,c0,hb',F,hs,hD,hr',rest⟩:=h
 exact ⟨es,clock,since,seen,c0,(o.blk b h1 hb).trans hb',F,hs,hD,(o.blk r h2 hr).trans hr',rest⟩
end
theorem Mm.both21 {w0 w w':World} {a b:List (Nat × List Value)} (M:Mm w a w') (M0:Mm w0 b w):Mm w0 (a++b) w':=by
 have h:=M0.call M.below
 refine ⟨fun p hp=>?_,List.pairwise_append.2 ⟨M.apart,M0.apart,fun p hp q hq e=>?_⟩,h.below⟩
 · rcases List.mem_append.1 hp with hp | hp
   · exact ⟨(M.rows p hp).1,xnT M0.below.size (M.rows p hp).2.1,(M.rows p hp).2.2⟩
   · exact h.rows p hp
 · have h1:=(M.rows p hp).2.1
   have h2:=(M0.rows q hq).2.2
   omega
def lfo (left:Lit→Bool) (n:Nat):Bool:=left (.int .i64 (n:Int))
def pcp (g:Nat→Nat × Option Addr × Nat) (e:Nat × Dfl):Nat × Dfl:=((g e.2.n).1,{ e.2 with sr:=(g e.2.n).2.1,cr:=(g e.2.n).2.2 })
def pcs (g:Nat→Nat × Option Addr × Nat) (lf:Nat→Bool) (E:Pes):Pes:=(E.filter fun e=>!lf e.2.n).map (pcp g)
def pup (g:Nat→Nat × Option Addr × Nat) (n:Nat) (v:Nat × Option Addr × Nat):Nat→Nat × Option Addr × Nat:=fun y=>if y=n then v else g y
theorem pcs_none {g:Nat→Nat × Option Addr × Nat} {lf:Nat→Bool} {E:Pes} (h:∀ e∈E,lf e.2.n=true):pcs g lf E=[]:=by
 unfold pcs
 rw [List.filter_eq_nil_iff.2 fun e he=>by rw [h e he]; decide]
 rfl
theorem pcs_all {g:Nat→Nat × Option Addr × Nat} {lf:Nat→Bool} {E:Pes} (h:∀ e∈E,lf e.2.n=false):pcs g lf E=E.map (pcp g):=by
 unfold pcs
 rw [List.filter_eq_self.2 fun e he=>by rw [h e he]; decide]
theorem pcs_app (g:Nat→Nat × Option Addr × Nat) (lf:Nat→Bool) (A B:Pes):pcs g lf (A++B)=pcs g lf A++pcs g lf B:=by
 unfold pcs
 rw [List.filter_append,List.map_append]
theorem pcs_congr {g g':Nat→Nat × Option Addr × Nat} {lf lf':Nat→Bool} {E:Pes} (h:∀ e∈E,lf e.2.n=lf' e.2.n∧g e.2.n=g' e.2.n):pcs g lf E=pcs g' lf' E:=by
 unfold pcs
 rw [List.filter_congr fun e he=>by rw [(h e he).1]]
 refine List.map_congr_left fun e he=>?_
 unfold pcp
 rw [(h e (List.mem_filter.1 he).1).2]
theorem pcs_old {g:Nat→Nat × Option Addr × Nat} {lf:Nat→Bool} {A F:Pes} {e:Nat × Dfl} (h:lf e.2.n=true):pcs g lf (A++e::F)=pcs g lf A++pcs g lf F:=by
 rw [pcs_app]
 congr 1
 unfold pcs
 rw [List.filter_cons,h]
 rfl
theorem pcs_new {g:Nat→Nat × Option Addr × Nat} {lf lf':Nat→Bool} {A F:Pes} {e:Nat × Dfl} {v:Nat × Option Addr × Nat} (hn:∀ x∈A++F,x.2.n≠e.2.n) (h:lf' e.2.n=false) (h2:∀ x∈A++F,lf' x.2.n=lf x.2.n):pcs (pup g e.2.n v) lf' (A++e::F)=pcs g lf A++(v.1,{ e.2 with sr:=v.2.1,cr:=v.2.2 })::pcs g lf F:=by
 have e1:pcs (pup g e.2.n v) lf' (e::F)=pcp (pup g e.2.n v) e::pcs (pup g e.2.n v) lf' F:=by
  unfold pcs
  rw [List.filter_cons,h]
  rfl
 have e2:∀ X:Pes,(∀ x∈X,x∈A++F)→pcs (pup g e.2.n v) lf' X=pcs g lf X:=fun X hX=>pcs_congr fun x hx=>⟨h2 x (hX x hx),if_neg (hn x (hX x hx))⟩
 rw [pcs_app,e1,e2 A (fun x hx=>List.mem_append_left _ hx),e2 F (fun x hx=>List.mem_append_right _ hx)]
 have e3:pcp (pup g e.2.n v) e=(v.1,{ e.2 with sr:=v.2.1,cr:=v.2.2 }):=by
  unfold pcp pup
  rw [if_pos rfl]
 rw [e3]
theorem pcs_from {g:Nat→Nat × Option Addr × Nat} {lf:Nat→Bool} {E:Pes} {x:Nat × Dfl} (h:x∈pcs g lf E):∃ e∈E,x=pcp g e:=by
 unfold pcs at h
 obtain ⟨e,he,rfl⟩:=List.mem_map.1 h
 exact ⟨e,(List.mem_filter.1 he).1,rfl⟩
theorem plk_ins {A F:Pes} {B:Nat} {d:Dfl} (hA:∀ e∈A,e.2.n≠d.n) (y:Int):plk (A++(B,d)::F) y=if ((d.n:Nat):Int)=y then some B else plk (A++F) y:=by
 induction A with
 | nil=>rfl
 | cons e A ih =>
   show (if ((e.2.n:Nat):Int)=y then some e.1 else plk (A++(B,d)::F) y)=if ((d.n:Nat):Int)=y then some B else if ((e.2.n:Nat):Int)=y then some e.1 else plk (A++F) y
   rw [ih fun x hx=>hA x (mT _ hx)]
   have:=hA e mS
   by_cases c:((e.2.n:Nat):Int)=y
   · rw [if_pos c,if_neg (by omega),if_pos c]
   · rw [if_neg c,if_neg c]
theorem pmf_ins {A F:Pes} {B:Nat} {d:Dfl} (hA:∀ e∈A,e.2.n≠d.n) (y:Int):iput (pmf (A++F)) ((d.n:Nat):Int) (.pointer (some ⟨B,0,none⟩)) y=pmf (A++(B,d)::F) y:=by
 unfold pmf
 rw [plk_ins hA]
 by_cases c:y=((d.n:Nat):Int)
 · rw [c,iput_same,if_pos rfl]
   rfl
 · rw [iput_other c,if_neg (fun e=>c e.symm)]
theorem pcs_dpl (g:Nat→Nat × Option Addr × Nat) (E:Pes):dpl (pfl (E.map (pcp g)))=dpl (pfl E):=by
 unfold dpl pfl
 rw [List.map_map,List.map_map,List.map_map]
 rfl
theorem PIn.num21 {w:World} {s:Sch} {p:Int} {m:Option Nat} {E:Pes} {C:List (Nat × List Value)} (h:PIn w s p m E C) (hw:SchW s):∀ e∈E,i64 ((e.2.n:Nat):Int):=fun e he=>by
 have h1:(e.2.n,e.2.f)∈s.L:=by
  rw [← h.lst]
  exact List.mem_map.2 ⟨e.2,List.mem_map.2 ⟨e,he,rfl⟩,rfl⟩
 have:=hw.i _ h1
 simp only at this
 unfold i64
 omega
theorem PIn.nd21 {w:World} {s:Sch} {p:Int} {m:Option Nat} {E:Pes} {C:List (Nat × List Value)} (h:PIn w s p m E C) (hw:SchW s):(E.map fun e=>e.2.n).Nodup:=by
 have h1:=hw.d
 rw [← h.lst] at h1
 unfold dpl pfl at h1
 rw [List.map_map,List.map_map] at h1
 exact h1
theorem nd_mid {A F:Pes} {e:Nat × Dfl} (h:((A++e::F).map fun x=>x.2.n).Nodup):∀ x∈A++F,x.2.n≠e.2.n:=fun x hx c=>by
 rw [List.map_append,List.map_cons,List.nodup_append] at h
 rcases List.mem_append.1 hx with h1 | h1
 · exact h.2.2 x.2.n (List.mem_map.2 ⟨x,h1,rfl⟩) e.2.n mS c
 · exact (List.nodup_cons.1 h.2.1).1 (c ▸ List.mem_map.2 ⟨x,h1,rfl⟩)
theorem held_inv {v:Value} {y:DataW Value × List MemPlace} (h:heldR v=some y):y=(.held v,[]):=by
 unfold heldR at h
 injection h with h
 exact h.symm
theorem strike_is {left:Lit→Bool} {x:Int}:(fun z:Lit=>left z&&!z.sameKey (.int .i64 x)) (.int .i64 x)=false:=by
 show (left (.int .i64 x)&&!(Lit.int .i64 x).sameKey (.int .i64 x))=false
 rw [WideAt.sameKey_self (show WideAt.IsKeyLit (.int .i64 x) from trivial),Bool.not_true,Bool.and_false]
theorem strike_not {left:Lit→Bool} {x y:Int} (h:y≠x):(fun z:Lit=>left z&&!z.sameKey (.int .i64 x)) (.int .i64 y)=left (.int .i64 y):=by
 show (left (.int .i64 y)&&!(Lit.int .i64 y).sameKey (.int .i64 x))=_
 rw [Maps.sameKey_ne (litNe h),Bool.not_false,Bool.and_true]
theorem vcln21_any (w0 w:World) (R:Nat) (p:Int) (m:Option Nat) (E:Pes) (C l:List (Nat × List Value)) (s:Sch) (hI:PIn w s p m E C) (hw:SchW s) (hsz_:ssz s<1000000000) (M:Mm w0 (pow R s p m E++(C++l)) w) :
 Calls Try.prog 25 #[.pointer (some ⟨R,0,none⟩)] w fun e w'=>∃ Q m' E',e=.returned (.pointer (some ⟨Q,0,none⟩))∧PIn w' s p m' E' C∧Mm w0 (pow Q s p m' E'++(pow R s p m E++(C++l))) w'∧Below w.heap.size w w':=by
 cases m with
 | none =>
   have MR:Mm w0 ((R,prc s p (none))::((mbk (none)++gp E)++(C++l))) w:=M
   have M0:=show Hid _ from M; clear M; have M:=Mm.init w
   go_enter Try.func25,Try.ntmps25
   go_upto_region 0 with fail; refine wp_region_list ?_; refine xpL (.pointer none) ?_; refine xT ?_; go_upto_region 1 with fail; refine wp_region_list ?_; refine xpL (.pointer (some ⟨R,0,none⟩)) ?_; refine xpL (.pointer (some ⟨R,0,none⟩)) ?_
   refine xaL (.agg #[.int .i64 p,.int .u64 (s.last+1),.map none]) (loadN 55 _ ⟨R,0,none⟩ [.int .i64 p,.int .u64 (s.last+1),.map none] rfl rfl (fun _=>by kernel_rfl) (fun _=>by kernel_rfl) (fun j v hv=>cell21 M.below (MR.rangeAt mS j v hv))) ?_
   refine actL (w':=w.alloc (.cells #[.int .i64 0,.int .u64 0,.map none] 55)) (.pointer (some ⟨w.heap.size,0,none⟩)) rfl (by kernel_rfl) ?_; simp only [aP,lI,l0,lS]
   have hB_B1:w.heap.size≤w.heap.size:=M.below.size
   replace M:=M.box #[.int .i64 0,.int .u64 0,.map none] 55 w.heap.size rfl; generalize w.alloc (.cells #[.int .i64 0,.int .u64 0,.map none] 55)=w1 at M  ⊢; generalize eB:w.heap.size=B1 at M hB_B1  ⊢
   have hE_B1:w.heap.size≤B1:=Nat.le_of_eq eB
   have hF_B1:B1≤w.heap.size:=Nat.le_of_eq eB.symm
   clear eB
   replace M:Mm w ((B1,[.int .i64 0,.int .u64 0,.map none])::([]:List (Nat × List Value))) w1:=M
   refine skipOpL rfl (storeP [.int .i64 p,.int .u64 (s.last+1),.map none] B1 0 55 _ _ rfl rfl rfl (M.thereP mS 0 3 (Nat.le_of_ble_eq_true rfl)) (by kernel_rfl) (List.all_eq_true.1 (rfl:([.int .i64 p,.int .u64 (s.last+1),.map none]:List Value).all (fun u=>u.oneCell')=true))) ?_; simp only [Act.put]
   replace M:=M.setPart [.int .i64 p,.int .u64 (s.last+1),.map none] 0 (Nat.le_of_ble_eq_true rfl); generalize w1.setCells B1 0 [.int .i64 p,.int .u64 (s.last+1),.map none]=w2 at M  ⊢
   replace M:Mm w ((B1,[.int .i64 p,.int .u64 (s.last+1),.map none])::([]:List (Nat × List Value))) w2:=M
   refine xT ?_; go_upto_region 2 with fail; refine wp_region_list ?_; have hlb:=(Below.refl w2.heap.size w2).alloc (xnR _) (.map #[] 0); refine actL (w':=w2.alloc (.map #[] 0)) (.map (some w2.heap.size)) rfl (by kernel_rfl) ?_; simp only [aP,lI,l0,lS]; have hB_:=M.below.size; have hQl:=M.lt mS; have I_:=IM.made Try.prog 3 w2; replace M:=M.boxM21; clear hlb
   generalize w2.alloc (.map #[] 0)=w3 at M I_  ⊢; generalize eB_:w2.heap.size=N at M I_ ⊢
   have hE_N:w.heap.size≤N:=by rw [← eB_]; exact hB_
   have hQN:B1<N:=by rw [← eB_]; exact hQl
   clear hB_ eB_ hQl
   replace M:Mm w ((N,[])::(B1,[.int .i64 p,.int .u64 (s.last+1),.map none])::([]:List (Nat × List Value))) w3:=M
   refine xpL (.pointer (some ⟨B1,2,none⟩)) ?_; replace M:=M.swap; refine skipOpL rfl (storeAny (.map (some N)) B1 2 53 _ _ rfl rfl rfl rfl rfl (M.isSome mS 2 (by simp)) (M.free mS 2 (by simp)) (by kernel_rfl)) ?_; simp only [Act.put]; replace M:=M.set 2 (by simp) (.map (some N))
   replace I_:=I_.off ((Off.refl [B1] _).set (b:=B1) mS 2 (.map (some N))) (fun hm_=>by have:=xm1 hm_; omega); generalize w3.setCell ⟨B1,2,none⟩ (.map (some N))=w4 at M I_ ⊢
   replace M:Mm w ((B1,[.int .i64 p,.int .u64 (s.last+1),.map (some N)])::(N,[])::([]:List (Nat × List Value))) w4:=M
   refine xT ?_; go_upto_region 3 with fail; refine wp_region_list ?_; refine xpL (.pointer (some ⟨R,0,none⟩)) ?_; refine xpL (.pointer (some ⟨R,0,none⟩)) ?_; refine xpL (.pointer (some ⟨R,2,none⟩)) ?_; refine xaL (.map none) (load1 53 _ ⟨R,2,none⟩ _ rfl rfl (fun _=>by kernel_rfl) (cell21 M.below (MR.get mS 2 _ rfl))) ?_
   have hlb:=(Below.refl w4.heap.size w4).alloc (xnR _) (.mapIter none 0 #[] 0); have hnx:=fun ty=>run_next_nilMap (P:=Try.prog) w4 ty 0 0 #[]; refine actL (w':=w4.alloc (.mapIter none 0 #[] 0)) (.pointer (some ⟨w4.heap.size,0,none⟩)) rfl (rangeOp21 _ rfl rfl (run_range_nilMap w4 _ _ _ Try.underlying53)) ?_; simp only [aP,lI,l0,lS]; replace I_:=I_.bel hlb; replace M:=M.call hlb
   clear hlb; generalize w4.alloc (.mapIter none 0 #[] 0)=w5 at M hnx I_ ⊢; generalize w4.heap.size=it at hnx ⊢; refine xT ?_
   have hE0:E=[]:=by
    cases E with
    | nil=>rfl
    | cons e E=>have h_:=hI.map ((e.2.n:Nat):Int); unfold pmf at h_; rw [show plk (e::E) ((e.2.n:Nat):Int)=some e.1 from if_pos rfl] at h_; cases h_
   have HI:=show Hid _ from (And.intro M I_); clear M I_; go_wp2
   go_loopw [4] (fun _ w'=>w5=w') (fun _ _=>0)
   case atStart=>rfl
   case round =>
    obtain rfl:=hrel
    obtain ⟨M,I_⟩:=HI.out
    go_upto_region 4 with fail; refine wp_region_list ?_; refine xaL _ (nextOp21 _ rfl rfl (hnx _)) ?_; refine xpL (.bool false) ?_; refine xT ?_; go_upto_region 9 with fail; refine wp_region_list ?_; refine xpL (.pointer (some ⟨B1,0,none⟩)) ?_; refine xT ?_
    have HS:=show Hid _ from (show PIn w5 s p (some N) [] C∧Mm w0 (pow B1 s p (some N) []++(pow R s p none E++(C++l))) w5∧Below w.heap.size w w5 from ⟨⟨hI.pol,IM.congr I_ (fun _ _=>rfl),(by rw [hE0] at hI; exact hI.lst),(fun _ h=>by cases h),(fun _ h=>by cases h)⟩,Mm.both21 M M0.out,M.below⟩); clear M I_ M0 MR hI; go_wp2; go_ret
    first | exact ⟨B1,rfl,some N,[],HS.out⟩ | exact ⟨B1,some N,[],rfl,HS.out⟩
 | some b =>
   have MR:Mm w0 ((R,prc s p (some b))::((mbk (some b)++gp E)++(C++l))) w:=M
   have M0:=show Hid _ from M; clear M; have M:=Mm.init w
   go_enter Try.func25,Try.ntmps25
   go_upto_region 0 with fail; refine wp_region_list ?_; refine xpL (.pointer none) ?_; refine xT ?_; go_upto_region 1 with fail; refine wp_region_list ?_; refine xpL (.pointer (some ⟨R,0,none⟩)) ?_; refine xpL (.pointer (some ⟨R,0,none⟩)) ?_
   refine xaL (.agg #[.int .i64 p,.int .u64 (s.last+1),.map (some b)]) (loadN 55 _ ⟨R,0,none⟩ [.int .i64 p,.int .u64 (s.last+1),.map (some b)] rfl rfl (fun _=>by kernel_rfl) (fun _=>by kernel_rfl) (fun j v hv=>cell21 M.below (MR.rangeAt mS j v hv))) ?_
   refine actL (w':=w.alloc (.cells #[.int .i64 0,.int .u64 0,.map none] 55)) (.pointer (some ⟨w.heap.size,0,none⟩)) rfl (by kernel_rfl) ?_; simp only [aP,lI,l0,lS]
   have hB_B1:w.heap.size≤w.heap.size:=M.below.size
   replace M:=M.box #[.int .i64 0,.int .u64 0,.map none] 55 w.heap.size rfl; generalize w.alloc (.cells #[.int .i64 0,.int .u64 0,.map none] 55)=w1 at M  ⊢; generalize eB:w.heap.size=B1 at M hB_B1  ⊢
   have hE_B1:w.heap.size≤B1:=Nat.le_of_eq eB
   have hF_B1:B1≤w.heap.size:=Nat.le_of_eq eB.symm
   clear eB
   replace M:Mm w ((B1,[.int .i64 0,.int .u64 0,.map none])::([]:List (Nat × List Value))) w1:=M
   refine skipOpL rfl (storeP [.int .i64 p,.int .u64 (s.last+1),.map (some b)] B1 0 55 _ _ rfl rfl rfl (M.thereP mS 0 3 (Nat.le_of_ble_eq_true rfl)) (by kernel_rfl) (List.all_eq_true.1 (rfl:([.int .i64 p,.int .u64 (s.last+1),.map (some b)]:List Value).all (fun u=>u.oneCell')=true))) ?_; simp only [Act.put]
   replace M:=M.setPart [.int .i64 p,.int .u64 (s.last+1),.map (some b)] 0 (Nat.le_of_ble_eq_true rfl); generalize w1.setCells B1 0 [.int .i64 p,.int .u64 (s.last+1),.map (some b)]=w2 at M  ⊢
   replace M:Mm w ((B1,[.int .i64 p,.int .u64 (s.last+1),.map (some b)])::([]:List (Nat × List Value))) w2:=M
   refine xT ?_; go_upto_region 2 with fail; refine wp_region_list ?_; have hlb:=(Below.refl w2.heap.size w2).alloc (xnR _) (.map #[] 0); refine actL (w':=w2.alloc (.map #[] 0)) (.map (some w2.heap.size)) rfl (by kernel_rfl) ?_; simp only [aP,lI,l0,lS]; have hB_:=M.below.size; have hQl:=M.lt mS; have I_:=IM.made Try.prog 3 w2; replace M:=M.boxM21; clear hlb
   generalize w2.alloc (.map #[] 0)=w3 at M I_  ⊢; generalize eB_:w2.heap.size=N at M I_ ⊢
   have hE_N:w.heap.size≤N:=by rw [← eB_]; exact hB_
   have hQN:B1<N:=by rw [← eB_]; exact hQl
   clear hB_ eB_ hQl
   replace M:Mm w ((N,[])::(B1,[.int .i64 p,.int .u64 (s.last+1),.map (some b)])::([]:List (Nat × List Value))) w3:=M
   refine xpL (.pointer (some ⟨B1,2,none⟩)) ?_; replace M:=M.swap; refine skipOpL rfl (storeAny (.map (some N)) B1 2 53 _ _ rfl rfl rfl rfl rfl (M.isSome mS 2 (by simp)) (M.free mS 2 (by simp)) (by kernel_rfl)) ?_; simp only [Act.put]; replace M:=M.set 2 (by simp) (.map (some N))
   replace I_:=I_.off ((Off.refl [B1] _).set (b:=B1) mS 2 (.map (some N))) (fun hm_=>by have:=xm1 hm_; omega); generalize w3.setCell ⟨B1,2,none⟩ (.map (some N))=w4 at M I_ ⊢
   replace M:Mm w ((B1,[.int .i64 p,.int .u64 (s.last+1),.map (some N)])::(N,[])::([]:List (Nat × List Value))) w4:=M
   refine xT ?_; go_upto_region 3 with fail; refine wp_region_list ?_; refine xpL (.pointer (some ⟨R,0,none⟩)) ?_; refine xpL (.pointer (some ⟨R,0,none⟩)) ?_; refine xpL (.pointer (some ⟨R,2,none⟩)) ?_; refine xaL (.map (some b)) (load1 53 _ ⟨R,2,none⟩ _ rfl rfl (fun _=>by kernel_rfl) (cell21 M.below (MR.get mS 2 _ rfl))) ?_
   obtain ⟨D,hown,hD⟩:=IM.bel (show IM Try.prog 3 w b E.length (pmf E) from hI.map) M.below
   obtain ⟨w5,hr,rng,hgr,hsz⟩:=hown.range (Maps.int_keyed uk21) Try.underlying53
   refine actL (w':=w5) _ rfl (rangeOp21 _ rfl rfl hr) ?_; simp only [aP,lI,l0,lS]
   have hlb:Below w4.heap.size w4 w5:=(Below.refl _ _).grown hgr (xnR _) (fun _ h=>by cases h)
   replace I_:=I_.bel hlb; have hB_:=M.below.size; have hlQ:=M.lts21 (a:=[]) (x:=N) (by simp)
   have M':=(M.call hlb).addB (b:=w4.heap.size) M.below.size (by omega) (fun q hq e=>by have:=(M.rows q hq).2.2; omega)
   clear M hr hgr hlb hown; have M:=M'; clear M'; generalize eB_:w4.heap.size=it at M rng ⊢
   have hE_it:w.heap.size≤it:=by rw [← eB_]; exact hB_
   have hNit:N<it:=by rw [← eB_]; exact hlQ
   clear hB_ hlQ eB_ hsz
   replace M:Mm w ((it,[])::(B1,[.int .i64 p,.int .u64 (s.last+1),.map (some N)])::(N,[])::([]:List (Nat × List Value))) w5:=M
   refine xT ?_; have hi64:=hI.num21 hw; have hnd:=hI.nd21 hw
   have hbw:b<w.heap.size:=MR.lts21 (a:=[_]) (by simp)
   have hp0:pcs (fun _=>(0,none,0)) (lfo (Maps.has D)) E=[]:=pcs_none fun e he=>by
    unfold lfo
    rw [(hD _ (hi64 e he)).1]
    rcases plk_cases E ((e.2.n:Nat):Int) with ⟨h1,h2⟩ | ⟨A,B,d,F,_,_,_,h4,_⟩
    · exfalso
      rcases sat_cases (pfl E) ((e.2.n:Nat):Int) with ⟨_,_,h3⟩ | ⟨A2,d2,B2,_,_,_,_,h5⟩
      · exact h3 e.2 (List.mem_map.2 ⟨e,he,rfl⟩) rfl
      · rw [h5] at h2; cases h2
    · unfold pmf; rw [h4]; rfl
   have HI:=show Hid _ from (show ∃ g left cnt,w5.ranges Try.prog 3 heldR b it E.length D left cnt∧IM Try.prog 3 w5 N (pcs g (lfo left) E).length (pmf (pcs g (lfo left) E))∧(∀ e∈(pcs g (lfo left) E),w5.ownsRow 0 72 3 (.slice e.2.sr e.2.Z.length e.2.cr) e.2.Z.length (rcs e.2.Z))∧Mm w ((it,[])::(B1,[.int .i64 p,.int .u64 (s.last+1),.map (some N)])::(N,[])::gp (pcs g (lfo left) E)) w5 from by
    refine ⟨fun _=>(0,none,0),Maps.has D,Maps.size D,rng,?_,?_,?_⟩
    · rw [hp0]; exact I_.congr (fun _ _=>rfl)
    · rw [hp0]; exact fun _ h=>by cases h
    · rw [hp0]; exact M)
   clear M I_ rng hp0; go_wp2
   go_loopw [4] (fun _ w'=>∃ g left cnt,w'.ranges Try.prog 3 heldR b it E.length D left cnt∧IM Try.prog 3 w' N (pcs g (lfo left) E).length (pmf (pcs g (lfo left) E))∧(∀ e∈(pcs g (lfo left) E),w'.ownsRow 0 72 3 (.slice e.2.sr e.2.Z.length e.2.cr) e.2.Z.length (rcs e.2.Z))∧Mm w ((it,[])::(B1,[.int .i64 p,.int .u64 (s.last+1),.map (some N)])::(N,[])::gp (pcs g (lfo left) E)) w') (fun _ w'=>w'.rangeLeft b it)
   case atStart=>exact HI.out
   case round =>
    clear HI
    obtain ⟨g,left,cnt,rng,I_,PV_,M⟩:=hrel
    have hle:=rng.left_eq
    rcases rng.next (Maps.int_keyed uk21) 0 with ⟨h0,hl,hr⟩ | ⟨key,v,kl,y,w1,cnt',hkey,hlk,hv,hat,hr,rng1,hlt,hgr,hsz1,hen⟩
    · go_upto_region 4 with fail
      refine wp_region_list ?_; refine xaL _ (nextOp21 _ rfl rfl hr) ?_; refine xpL (.bool false) ?_; refine xT ?_; go_upto_region 9 with fail; refine wp_region_list ?_; refine xpL (.pointer (some ⟨B1,0,none⟩)) ?_; refine xT ?_
      have hpa:(pcs g (lfo left) E)=E.map (pcp g):=pcs_all fun e _=>hl _
      rw [hpa] at I_ PV_ M
      have hIw:=hI.below M.below
      have HS:=show Hid _ from (show PIn wr s p (some N) (E.map (pcp g)) C∧Mm w0 (pow B1 s p (some N) (E.map (pcp g))++(pow R s p (some b) E++(C++l))) wr∧Below w.heap.size w wr from ⟨⟨hI.pol,NS.keys (m:=some N) I_,by rw [pcs_dpl]; exact hI.lst,fun e he=>by
       obtain ⟨e0,he0,rfl⟩:=List.mem_map.1 he
       exact ⟨PV_ _ he,(hIw.ok e0 he0).K⟩,fun e he=>by
       obtain ⟨e0,he0,rfl⟩:=List.mem_map.1 he
       exact hI.ck e0 he0⟩,Mm.both21 M.tail M0.out,M.below⟩)
      clear M I_ M0 MR hI hIw PV_ rng; go_wp2; go_ret
      first | exact ⟨B1,rfl,some N,_,HS.out⟩ | exact ⟨B1,some N,_,rfl,HS.out⟩
    · obtain ⟨x,rfl,rfl,hwf⟩:=Maps.keyOf_int_inv uk21 hkey
      obtain rfl:=held_inv hv
      have hx:i64 x:=by unfold i64; simp [Lit.wf,IntKind.min,IntKind.max,IntKind.signed,IntKind.bits] at hwf; omega
      have hfx:pmf E x=some v:=by
       have h1:=(hD x hx).2 (.held (.bool true))
       rw [hat] at h1
       cases hpx:pmf E x with
       | none =>
         have h2:=(hD x hx).2 (.nil)
         rw [hat,hpx] at h2
         cases h2
       | some u=>rw [hpx] at h1; injection h1 with h1; rw [h1]
      rcases plk_cases E x with ⟨h1,_⟩ | ⟨A,P,d,F,hE,hdx,hA,hP,_⟩
      · unfold pmf at hfx; rw [h1] at hfx; cases hfx
      unfold pmf at hfx
      rw [hP] at hfx
      obtain rfl:.pointer (some ⟨P,0,none⟩)=v:=Option.some.inj hfx
      obtain rfl:=hdx
      clear hfx hkey hv hat hwf; have hdi:=hx
      have hmE:(P,d)∈E:=by rw [hE]; simp
      have hPm:(P,ppc d)∈(mbk (some b)++gp E)++(C++l):=List.mem_append_left _ (List.mem_append_right _ (gp_mem hmE mS))
      have hnm:∀ x∈A++F,x.2.n≠d.n:=nd_mid (e:=(P,d)) (by rw [← hE]; exact hnd)
      have hlf:lfo left d.n=true:=hlk
      have hNlen:(pcs g (lfo left) E).length<maxLen:=by
       have h1:(pcs g (lfo left) E).length≤E.length:=by unfold pcs; rw [List.length_map]; exact List.length_filter_le _ _
       have h2:=hI.len
       unfold maxLen
       omega
      have hzl:d.Z.length<1000000000:=by
       have h1:=sgf_len (s:=s) ((d.n:Nat):Int)
       have h2:sgf s ((d.n:Nat):Int)=d.f:=by
        rcases plk_cases E ((d.n:Nat):Int) with ⟨h1,_⟩ | ⟨A',P',d',F',hE',hd',hA',hP',hs'⟩
        · rw [hP] at h1; cases h1
        · have e1:d'=d:=by
           have h3:(P',d')∈E:=by rw [hE']; simp
           rw [hE] at h3
           rcases List.mem_append.1 h3 with h | h
           · exact absurd hd' (by have:=hA d' (List.mem_map.2 ⟨_,h,rfl⟩); exact this)
           · rcases xc1 h with h | h
             · injection h with _ h
             · exact absurd (by show d'.n=d.n; omega) (hnm (P',d') (List.mem_append_right _ h))
          unfold sgf
          rw [← hI.lst,hs',e1]
          rfl
       rw [h2] at h1
       have h3:d.f.rs.length=d.Z.length:=List.length_map ..
       omega
      have hl_it:it<w1.heap.size:=by rw [hsz1]; exact M.lt mS
      have hl_Q:B1<w1.heap.size:=by rw [hsz1]; exact M.lt (mT _ mS)
      have hl_N:N<w1.heap.size:=by rw [hsz1]; exact M.lt (mI 2 rfl)
      have hl_b:w.heap.size≤w1.heap.size:=by rw [hsz1]; exact M.below.size
      go_upto_region 4 with fail; refine wp_region_list ?_; refine actL (w':=w1) _ rfl (nextOp21 _ rfl rfl hr) ?_; simp only [aP,lI,l0,lS]; replace M:=M.touch hgr; have o1_:=Off.touched hgr; replace I_:=I_.off o1_ (fun hm_=>by have:=xm1 hm_; omega)
      replace PV_:∀ e∈pcs g (lfo left) E,_:=fun e_ he_=>ownsRow_away (PV_ e_ he_) o1_ (fun b_ hb_ hm_=>M.awayC (x:=gp (pcs g (lfo left) E)) (fun p_ hp_=>by simp [hp_]) (xm1 hb_ ▸ mem_bl (q:=(b_,[])) (gp_mem he_ (mT _ (List.mem_map.2 ⟨b_,hm_,rfl⟩)))))
      clear o1_ hr hgr rng; have rng:=rng1; clear rng1; refine xpL (.bool true) ?_; refine xT ?_; go_upto_region 5 with fail; refine wp_region_list ?_; refine xaL _ (entryOp21 _ rfl rfl hen) ?_; clear hen; refine xpL (.int .i64 ((d.n:Nat):Int)) ?_; refine xpL (.pointer (some ⟨P,0,none⟩)) ?_; refine xpL (.int .i64 ((d.n:Nat):Int)) ?_; refine xpL (.pointer (some ⟨P,0,none⟩)) ?_
      refine xT ?_; go_upto_region 6 with fail; refine wp_region_list ?_; refine xpL (.pointer (some ⟨P,0,none⟩)) ?_; refine xpL (.pointer (some ⟨P,0,none⟩)) ?_
      refine xaL (.agg #[.int .i64 ((d.win:Nat):Int),.int .i64 (pnx d.top),.slice d.sr d.Z.length d.cr]) (loadN 63 _ ⟨P,0,none⟩ [.int .i64 ((d.win:Nat):Int),.int .i64 (pnx d.top),.slice d.sr d.Z.length d.cr] rfl rfl (fun _=>by kernel_rfl) (fun _=>by kernel_rfl) (fun j v hv=>cell21 M.below (MR.rangeAt (mT _ hPm) j v hv))) ?_
      refine actL (w':=w1.alloc (.cells #[.int .i64 0,.int .i64 0,.slice none 0 0] 63)) (.pointer (some ⟨w1.heap.size,0,none⟩)) rfl (by kernel_rfl) ?_; simp only [aP,lI,l0,lS]; have hlb:=(Below.refl w1.heap.size w1).alloc (xnR _) (.cells #[.int .i64 0,.int .i64 0,.slice none 0 0] 63); replace I_:=I_.bel hlb; replace PV_:=fun e_ he_=>ownsRow_bel (PV_ e_ he_) hlb
      replace rng:=rng_off21 rng (Off.of_below (X:=[]) hlb) (fun h_=>by cases h_) (fun h_=>by cases h_); clear hlb
      have hB_B6:w.heap.size≤w1.heap.size:=M.below.size
      replace M:=M.box #[.int .i64 0,.int .i64 0,.slice none 0 0] 63 w1.heap.size rfl; generalize w1.alloc (.cells #[.int .i64 0,.int .i64 0,.slice none 0 0] 63)=w6 at M I_ PV_ rng ⊢; generalize eB:w1.heap.size=B6 at M hB_B6  ⊢
      have hE_B6:w1.heap.size≤B6:=Nat.le_of_eq eB
      have hF_B6:B6≤w1.heap.size:=Nat.le_of_eq eB.symm
      clear eB
      replace M:Mm w ((B6,[.int .i64 0,.int .i64 0,.slice none 0 0])::(it,[])::(B1,[.int .i64 p,.int .u64 (s.last+1),.map (some N)])::(N,[])::(gp (pcs g (lfo left) E))) w6:=M
      refine skipOpL rfl (storeP [.int .i64 ((d.win:Nat):Int),.int .i64 (pnx d.top),.slice d.sr d.Z.length d.cr] B6 0 63 _ _ rfl rfl rfl (M.thereP mS 0 3 (Nat.le_of_ble_eq_true rfl)) (by kernel_rfl) (List.all_eq_true.1 (rfl:([.int .i64 ((d.win:Nat):Int),.int .i64 (pnx d.top),.slice d.sr d.Z.length d.cr]:List Value).all (fun u=>u.oneCell')=true))) ?_; simp only [Act.put]
      replace M:=M.setPart [.int .i64 ((d.win:Nat):Int),.int .i64 (pnx d.top),.slice d.sr d.Z.length d.cr] 0 (Nat.le_of_ble_eq_true rfl); replace I_:=I_.off ((Off.refl [B6] _).setAll (b:=B6) mS 0 [.int .i64 ((d.win:Nat):Int),.int .i64 (pnx d.top),.slice d.sr d.Z.length d.cr]) (fun hm_=>by have:=xm1 hm_; omega)
      replace PV_:=fun e_ he_=>ownsRow_away (PV_ e_ he_) ((Off.refl [B6] _).setAll (b:=B6) mS 0 [.int .i64 ((d.win:Nat):Int),.int .i64 (pnx d.top),.slice d.sr d.Z.length d.cr]) (fun b_ hb_ hm_=>M.awayC (x:=gp (pcs g (lfo left) E)) (fun p_ hp_=>by simp [hp_]) (xm1 hb_ ▸ mem_bl (q:=(b_,[])) (gp_mem he_ (mT _ (List.mem_map.2 ⟨b_,hm_,rfl⟩)))))
      replace rng:=rng_off21 rng ((Off.refl [B6] _).setAll (b:=B6) mS 0 [.int .i64 ((d.win:Nat):Int),.int .i64 (pnx d.top),.slice d.sr d.Z.length d.cr]) (fun hm_=>by have:=xm1 hm_; omega) (fun hm_=>by have:=xm1 hm_; omega); generalize w6.setCells B6 0 [.int .i64 ((d.win:Nat):Int),.int .i64 (pnx d.top),.slice d.sr d.Z.length d.cr]=w7 at M I_ PV_ rng ⊢
      replace M:Mm w ((B6,[.int .i64 ((d.win:Nat):Int),.int .i64 (pnx d.top),.slice d.sr d.Z.length d.cr])::(it,[])::(B1,[.int .i64 p,.int .u64 (s.last+1),.map (some N)])::(N,[])::(gp (pcs g (lfo left) E))) w7:=M
      refine xT ?_; have hl_3:=M.lt mS; go_upto_region 7 with fail; refine wp_region_list ?_; refine xpL (.pointer (some ⟨P,0,none⟩)) ?_; refine xpL (.pointer (some ⟨P,0,none⟩)) ?_; refine xpL (.pointer (some ⟨P,2,none⟩)) ?_; refine xaL (.slice d.sr d.Z.length d.cr) (load1 61 _ ⟨P,2,none⟩ _ rfl rfl (fun _=>by kernel_rfl) (cell21 M.below (MR.get (mT _ hPm) 2 _ rfl))) ?_
      have key:=vclr21_any 0 d.sr d.cr d.Z hzl w7 (ownsRow_bel (hI.ok _ hmE).V M.below); refine xcL key ?_; clear key; rintro e w9 ⟨sq,cq,rfl,V_q,l_⟩; replace M:=M.newRow21 l_ V_q; replace I_:=I_.bel l_; replace PV_:=fun e_ he_=>ownsRow_bel (PV_ e_ he_) l_; replace rng:=rng_off21 rng (Off.of_below (X:=[]) l_) (fun h_=>by cases h_) (fun h_=>by cases h_); clear l_
      replace M:Mm w ((B6,[.int .i64 ((d.win:Nat):Int),.int .i64 (pnx d.top),.slice d.sr d.Z.length d.cr])::(it,[])::(B1,[.int .i64 p,.int .u64 (s.last+1),.map (some N)])::(N,[])::(obs sq++gp (pcs g (lfo left) E))) w9:=M.perm (sw21 (obs sq) ([(B6,[.int .i64 ((d.win:Nat):Int),.int .i64 (pnx d.top),.slice d.sr d.Z.length d.cr]),(it,[]),(B1,[.int .i64 p,.int .u64 (s.last+1),.map (some N)]),(N,[])]:List (Nat × List Value)) (gp (pcs g (lfo left) E)))
      refine xeL ?_; refine xpL (.pointer (some ⟨B6,2,none⟩)) ?_; refine skipOpL rfl (storeAny (.slice sq d.Z.length cq) B6 2 61 _ _ rfl rfl rfl rfl rfl (M.isSome mS 2 (by simp)) (M.free mS 2 (by simp)) (by kernel_rfl)) ?_; simp only [Act.put]; replace M:=M.set 2 (by simp) (.slice sq d.Z.length cq)
      replace I_:=I_.off ((Off.refl [B6] _).set (b:=B6) mS 2 (.slice sq d.Z.length cq)) (fun hm_=>by have:=xm1 hm_; omega)
      replace PV_:=fun e_ he_=>ownsRow_away (PV_ e_ he_) ((Off.refl [B6] _).set (b:=B6) mS 2 (.slice sq d.Z.length cq)) (fun b_ hb_ hm_=>M.awayC (x:=gp (pcs g (lfo left) E)) (fun p_ hp_=>by simp [hp_]) (xm1 hb_ ▸ mem_bl (q:=(b_,[])) (gp_mem he_ (mT _ (List.mem_map.2 ⟨b_,hm_,rfl⟩)))))
      replace rng:=rng_off21 rng ((Off.refl [B6] _).set (b:=B6) mS 2 (.slice sq d.Z.length cq)) (fun hm_=>by have:=xm1 hm_; omega) (fun hm_=>by have:=xm1 hm_; omega)
      replace V_q:=ownsRow_away V_q ((Off.refl [B6] _).set (b:=B6) mS 2 (.slice sq d.Z.length cq)) (fun b_ hb_ hm_=>M.awayC (x:=obs sq) (fun p_ hp_=>by simp [hp_]) (xm1 hb_ ▸ mem_bl (q:=(b_,[])) (List.mem_map.2 ⟨b_,hm_,rfl⟩))); generalize w9.setCell ⟨B6,2,none⟩ (.slice sq d.Z.length cq)=w10 at M I_ PV_ rng V_q ⊢
      replace M:Mm w ((B6,[.int .i64 ((d.win:Nat):Int),.int .i64 (pnx d.top),.slice sq d.Z.length cq])::(it,[])::(B1,[.int .i64 p,.int .u64 (s.last+1),.map (some N)])::(N,[])::(obs sq++gp (pcs g (lfo left) E))) w10:=M
      refine xT ?_; go_upto_region 8 with fail; refine wp_region_list ?_; refine xpL (.pointer (some ⟨B1,2,none⟩)) ?_; refine xaL (.map (some N)) (load1 53 _ ⟨B1,2,none⟩ _ rfl rfl (fun _=>by kernel_rfl) (M.get (mI 2 rfl) 2 _ rfl)) ?_; refine xpL (.int .i64 ((d.n:Nat):Int)) ?_; replace M:=M.rot4
      replace M:Mm w ((N,[])::(B6,[.int .i64 ((d.win:Nat):Int),.int .i64 (pnx d.top),.slice sq d.Z.length cq])::(it,[])::(B1,[.int .i64 p,.int .u64 (s.last+1),.map (some N)])::(obs sq++gp (pcs g (lfo left) E))) w10:=M
      obtain ⟨w11,hr,I2,hgr⟩:=IM.put I_ uk21 Try.underlying53 hNlen hdi (.pointer (some ⟨B6,0,none⟩))
      refine skipOpL rfl (putOp21 _ _ _ rfl rfl rfl rfl hr) ?_; simp only [Act.put]; replace M:=M.touch hgr; have o1_:=Off.touched hgr; replace PV_:=fun e_ he_=>ownsRow_away (PV_ e_ he_) o1_ (fun b_ hb_ hm_=>M.awayC (x:=gp (pcs g (lfo left) E)) (fun p_ hp_=>by simp [hp_]) (xm1 hb_ ▸ mem_bl (q:=(b_,[])) (gp_mem he_ (mT _ (List.mem_map.2 ⟨b_,hm_,rfl⟩)))))
      replace rng:=rng_off21 rng o1_ (fun hm_=>by have:=xm1 hm_; omega) (fun hm_=>by have:=xm1 hm_; omega); replace V_q:=ownsRow_away V_q o1_ (fun b_ hb_ hm_=>M.awayC (x:=obs sq) (fun p_ hp_=>by simp [hp_]) (xm1 hb_ ▸ mem_bl (q:=(b_,[])) (List.mem_map.2 ⟨b_,hm_,rfl⟩))); clear hr hgr o1_ I_; have I_:=I2; clear I2; refine xT ?_; replace M:=M.rot4; replace M:=M.rot4
      replace M:=M.rot3; replace M:=M.rot3; replace M:=M.rot3
      replace M:Mm w ((it,[])::(B1,[.int .i64 p,.int .u64 (s.last+1),.map (some N)])::(N,[])::(B6,[.int .i64 ((d.win:Nat):Int),.int .i64 (pnx d.top),.slice sq d.Z.length cq])::(obs sq++gp (pcs g (lfo left) E))) w11:=M
      have hold:(pcs g (lfo left) E)=pcs g (lfo left) A++pcs g (lfo left) F:=by rw [hE]; exact pcs_old hlf
      have hnew:(pcs (pup g d.n (B6,sq,cq)) (lfo fun z=>left z&&!z.sameKey (.int .i64 ((d.n:Nat):Int))) E)=pcs g (lfo left) A++(B6,{ d with sr:=sq,cr:=cq })::pcs g (lfo left) F:=by
       rw [hE]
       exact pcs_new (e:=(P,d)) (v:=(B6,sq,cq)) hnm strike_is (fun x hx=>strike_not (by have:=hnm x hx; omega))
      have hAn:∀ e∈pcs g (lfo left) A,e.2.n≠d.n:=fun e he=>by
       obtain ⟨e0,he0,rfl⟩:=pcs_from he
       exact hnm e0 (List.mem_append_left _ he0)
      have HS:=show Hid _ from (show ∃ g left cnt,w11.ranges Try.prog 3 heldR b it E.length D left cnt∧IM Try.prog 3 w11 N (pcs g (lfo left) E).length (pmf (pcs g (lfo left) E))∧(∀ e∈(pcs g (lfo left) E),w11.ownsRow 0 72 3 (.slice e.2.sr e.2.Z.length e.2.cr) e.2.Z.length (rcs e.2.Z))∧Mm w ((it,[])::(B1,[.int .i64 p,.int .u64 (s.last+1),.map (some N)])::(N,[])::gp (pcs g (lfo left) E)) w11 from by
       refine ⟨pup g d.n (B6,sq,cq),_,cnt',rng,?_,?_,?_⟩
       · refine NS.keys (m:=some N) (n:=(pcs g (lfo left) E).length+1) (E:=(pcs (pup g d.n (B6,sq,cq)) (lfo fun z=>left z&&!z.sameKey (.int .i64 ((d.n:Nat):Int))) E)) (IM.congr I_ fun y _=>?_)
         rw [hnew,hold]
         exact pmf_ins (d:={ d with sr:=sq,cr:=cq }) hAn y
       · rw [hnew]
         rw [hold] at PV_
         intro e he
         rcases List.mem_append.1 he with h | h
         · exact PV_ e (List.mem_append_left _ h)
         · rcases xc1 h with rfl | h
           · exact ownsRow_mono21 V_q (Nat.zero_le _)
           · exact PV_ e (List.mem_append_right _ h)
       · rw [hnew]
         rw [hold] at M
         have hg:=(gp_mid (pcs g (lfo left) A) (pcs g (lfo left) F) (B6,{ d with sr:=sq,cr:=cq }) []).symm
         rw [List.append_nil,List.append_nil] at hg
         exact M.perm (List.Perm.cons _ (List.Perm.cons _ (List.Perm.cons _ hg))))
      have hle2:=show Hid _ from (show w11.rangeLeft b it<wr.rangeLeft b it by rw [hle,rng.left_eq]; exact hlt); clear M I_ PV_ V_q rng hold hnew hAn; go_wp2
      go_roundw
      case rel=>exact HS.out
      case measure=>exact hle2.out
end
structure SchDK (I:SchI):Prop where
 ptr:∀ w v s bs,I w v s bs→∃ R,v=.pointer (some ⟨R,0,none⟩)
 off:∀ w w' v s bs X,I w v s bs→Off X w w'→(∀ b∈X,b∉bs.map Prod.fst)→I w' v s bs
 new:∀ (w0 w:World) (l:List (Nat × List Value)) (p:Int),i64 p→Mm w0 l w →
  Calls Try.prog 10 #[.int .i64 p] w fun e w'=>∃ v bs,e=.returned v∧I w' v (snew p) bs∧Mm w0 (bs++l) w'∧Below w.heap.size w w'
 opn:∀ (w0 w:World) (v:Value) (s:Sch) (bs l:List (Nat × List Value)) (id:Int),SchW s→ssz s<1000000000→i64 id→I w v s bs→Mm w0 (bs++l) w →
  Calls Try.prog 13 #[v,.int .i64 id] w fun e w'=>∃ bs',e=.returned (.tuple #[])∧I w' v (sop s id) bs'∧Mm w0 (bs'++l) w'∧Off (bs.map Prod.fst) w w'
 cls:∀ (w0 w:World) (v:Value) (s:Sch) (bs l:List (Nat × List Value)) (id:Int),SchW s→ssz s<1000000000→i64 id→I w v s bs→Mm w0 (bs++l) w →
  Calls Try.prog 16 #[v,.int .i64 id] w fun e w'=>∃ sq cq bs',e=.returned (.slice sq (sclO s id).length cq)∧NewW w' w0.heap.size (sclO s id) (.slice sq (sclO s id).length cq)∧I w' v (scl s id) bs'∧Mm w0 (bs'++(obs sq++l)) w'∧Off (bs.map Prod.fst) w w'
 snt:∀ (w0 w:World) (v:Value) (s:Sch) (bs l:List (Nat × List Value)) (id c now:Int) (k:List (Int × Int)) (sk:Option Addr) (ck:Nat),SchW s→ssz s<1000000000→i64 id→i64 c→i64 now→k.length<2000000→(∀ r∈k,i64 r.1∧i64 r.2)→RgW w k (.slice sk k.length ck)→(∀ b∈bs.map Prod.fst,k≠[]→b∉ob sk)→I w v s bs→Mm w0 (bs++l) w →
  Calls Try.prog 18 #[v,.int .i64 id,.int .i64 c,.int .i64 now,.slice sk k.length ck] w fun e w'=>∃ bs',e=.returned (.tuple #[])∧I w' v (ssn s id c now k) bs'∧Mm w0 (bs'++l) w'∧Off (bs.map Prod.fst) w w'
 got:∀ (w0 w:World) (v:Value) (s:Sch) (bs l:List (Nat × List Value)) (id top:Int) (k:List (Int × Int)) (sk:Option Addr) (ck:Nat) (now:Int),SchW s→ssz s<1000000000→i64 id→i64 top→i64 now→k.length<140737488355328→(∀ r∈k,i64 r.1∧i64 r.2)→RgW w k (.slice sk k.length ck)→(∀ b∈bs.map Prod.fst,k≠[]→b∉ob sk)→I w v s bs→Mm w0 (bs++l) w →
  Calls Try.prog 20 #[v,.int .i64 id,.int .i64 top,.slice sk k.length ck,.int .i64 now] w fun e w'=>∃ sq cq bs',e=.returned (.tuple #[.slice sq (sgO s id top k).length cq,.int .i64 (sgT s id top now)])∧NewW w' w0.heap.size (sgO s id top k) (.slice sq (sgO s id top k).length cq)∧I w' v (sgt s id top k) bs'∧Mm w0 (bs'++(obs sq++l)) w'∧Off (bs.map Prod.fst) w w'
 lat:∀ (w0 w:World) (v:Value) (s:Sch) (bs l:List (Nat × List Value)) (id now age:Int),SchW s→ssz s<1000000000→i64 id→i64 now→i64 age→I w v s bs→Mm w0 (bs++l) w →
  Calls Try.prog 22 #[v,.int .i64 id,.int .i64 now,.int .i64 age] w fun e w'=>∃ sq cq bs',e=.returned (.slice sq (slO s id now age).length cq)∧NewW w' w0.heap.size (slO s id now age) (.slice sq (slO s id now age).length cq)∧I w' v (sla s id now age) bs'∧Mm w0 (bs'++(obs sq++l)) w'∧Off (bs.map Prod.fst) w w'
 pck:∀ (w0 w:World) (v:Value) (s:Sch) (bs l:List (Nat × List Value)) (a:List Int) (sa:Option Addr) (ca:Nat) (r:List Int) (sr:Option Addr) (cr:Nat),SchW s→ssz s<1000000000→a.length<140737488355328→a.length≤ca→(sa=none→ca=0)→(∀ x∈a,i64 x)→SrcI w sa a.length (bl a)→(∀ b∈bs.map Prod.fst,a≠[]→b∉ob sa)→r.length<140737488355328→r.length≤cr→(sr=none→cr=0)→(∀ x∈r,i64 x)→SrcI w sr r.length (bl r)→(∀ b∈bs.map Prod.fst,r≠[]→b∉ob sr)→I w v s bs→Mm w0 (bs++l) w →
  Calls Try.prog 24 #[v,.slice sa a.length ca,.slice sr r.length cr] w fun e w'=>∃ bs',e=.returned (.tuple #[.int .i64 (spA s a r),.bool (spB s a r)])∧I w' v (spc s a r) bs'∧Mm w0 (bs'++l) w'∧Off (bs.map Prod.fst) w w'
 win:∀ (w0 w:World) (v:Value) (s:Sch) (bs l:List (Nat × List Value)) (id:Int),SchW s→ssz s<1000000000→i64 id→I w v s bs→Mm w0 (bs++l) w →
  Calls Try.prog 27 #[v,.int .i64 id] w fun e w'=>e=.returned (.int .i64 ((swn s id:Nat):Int))∧Below w.heap.size w w'
 und:∀ (w0 w:World) (v:Value) (s:Sch) (bs l:List (Nat × List Value)) (id:Int),SchW s→ssz s<1000000000→i64 id→I w v s bs→Mm w0 (bs++l) w →
  Calls Try.prog 29 #[v,.int .i64 id] w fun e w'=>e=.returned (.int .i64 ((sun s id:Nat):Int))∧Below w.heap.size w w'
theorem SchDK.bel {I:SchI} (h:SchDK I) {w w':World} {v:Value} {s:Sch} {bs:List (Nat × List Value)} (hI:I w v s bs) (l:Below w.heap.size w w'):I w' v s bs:=h.off w w' v s bs [] hI (Off.of_below l) (fun _ hb=>by cases hb)
def DX21 (w:World) (v:Value) (s:Sch) (bs:List (Nat × List Value)):Prop:=∃ R L sf cf,v=.pointer (some ⟨R,0,none⟩)∧bs=(R,drc s sf L.length cf)::(obs sf++gf L)∧DIn w s L sf cf
theorem dblk {R:Nat} {c:List Value} {sf:Option Addr} {L:List Dfl}:((R,c)::(obs sf++gf L)).map Prod.fst=R::(ob sf++(gf L).map Prod.fst):=by rw [List.map_cons,List.map_append,obs_fst]
theorem djn {w0 w:World} {x:Nat × List Value} {a b l:List (Nat × List Value)} (M:Mm w0 (x::(a++(b++l))) w):Mm w0 ((x::(a++b))++l) w:=by
 rw [List.cons_append,List.append_assoc]
 exact M
theorem dch_any:SchDK DX21 where
 ptr:=fun _ _ _ _ ⟨R,_,_,_,h,_⟩=>⟨R,h⟩
 off:=fun w w' v s bs X ⟨R,L,sf,cf,h1,h2,h3⟩ o hX=>by
  subst h2
  exact ⟨R,L,sf,cf,h1,rfl,h3.off o (fun b hb hm=>hX b hb (by rw [dblk]; exact mT _ (List.mem_append_left _ hm))) (fun b hb hm=>hX b hb (by rw [dblk]; exact mT _ (List.mem_append_right _ hm)))⟩
 new:=fun w0 w l p _ M=>(dnew21_any w0 w l p M).mono fun e w' ⟨R,he,hI,hM,hb⟩=>⟨_,_,he,⟨R,[],none,0,rfl,rfl,hI⟩,hM,hb⟩
 opn:=fun w0 w v s bs l id hw hs hi ⟨R,L,sf,cf,h1,h2,h3⟩ M=>by
  subst h1 h2
  rw [List.cons_append,List.append_assoc] at M
  exact (dopn21_any w0 w R L sf cf l s h3 hs M id).mono fun e w' ⟨L',sf',cf',he,hI,hM,ho⟩=>⟨_,he,⟨R,L',sf',cf',rfl,rfl,hI⟩,djn hM,by rw [dblk]; exact ho⟩
 snt:=fun w0 w v s bs l id c now k sk ck hw hs hi _ _ hk hkv N hks ⟨R,L,sf,cf,h1,h2,h3⟩ M=>by
  subst h1 h2
  rw [List.cons_append,List.append_assoc] at M
  exact (dsnt21_any w0 w R L sf cf l s h3 hs M id c now k sk ck hk N (fun b hb=>hks b (by rw [dblk]; exact hb))).mono fun e w' ⟨L',sf',cf',he,hI,hM,ho⟩=>⟨_,he,⟨R,L',sf',cf',rfl,rfl,hI⟩,djn hM,by rw [dblk]; exact ho⟩
 cls:=fun w0 w v s bs l id hw hs hi ⟨R,L,sf,cf,h1,h2,h3⟩ M=>by
  subst h1 h2
  rw [List.cons_append,List.append_assoc] at M
  exact (dcls21_any w0 w R L sf cf l s h3 hs M id).mono fun e w' ⟨sq,cq,L',sf',cf',he,hN,hI,hM,ho⟩=>⟨sq,cq,_,he,hN,⟨R,L',sf',cf',rfl,rfl,hI⟩,djn hM,by rw [dblk]; exact ho⟩
 got:=fun w0 w v s bs l id top k sk ck now hw hs hi ht _ hk hkv N hks ⟨R,L,sf,cf,h1,h2,h3⟩ M=>by
  subst h1 h2
  rw [List.cons_append,List.append_assoc] at M
  exact (dgot21_any w0 w R L sf cf l s h3 hw hs M id top now ht k sk ck hk N).mono fun e w' ⟨sq,cq,L',sf',cf',he,hN,hI,hM,ho⟩=>⟨sq,cq,_,he,hN,⟨R,L',sf',cf',rfl,rfl,hI⟩,djn hM,by rw [dblk]; exact ho⟩
 lat:=fun w0 w v s bs l id now age hw hs hi _ _ ⟨R,L,sf,cf,h1,h2,h3⟩ M=>by
  subst h1 h2
  rw [List.cons_append,List.append_assoc] at M
  exact (dlat21_any w0 w R L sf cf l s h3 hw hs M id now age).mono fun e w' ⟨sq,cq,L',sf',cf',he,hN,hI,hM,ho⟩=>⟨sq,cq,_,he,hN,⟨R,L',sf',cf',rfl,rfl,hI⟩,djn hM,by rw [dblk]; exact ho⟩
 pck:=fun w0 w v s bs l a sa ca r sr cr hw hs ha _ _ hai Sa hab hr _ _ hri Sr hrb ⟨R,L,sf,cf,h1,h2,h3⟩ M=>by
  subst h1 h2
  rw [List.cons_append,List.append_assoc] at M
  exact (dpck21_any w0 w R L sf cf l s h3 hs M a sa ca ha Sa r sr cr hr Sr).mono fun e w' ⟨he,hI,hM,ho⟩=>⟨_,he,⟨R,L,sf,cf,rfl,rfl,hI⟩,djn hM,by rw [dblk]; exact ho⟩
 win:=fun w0 w v s bs l id hw hs hi ⟨R,L,sf,cf,h1,h2,h3⟩ M=>by
  subst h1 h2
  rw [List.cons_append,List.append_assoc] at M
  exact dwin21_any w 0 R L sf cf (by have:=h3.len; omega) (M.get mS 2 _ rfl) h3.V s h3.lst id
 und:=fun w0 w v s bs l id hw hs hi ⟨R,L,sf,cf,h1,h2,h3⟩ M=>by
  subst h1 h2
  rw [List.cons_append,List.append_assoc] at M
  exact dund21_any w 0 R L sf cf (by have:=h3.len; omega) (M.get mS 2 _ rfl) h3.V s h3.lst id
def SchTI:=World→Value→Value→Sch→Sch→List (Nat × List Value)→Prop
structure SchTw (I:SchI) (T:SchTI):Prop where
 off:∀ w w' v v' s s' bs X,T w v v' s s' bs→Off X w w'→(∀ b∈X,b∉bs.map Prod.fst)→T w' v v' s s' bs
 cln:∀ (w0 w:World) (v:Value) (s:Sch) (bs l:List (Nat × List Value)),SchW s→ssz s<1000000000→I w v s bs→Mm w0 (bs++l) w →
  Calls Try.prog 25 #[v] w fun e w'=>∃ R bs',e=.returned (.pointer (some ⟨R,0,none⟩))∧T w' v (.pointer (some ⟨R,0,none⟩)) s s bs'∧Mm w0 (bs'++l) w'∧Off (bs.map Prod.fst) w w'
 opn:∀ (w0 w:World) (v v':Value) (s s':Sch) (bs l:List (Nat × List Value)) (id:Int),SchW s→ssz s<1000000000→i64 id→T w v v' s s' bs→Mm w0 (bs++l) w →
  Calls Try.prog 12 #[v,.int .i64 id] w fun e w'=>∃ bs',e=.returned (.tuple #[])∧T w' v v' (sop s id) s' bs'∧Mm w0 (bs'++l) w'∧Off (bs.map Prod.fst) w w'
 snt:∀ (w0 w:World) (v v':Value) (s s':Sch) (bs l:List (Nat × List Value)) (id c now:Int),SchW s→ssz s<1000000000→i64 id→T w v v' s s' bs→Mm w0 (bs++l) w →
  Calls Try.prog 17 #[v,.int .i64 id,.int .i64 c,.int .i64 now,.slice none 0 0] w fun e w'=>∃ bs',e=.returned (.tuple #[])∧T w' v v' (ssn s id c now []) s' bs'∧Mm w0 (bs'++l) w'∧Off (bs.map Prod.fst) w w'
 cls:∀ (w0 w:World) (v v':Value) (s s':Sch) (bs l:List (Nat × List Value)) (id:Int),SchW s→ssz s<1000000000→i64 id→T w v v' s s' bs→Mm w0 (bs++l) w →
  Calls Try.prog 15 #[v,.int .i64 id] w fun e w'=>∃ u bs',e=.returned u∧T w' v v' (scl s id) s' bs'∧Mm w0 (bs'++l) w'∧Off (bs.map Prod.fst) w w'
 fin:∀ (w:World) (v v':Value) (s s':Sch) (bs:List (Nat × List Value)),T w v v' s s' bs→∃ bs',bs'.Sublist bs∧I w v' s' bs'
def TX21:SchTI:=fun w v v' s s' bs=>∃ R p m E C Q m' E' C',v=.pointer (some ⟨R,0,none⟩)∧v'=.pointer (some ⟨Q,0,none⟩)∧bs=pow R s p m E++(pow Q s' p m' E'++C)∧PIn w s p m E C∧PIn w s' p m' E' C'∧C'.Sublist C
theorem mem_pow {Q:Nat} {s:Sch} {p:Int} {m:Option Nat} {E:Pes} {b:Nat}:(b∈(mbk m).map Prod.fst∨b∈(gp E).map Prod.fst)→b∈(pow Q s p m E).map Prod.fst:=fun h=>by
 unfold pow
 rw [List.map_cons,List.map_append]
 rcases h with h | h
 · exact mT _ (List.mem_append_left _ h)
 · exact mT _ (List.mem_append_right _ h)
theorem PIn.offP {w w':World} {Q:Nat} {s:Sch} {p:Int} {m:Option Nat} {E:Pes} {C:List (Nat × List Value)} {X:List Nat} (h:PIn w s p m E C) (o:Off X w w') (h1:∀ b∈X,b∉(pow Q s p m E).map Prod.fst) (h3:∀ b∈X,b∉C.map Prod.fst):PIn w' s p m E C :=
 h.off o (fun q hq hm=>h1 q.1 hm (mem_pow (.inl (List.mem_map.2 ⟨q,hq,rfl⟩)))) (fun b hb hm=>h1 b hb (mem_pow (.inr hm))) h3
theorem twn_off {w0 w w':World} {R Q:Nat} {s s':Sch} {p:Int} {m m':Option Nat} {E E':Pes} {C C' l:List (Nat × List Value)} (M:Mm w0 (pow R s p m E++(C++(pow Q s' p m' E'++l))) w) (hC:C'.Sublist C) (h:PIn w s' p m' E' C') (o:Off ((pow R s p m E).map Prod.fst) w w'):PIn w' s' p m' E' C':=by
 have ha:=Mm.apart2 M
 refine h.offP (Q:=Q) o (fun b hb hm=>ha b hb ?_) (fun b hb hm=>ha b hb ?_)
 · rw [List.map_append,List.map_append]
   exact List.mem_append_right _ (List.mem_append_left _ hm)
 · rw [List.map_append]
   exact List.mem_append_left _ ((hC.map Prod.fst).subset hm)
theorem twn_in {w0 w:World} {a b c l:List (Nat × List Value)} (M:Mm w0 ((a++(b++c))++l) w):Mm w0 (a++(c++(b++l))) w:=by
 rw [List.append_assoc,List.append_assoc] at M
 exact M.perm ((sw21 b c l).append_left a)
theorem twn_out {w0 w:World} {a b c l:List (Nat × List Value)} (M:Mm w0 (a++(c++(b++l))) w):Mm w0 ((a++(b++c))++l) w:=by
 rw [List.append_assoc,List.append_assoc]
 exact M.perm ((sw21 c b l).append_left a)
theorem Off.widx {a b:List (Nat × List Value)} {w w':World} (o:Off (a.map Prod.fst) w w'):Off ((a++b).map Prod.fst) w w':=o.mono fun _ h=>mem_map_l h
theorem vtw_any:SchTw PX21 TX21 where
 off:=fun w w' v v' s s' bs X ⟨R,p,m,E,C,Q,m',E',C',h1,h1',h2,h3,h4,hC⟩ o hX=>by
  subst h2
  refine ⟨R,p,m,E,C,Q,m',E',C',h1,h1',rfl,h3.offP (Q:=R) o (fun b hb hm=>hX b hb ?_) (fun b hb hm=>hX b hb ?_),h4.offP (Q:=Q) o (fun b hb hm=>hX b hb ?_) (fun b hb hm=>hX b hb ?_),hC⟩
  · rw [List.map_append]; exact List.mem_append_left _ hm
  · rw [List.map_append,List.map_append]; exact List.mem_append_right _ (List.mem_append_right _ hm)
  · rw [List.map_append,List.map_append]; exact List.mem_append_right _ (List.mem_append_left _ hm)
  · rw [List.map_append,List.map_append]; exact List.mem_append_right _ (List.mem_append_right _ ((hC.map Prod.fst).subset hm))
 cln:=fun w0 w v s bs l hw hs ⟨R,p,m,E,C,h1,h2,h3⟩ M=>by
  subst h1 h2
  rw [List.append_assoc] at M
  exact (vcln21_any w0 w R p m E C l s h3 hw hs M).mono fun e w' ⟨Q,m',E',he,hI,hM,hb⟩=>⟨Q,_,he,⟨R,p,m,E,C,Q,m',E',C,rfl,rfl,rfl,h3.off (X:=[]) (Off.of_below hb) (fun _ _ h=>by cases h) (fun _ h=>by cases h) (fun _ h=>by cases h),hI,List.Sublist.refl _⟩,by
   have e1:=hM.perm (sw21 (pow Q s p m' E') (pow R s p m E) (C++l))
   rw [List.append_assoc,List.append_assoc]
   exact e1,Off.of_below hb⟩
 opn:=fun w0 w v v' s s' bs l id hw hs hi ⟨R,p,m,E,C,Q,m',E',C',h1,h1',h2,h3,h4,hC⟩ M=>by
  subst h1 h1' h2
  have M1:=twn_in M
  exact (vopn21_any w0 w R p m E C (pow Q s' p m' E'++l) s h3 hs M1 id hi).mono fun e w' ⟨m2,E2,he,hI,hM,ho⟩=>⟨_,he,⟨R,p,m2,E2,C,Q,m',E',C',rfl,rfl,rfl,hI,twn_off M1 hC h4 ho,hC⟩,twn_out hM,ho.widx⟩
 snt:=fun w0 w v v' s s' bs l id c now hw hs hi ⟨R,p,m,E,C,Q,m',E',C',h1,h1',h2,h3,h4,hC⟩ M=>by
  subst h1 h1' h2
  have M1:=twn_in M
  exact (vsnt21_any w0 w R p m E C (pow Q s' p m' E'++l) s h3 hw hs M1 id hi c now [] none 0 (by decide) (RgW.nil0 _) (fun _ _ h=>absurd rfl h)).mono fun e w' ⟨D,E2,he,hI,hM,ho⟩=>⟨_,he,⟨R,p,m,E2,D++C,Q,m',E',C',rfl,rfl,rfl,hI,twn_off M1 hC h4 ho,hC.trans (List.sublist_append_right D C)⟩,by
   have h:=hM
   rw [← List.append_assoc D] at h
   exact twn_out h,ho.widx⟩
 cls:=fun w0 w v v' s s' bs l id hw hs hi ⟨R,p,m,E,C,Q,m',E',C',h1,h1',h2,h3,h4,hC⟩ M=>by
  subst h1 h1' h2
  have M1:=twn_in M
  exact (vcls21_any w0 w R p m E C (pow Q s' p m' E'++l) s h3 hw hs M1 id hi).mono fun e w' ⟨sq,cq,E2,he,_,hI,hM,ho⟩=>⟨_,_,he,⟨R,p,m,E2,C,Q,m',E',C',rfl,rfl,rfl,hI,twn_off M1 hC h4 ho,hC⟩,twn_out (hM.sub _ ((List.Sublist.refl _).append (List.sublist_append_right _ _))),ho.widx⟩
 fin:=fun w v v' s s' bs ⟨R,p,m,E,C,Q,m',E',C',h1,h1',h2,h3,h4,hC⟩=>by
  subst h1 h1' h2
  exact ⟨pow Q s' p m' E'++C',((List.Sublist.refl _).append hC).trans (List.sublist_append_right _ _),Q,p,m',E',C',rfl,rfl,h4⟩
end Go.Proofs.Ytmedjdadhmdpgaa
