/- Texts of Api Pair Square Prime Math Ed, joined. -/
import Derived.Test.YtklnibmfpcmeeaaGreatDoorP10ShakeAgrees
set_option maxRecDepth 20000
set_option maxHeartbeats 64000000
namespace Go.Proofs.YtklnibmfpcmeeaaGreatDoor
open Go.RowKit
theorem key_there' {w:World} {b:Nat} {g:Nat→Int} (h:w.there b 0 32):w.there b 0 (row .u8 32 g).toArray.size:=by rw [List.size_toArray,row_length]; exact h
structure kTwo (a b:Nat→Int) (w w':World):Prop where
 ha:Has w' w.heap.size .u8 32 a
 hb:Has w' (w.heap.size+1) .u8 32 b
 hr:w'.there (w.heap.size+1+1) 0 32
 fr:Fr w 3 w'
theorem kTwo.call {a b:Nat→Int} {w w' w'':World} (h:kTwo a b w w') (l:Below w'.heap.size w' w''):kTwo a b w w'' :=
 ⟨h.ha.call h.fr l (by omega),h.hb.call h.fr l (by omega),there_below h.hr l (by have:=h.fr.size; omega),h.fr.call l⟩
theorem kTwo.drew {a b:Nat→Int} {w w':World} (h:kTwo a b w w'):kTwo a b w w'.drew:=⟨h.ha.drew,h.hb.drew,h.hr,h.fr.drew⟩
theorem kTwo.stored {a b:Nat→Int} {w w':World} (h:kTwo a b w w') (f:Nat→Int):kTwo a b w (w'.setCells (w.heap.size+1+1) 0 (row .u8 32 f)) :=
 ⟨h.ha.setAll_other _ (by omega) 0 _,h.hb.setAll_other _ (by omega) 0 _,World.there_setCells h.hr _ _ _,h.fr.setAll _ (by omega) _⟩
theorem kTwo.new (a b:Nat→Int) (w:World):kTwo a b w (((w.alloc (.cells (row .u8 32 a).toArray 23)).alloc (.cells (row .u8 32 b).toArray 23)).alloc (.cells zu8_32 23)) :=
 ⟨((Has.new w _ _ _ _ _ rfl).alloc _ (by simp)).alloc _ (by simp; omega),(Has.new _ _ _ _ _ _ (by simp)).alloc _ (by simp),(key_zero _ _ _ (by simp)).there,(((Fr.refl w).alloc _).alloc _).alloc _⟩
theorem add_any (a b:Nat→Int) (ha:In 256 32 a) (hb:In 256 32 b) (w:World) (hg:kGlob w) :
 Calls Tryz.prog 89 #[(.agg (row .u8 32 (a)).toArray),(.agg (row .u8 32 (b)).toArray)] w fun e w'=>∃ f:Nat→Int,e=.returned (.agg (row .u8 32 (f)).toArray)∧(In 256 32 f∧val 256 f 32=(val 256 a 32+val 256 b 32)%kQ)∧Below w.heap.size w w':=by
 have t0:=(kTwo.new a b w).drew
 go_enter Tryz.func89,Tryz.ntmps89
 go_wp2; refine wp_region_held_drew (S:=fun w'=>kTwo a b w w') (by kernel_rfl) t0 ?_; intro t0; refine rowH (i:=0) (some 5) rfl .u8 32 a w.heap.size 23 _ _ rfl rfl rfl rfl (by kernel_rfl) (by kernel_rfl) (by kernel_rfl) (fun _ _ _ h=>h) Tryz.underlying23 rfl (key_info a) t0 (fun _ h=>h.ha) ?_
 refine rowH (i:=2) (some 7) rfl .u8 32 b (w.heap.size+1) 23 _ _ rfl rfl rfl rfl (by kernel_rfl) (by kernel_rfl) (by kernel_rfl) (fun _ _ _ h=>h) Tryz.underlying23 rfl (key_info b) t0 (fun _ h=>h.hb) ?_; refine callH (i:=1) (some 6) rfl (by kernel_rfl) rfl rfl (fun _=>by kernel_rfl) (load_any a ha _) ?_; rintro e w1 ⟨m1,rfl,s1,l1⟩; have t1:=t0.call l1
 refine ⟨_,rfl,t1,?_⟩
 refine callH (i:=3) (some 8) rfl (by kernel_rfl) rfl rfl (fun _=>by kernel_rfl) (load_any b hb _) ?_; rintro e w2 ⟨m2,rfl,s2,l2⟩; have t2:=t1.call l2
 refine ⟨_,rfl,t2,?_⟩
 refine callH (i:=4) (some 9) rfl (by kernel_rfl) rfl rfl (fun _=>by kernel_rfl) (sum_any m1 m2 s1.1 s2.1 _) ?_; rintro e w3 ⟨m3,rfl,s3,l3⟩; have t3:=t2.call l3
 refine ⟨_,rfl,t3,?_⟩
 refine callH (i:=5) (some 10) rfl (by kernel_rfl) rfl rfl (fun _=>by kernel_rfl) (save_any m3 s3.1 _ (hg.fr t3.fr)) ?_; rintro e w4 ⟨f,rfl,s4,l4⟩; have t4:=t3.call l4
 refine ⟨_,rfl,t4,?_⟩
 refine storesH (i:=6) none rfl .u8 32 f (w.heap.size+1+1) 23 _ _ (by kernel_rfl) rfl rfl rfl rfl rfl (key_there' t4.hr) (key_info' f) (t4.stored f) ?_
 refine wpAnyH_done (by kernel_rfl) ?_ _
 have hE:In 256 32 f∧val 256 f 32=(val 256 a 32+val 256 b 32)%kQ:=⟨s4.1,by rw [s4.2,s3.2,s1.2,s2.2]⟩
 have HE:=show Hid _ from hE; clear hE s1 s2 s3 s4; go_wp2
 exact bodyPost_ret (v:=(.agg (row .u8 32 (f)).toArray)) (results_row Tryz.results89 rfl (Has.all t4.hr .u8 f).range Tryz.underlying23 rfl (key_info f)) rfl ⟨f,rfl,HE.out,(t4.stored f).fr.below⟩
theorem sub_any (a b:Nat→Int) (ha:In 256 32 a) (hb:In 256 32 b) (w:World) (hg:kGlob w) :
 Calls Tryz.prog 90 #[(.agg (row .u8 32 (a)).toArray),(.agg (row .u8 32 (b)).toArray)] w fun e w'=>∃ f:Nat→Int,e=.returned (.agg (row .u8 32 (f)).toArray)∧(In 256 32 f∧val 256 f 32=(val 256 a 32-val 256 b 32)%kQ)∧Below w.heap.size w w':=by
 have t0:=(kTwo.new a b w).drew
 go_enter Tryz.func90,Tryz.ntmps90
 go_wp2; refine wp_region_held_drew (S:=fun w'=>kTwo a b w w') (by kernel_rfl) t0 ?_; intro t0; refine rowH (i:=0) (some 5) rfl .u8 32 a w.heap.size 23 _ _ rfl rfl rfl rfl (by kernel_rfl) (by kernel_rfl) (by kernel_rfl) (fun _ _ _ h=>h) Tryz.underlying23 rfl (key_info a) t0 (fun _ h=>h.ha) ?_
 refine rowH (i:=2) (some 7) rfl .u8 32 b (w.heap.size+1) 23 _ _ rfl rfl rfl rfl (by kernel_rfl) (by kernel_rfl) (by kernel_rfl) (fun _ _ _ h=>h) Tryz.underlying23 rfl (key_info b) t0 (fun _ h=>h.hb) ?_; refine callH (i:=1) (some 6) rfl (by kernel_rfl) rfl rfl (fun _=>by kernel_rfl) (load_any a ha _) ?_; rintro e w1 ⟨m1,rfl,s1,l1⟩; have t1:=t0.call l1
 refine ⟨_,rfl,t1,?_⟩
 refine callH (i:=3) (some 8) rfl (by kernel_rfl) rfl rfl (fun _=>by kernel_rfl) (load_any b hb _) ?_; rintro e w2 ⟨m2,rfl,s2,l2⟩; have t2:=t1.call l2
 refine ⟨_,rfl,t2,?_⟩
 refine callH (i:=4) (some 9) rfl (by kernel_rfl) rfl rfl (fun _=>by kernel_rfl) (difference_any m1 m2 s1.1 s2.1 _) ?_; rintro e w3 ⟨m3,rfl,s3,l3⟩; have t3:=t2.call l3
 refine ⟨_,rfl,t3,?_⟩
 refine callH (i:=5) (some 10) rfl (by kernel_rfl) rfl rfl (fun _=>by kernel_rfl) (save_any m3 s3.1 _ (hg.fr t3.fr)) ?_; rintro e w4 ⟨f,rfl,s4,l4⟩; have t4:=t3.call l4
 refine ⟨_,rfl,t4,?_⟩
 refine storesH (i:=6) none rfl .u8 32 f (w.heap.size+1+1) 23 _ _ (by kernel_rfl) rfl rfl rfl rfl rfl (key_there' t4.hr) (key_info' f) (t4.stored f) ?_
 refine wpAnyH_done (by kernel_rfl) ?_ _
 have hE:In 256 32 f∧val 256 f 32=(val 256 a 32-val 256 b 32)%kQ:=⟨s4.1,by rw [s4.2,s3.2,s1.2,s2.2]⟩
 have HE:=show Hid _ from hE; clear hE s1 s2 s3 s4; go_wp2
 exact bodyPost_ret (v:=(.agg (row .u8 32 (f)).toArray)) (results_row Tryz.results90 rfl (Has.all t4.hr .u8 f).range Tryz.underlying23 rfl (key_info f)) rfl ⟨f,rfl,HE.out,(t4.stored f).fr.below⟩
theorem mul_any (a b:Nat→Int) (ha:In 256 32 a) (hb:In 256 32 b) (w:World) (hg:kGlob w) :
 Calls Tryz.prog 67 #[(.agg (row .u8 32 (a)).toArray),(.agg (row .u8 32 (b)).toArray)] w fun e w'=>∃ f:Nat→Int,e=.returned (.agg (row .u8 32 (f)).toArray)∧(In 256 32 f∧val 256 f 32=(val 256 a 32*val 256 b 32)%kQ)∧Below w.heap.size w w':=by
 have t0:=(kTwo.new a b w).drew
 go_enter Tryz.func67,Tryz.ntmps67
 go_wp2; refine wp_region_held_drew (S:=fun w'=>kTwo a b w w') (by kernel_rfl) t0 ?_; intro t0; refine rowH (i:=0) (some 5) rfl .u8 32 a w.heap.size 23 _ _ rfl rfl rfl rfl (by kernel_rfl) (by kernel_rfl) (by kernel_rfl) (fun _ _ _ h=>h) Tryz.underlying23 rfl (key_info a) t0 (fun _ h=>h.ha) ?_
 refine rowH (i:=2) (some 7) rfl .u8 32 b (w.heap.size+1) 23 _ _ rfl rfl rfl rfl (by kernel_rfl) (by kernel_rfl) (by kernel_rfl) (fun _ _ _ h=>h) Tryz.underlying23 rfl (key_info b) t0 (fun _ h=>h.hb) ?_; refine callH (i:=1) (some 6) rfl (by kernel_rfl) rfl rfl (fun _=>by kernel_rfl) (load_any a ha _) ?_; rintro e w1 ⟨m1,rfl,s1,l1⟩; have t1:=t0.call l1
 refine ⟨_,rfl,t1,?_⟩
 refine callH (i:=3) (some 8) rfl (by kernel_rfl) rfl rfl (fun _=>by kernel_rfl) (load_any b hb _) ?_; rintro e w2 ⟨m2,rfl,s2,l2⟩; have t2:=t1.call l2
 refine ⟨_,rfl,t2,?_⟩
 refine callH (i:=4) (some 9) rfl (by kernel_rfl) rfl rfl (fun _=>by kernel_rfl) (product_any m1 m2 s1.1 s2.1 _) ?_; rintro e w3 ⟨m3,rfl,s3,l3⟩; have t3:=t2.call l3
 refine ⟨_,rfl,t3,?_⟩
 refine callH (i:=5) (some 10) rfl (by kernel_rfl) rfl rfl (fun _=>by kernel_rfl) (save_any m3 s3.1 _ (hg.fr t3.fr)) ?_; rintro e w4 ⟨f,rfl,s4,l4⟩; have t4:=t3.call l4
 refine ⟨_,rfl,t4,?_⟩
 refine storesH (i:=6) none rfl .u8 32 f (w.heap.size+1+1) 23 _ _ (by kernel_rfl) rfl rfl rfl rfl rfl (key_there' t4.hr) (key_info' f) (t4.stored f) ?_
 refine wpAnyH_done (by kernel_rfl) ?_ _
 have hE:In 256 32 f∧val 256 f 32=(val 256 a 32*val 256 b 32)%kQ:=⟨s4.1,by rw [s4.2,s3.2,s1.2,s2.2]⟩
 have HE:=show Hid _ from hE; clear hE s1 s2 s3 s4; go_wp2
 exact bodyPost_ret (v:=(.agg (row .u8 32 (f)).toArray)) (results_row Tryz.results67 rfl (Has.all t4.hr .u8 f).range Tryz.underlying23 rfl (key_info f)) rfl ⟨f,rfl,HE.out,(t4.stored f).fr.below⟩
theorem invert_any (a:Nat→Int) (ha:In 256 32 a) (w:World) (hg:kGlob w) :
 Calls Tryz.prog 68 #[(.agg (row .u8 32 (a)).toArray)] w fun e w'=>∃ f:Nat→Int,e=.returned (.agg (row .u8 32 (f)).toArray)∧(In 256 32 f∧val 256 f 32=val 256 a 32^E%kQ)∧Below w.heap.size w w':=by
 have a0:Has ((w.alloc (.cells (row .u8 32 a).toArray 23)).alloc (.cells zu8_32 23)) w.heap.size .u8 32 a:=(Has.new w _ _ _ _ _ rfl).alloc _ (by simp)
 have z0:Has ((w.alloc (.cells (row .u8 32 a).toArray 23)).alloc (.cells zu8_32 23)) (w.heap.size+1) .u8 32 (fun _=>0):=key_zero _ _ _ (by simp)
 have g0:Fr w 2 ((w.alloc (.cells (row .u8 32 a).toArray 23)).alloc (.cells zu8_32 23)):=((Fr.refl w).alloc _).alloc _
 go_enter Tryz.func68,Tryz.ntmps68
 go_wp2_with (refine wpList_load_mid rfl 23 _ rfl (w.heap.size) 0 rfl (row .u8 32 (a)) _ (Has.range (a0)) Tryz.underlying23 rfl (key_info _) ?_)
 refine (load_any a ha _).mono ?_; rintro e w1 ⟨m,rfl,s1,l1⟩; have g1:=g0.call l1; have z1:=z0.call g0 l1 (by omega); have i1:=s1.1; have H1:=show Hid _ from s1; clear s1
 go_wp2_with fail
 refine (inverse_any m i1 _ (hg.fr g1)).mono ?_; rintro e w2 ⟨m2,rfl,s2,l2⟩; have g2:=g1.call l2; have z2:=z1.call g1 l2 (by omega); have i2:=s2.1; have H2:=show Hid _ from s2; clear s2
 go_wp2_with fail
 refine (save_any m2 i2 _ (hg.fr g2)).mono ?_; rintro e w3 ⟨f,rfl,s3,l3⟩; have z3:=z2.call g2 l3 (by omega)
 have hE:In 256 32 f∧val 256 f 32=val 256 a 32^E%kQ:=⟨s3.1,by rw [s3.2,H2.out.2,H1.out.2]⟩
 have HE:=show Hid _ from hE; clear hE s3
 go_wp2_with (refine wpList_store_mid rfl 23 _ _ rfl (w.heap.size+1) 0 (row .u8 32 (f)).toArray rfl rfl (key_there (z3)) (key_info' _) (all_oneCell_toArray (row_one _ _ _)) ?_)
 exact bodyPost_ret (v:=(.agg (row .u8 32 (f)).toArray)) (results_row Tryz.results68 rfl (Has.all z3.there .u8 f).range Tryz.underlying23 rfl (key_info f)) rfl ⟨f,rfl,HE.out,((g2.call l3).setAll _ (by omega) _).below⟩
section
section
variable {P:Program} {ops:Array Oper} {kQ:Exit→Act→World→Prop} {md:Region.Mode} {S:World→Prop}
theorem pairH {c1 c2 a1 a2:Nat} {x1 x2 y1 y2:Oper} (r1 r2 t1 t2:Tmp) {n w0:Nat} {f1 f2:FuncId} {g1 g2:Array Value} (c:Array Value) (t:TypeId) (V1 V2:Value→Prop) {fuel:Nat} {L:Array Bool} {a:Act} {w:World}
 (i1:ops[c1]?=some x1) (i2:ops[c2]?=some x2) (j1:ops[a1]?=some y1) (j2:ops[a2]?=some y2)
 (n12:c1≠a1) (n13:c1≠a2) (n21:c2≠a1) (n22:c2≠a2) (n23:a1≠a2)
 (p2:r1≠t1) (p3:r1≠t2) (p4:r2≠t1) (p5:r2≠t2) (p6:t1≠t2)
 (k1:x1.dst=some r1) (k2:x2.dst=some r2) (k3:y1.dst=some t1) (k4:y2.dst=some t2) (q1:x1.guard=none) (q2:x2.guard=none) (q3:y1.guard=none) (q4:y2.guard=none)
 (s1:∀ cs b,x1.op≠.select cs b) (s2:∀ cs b,x2.op≠.select cs b)
 (l1:t1∉x1.looksAt ops) (l2:t2∉x1.looksAt ops) (l3:t1∉x2.looksAt ops) (l4:t2∉x2.looksAt ops) (l5:r1∉x2.looksAt ops)
 (m000:Region.ready md ops L=[c1,a1,a2])
 (m010:Region.ready md ops (L.setIfInBounds a1 true)=[c1,a2])
 (m001:Region.ready md ops (L.setIfInBounds a2 true)=[c1,a1])
 (m011:Region.ready md ops ((L.setIfInBounds a1 true).setIfInBounds a2 true)=[c1])
 (m100:Region.ready md ops (L.setIfInBounds c1 true)=[c2,a1,a2])
 (m110:Region.ready md ops ((L.setIfInBounds c1 true).setIfInBounds a1 true)=[c2,a2])
 (m101:Region.ready md ops ((L.setIfInBounds c1 true).setIfInBounds a2 true)=[c2,a1])
 (m111:Region.ready md ops (((L.setIfInBounds c1 true).setIfInBounds a1 true).setIfInBounds a2 true)=[c2])
 (m200:Region.ready md ops ((L.setIfInBounds c1 true).setIfInBounds c2 true)=[a1,a2])
 (m210:Region.ready md ops (((L.setIfInBounds c1 true).setIfInBounds c2 true).setIfInBounds a1 true)=[a2])
 (m201:Region.ready md ops (((L.setIfInBounds c1 true).setIfInBounds c2 true).setIfInBounds a2 true)=[a1])
 (e1:∀ w,(execOp a.eval x1).run P w=.ok (.enter f1 g1) w) (e2:∀ w,(execOp a.eval x2).run P w=.ok (.enter f2 g2) w)
 (e3:∀ (b:Act) (w:World),(execOp b.eval y1).run P w=.ok (.value (.pointer (some ⟨w.heap.size,0,none⟩))) (w.alloc (.cells c t)))
 (e4:∀ (b:Act) (w:World),(execOp b.eval y2).run P w=.ok (.value (.pointer (some ⟨w.heap.size,0,none⟩))) (w.alloc (.cells c t)))
 (hn:∀ w:World,(w.alloc (.cells c t)).there w.heap.size 0 n)
 (hS:S w) (hS0:∀ w,S w→w0≤w.heap.size) (hSc:∀ w w',S w→Below w.heap.size w w'→S w')
 (C1:∀ w,S w→Calls P f1 g1 w fun e w'=>∃ v,e=.returned v∧V1 v∧Below w.heap.size w w')
 (C2:∀ w,S w→Calls P f2 g2 w fun e w'=>∃ v,e=.returned v∧V2 v∧Below w.heap.size w w')
 (hK:∀ v1 v2 B1 B2 w',V1 v1→V2 v2→S w'→Fb n w0 B1 w'→Fb n w0 B2 w'→B1≠B2 →
  wpAnyH P md ops kQ S fuel ((((L.setIfInBounds c1 true).setIfInBounds c2 true).setIfInBounds a1 true).setIfInBounds a2 true) ((((a.put (some r1) v1).put (some r2) v2).put (some t1) (.pointer (some ⟨B1,0,none⟩))).put (some t2) (.pointer (some ⟨B2,0,none⟩))) w') :
 wpAnyH P md ops kQ S (fuel+4) L a w:=by
 have hSa:∀ w:World,S w→S (w.alloc (.cells c t)):=fun w h=>hSc w _ h ((Below.refl w.heap.size w).alloc (xnR _) _)
 have hNew:∀ w:World,S w→Fb n w0 w.heap.size (w.alloc (.cells c t)):=fun w h=>⟨hS0 w h,by simp,hn w⟩
 have s210:∀ v1 v2 B1 w',V1 v1→V2 v2→S w'→Fb n w0 B1 w'→wpAnyH P md ops kQ S (fuel+1) (((L.setIfInBounds c1 true).setIfInBounds c2 true).setIfInBounds a1 true) (((a.put (some r1) v1).put (some r2) v2).put (some t1) (.pointer (some ⟨B1,0,none⟩))) w':=by
  intro v1 v2 B1 w' h1 h2 hs hb; refine wpAnyH_all m210 (by simp) fun i hi=>?_
  obtain rfl:=xm1 hi
  refine allocOp j2 q4 (e4 _ w') ?_
  rw [k4]
  exact ⟨hSa _ hs,hK v1 v2 B1 _ _ h1 h2 (hSa _ hs) (hb.alloc _) (hNew _ hs) (by have:=hb.hi; omega)⟩
 have s201:∀ v1 v2 B2 w',V1 v1→V2 v2→S w'→Fb n w0 B2 w'→wpAnyH P md ops kQ S (fuel+1) (((L.setIfInBounds c1 true).setIfInBounds c2 true).setIfInBounds a2 true) (((a.put (some r1) v1).put (some r2) v2).put (some t2) (.pointer (some ⟨B2,0,none⟩))) w':=by
  intro v1 v2 B2 w' h1 h2 hs hb; refine wpAnyH_all m201 (by simp) fun i hi=>?_
  obtain rfl:=xm1 hi
  refine allocOp j1 q3 (e3 _ w') ?_
  rw [k3]
  exact ⟨hSa _ hs,wpAnyH_cast (hK v1 v2 _ B2 _ h1 h2 (hSa _ hs) (hNew _ hs) (hb.alloc _) (by have:=hb.hi; omega)) (Array.setIfInBounds_comm _ _ n23.symm) (put_comm' _ _ _ p6.symm)⟩
 have s111:∀ v1 B1 B2 w',V1 v1→S w'→Fb n w0 B1 w'→Fb n w0 B2 w'→B1≠B2→wpAnyH P md ops kQ S (fuel+1) (((L.setIfInBounds c1 true).setIfInBounds a1 true).setIfInBounds a2 true) (((a.put (some r1) v1).put (some t1) (.pointer (some ⟨B1,0,none⟩))).put (some t2) (.pointer (some ⟨B2,0,none⟩))) w':=by
  intro v1 B1 B2 w' h1 hs hb1 hb2 hne; refine wpAnyH_all m111 (by simp) fun i hi=>?_
  obtain rfl:=xm1 hi
  refine callOp i2 q2 (by rw [eval_two (ops:=ops) t1 t2 _ _ s2 l3 l4,eval_one (ops:=ops) r1 _ s2 l5]; exact e2 w') (C2 w' hs) fun e w'' hR=>?_
  obtain ⟨v2,rfl,h2,l⟩:=hR
  refine ⟨v2,rfl,hSc _ _ hs l,?_⟩
  rw [k2]
  refine wpAnyH_cast (hK v1 v2 B1 B2 _ h1 h2 (hSc _ _ hs l) (hb1.call l) (hb2.call l) hne) ?_ ?_
  · rw [Array.setIfInBounds_comm _ _ n22.symm,Array.setIfInBounds_comm _ _ n21.symm]
  · rw [put_comm' _ _ _ p5.symm,put_comm' _ _ _ p4.symm]
 have s200:∀ v1 v2 w',V1 v1→V2 v2→S w'→wpAnyH P md ops kQ S (fuel+2) ((L.setIfInBounds c1 true).setIfInBounds c2 true) ((a.put (some r1) v1).put (some r2) v2) w':=by
  intro v1 v2 w' h1 h2 hs; refine wpAnyH_all m200 (by simp) fun i hi=>?_
  simp only [List.mem_cons,List.not_mem_nil,or_false] at hi
  rcases hi with rfl | rfl
  · refine allocOp j1 q3 (e3 _ w') ?_
    rw [k3]
    exact ⟨hSa _ hs,s210 v1 v2 _ _ h1 h2 (hSa _ hs) (hNew _ hs)⟩
  · refine allocOp j2 q4 (e4 _ w') ?_
    rw [k4]
    exact ⟨hSa _ hs,s201 v1 v2 _ _ h1 h2 (hSa _ hs) (hNew _ hs)⟩
 have s110:∀ v1 B1 w',V1 v1→S w'→Fb n w0 B1 w'→wpAnyH P md ops kQ S (fuel+2) ((L.setIfInBounds c1 true).setIfInBounds a1 true) ((a.put (some r1) v1).put (some t1) (.pointer (some ⟨B1,0,none⟩))) w':=by
  intro v1 B1 w' h1 hs hb; refine wpAnyH_all m110 (by simp) fun i hi=>?_
  simp only [List.mem_cons,List.not_mem_nil,or_false] at hi
  rcases hi with rfl | rfl
  · refine callOp i2 q2 (by rw [eval_two (ops:=ops) r1 t1 _ _ s2 l5 l3]; exact e2 w') (C2 w' hs) fun e w'' hR=>?_
    obtain ⟨v2,rfl,h2,l⟩:=hR
    refine ⟨v2,rfl,hSc _ _ hs l,?_⟩
    rw [k2]
    exact wpAnyH_cast (s210 v1 v2 B1 _ h1 h2 (hSc _ _ hs l) (hb.call l)) (Array.setIfInBounds_comm _ _ n21.symm) (put_comm' _ _ _ p4.symm)
  · refine allocOp j2 q4 (e4 _ w') ?_
    rw [k4]
    exact ⟨hSa _ hs,s111 v1 B1 _ _ h1 (hSa _ hs) (hb.alloc _) (hNew _ hs) (by have:=hb.hi; omega)⟩
 have s101:∀ v1 B2 w',V1 v1→S w'→Fb n w0 B2 w'→wpAnyH P md ops kQ S (fuel+2) ((L.setIfInBounds c1 true).setIfInBounds a2 true) ((a.put (some r1) v1).put (some t2) (.pointer (some ⟨B2,0,none⟩))) w':=by
  intro v1 B2 w' h1 hs hb; refine wpAnyH_all m101 (by simp) fun i hi=>?_
  simp only [List.mem_cons,List.not_mem_nil,or_false] at hi
  rcases hi with rfl | rfl
  · refine callOp i2 q2 (by rw [eval_two (ops:=ops) r1 t2 _ _ s2 l5 l4]; exact e2 w') (C2 w' hs) fun e w'' hR=>?_
    obtain ⟨v2,rfl,h2,l⟩:=hR
    refine ⟨v2,rfl,hSc _ _ hs l,?_⟩
    rw [k2]
    exact wpAnyH_cast (s201 v1 v2 B2 _ h1 h2 (hSc _ _ hs l) (hb.call l)) (Array.setIfInBounds_comm _ _ n22.symm) (put_comm' _ _ _ p5.symm)
  · refine allocOp j1 q3 (e3 _ w') ?_
    rw [k3]
    exact ⟨hSa _ hs,wpAnyH_cast (s111 v1 _ B2 _ h1 (hSa _ hs) (hNew _ hs) (hb.alloc _) (by have:=hb.hi; omega)) (Array.setIfInBounds_comm _ _ n23.symm) (put_comm' _ _ _ p6.symm)⟩
 have s011:∀ B1 B2 w',S w'→Fb n w0 B1 w'→Fb n w0 B2 w'→B1≠B2→wpAnyH P md ops kQ S (fuel+2) ((L.setIfInBounds a1 true).setIfInBounds a2 true) ((a.put (some t1) (.pointer (some ⟨B1,0,none⟩))).put (some t2) (.pointer (some ⟨B2,0,none⟩))) w':=by
  intro B1 B2 w' hs hb1 hb2 hne; refine wpAnyH_all m011 (by simp) fun i hi=>?_
  obtain rfl:=xm1 hi
  refine callOp i1 q1 (by rw [eval_two (ops:=ops) t1 t2 _ _ s1 l1 l2]; exact e1 w') (C1 w' hs) fun e w'' hR=>?_
  obtain ⟨v1,rfl,h1,l⟩:=hR
  refine ⟨v1,rfl,hSc _ _ hs l,?_⟩
  rw [k1]
  refine wpAnyH_cast (s111 v1 B1 B2 _ h1 (hSc _ _ hs l) (hb1.call l) (hb2.call l) hne) ?_ ?_
  · rw [Array.setIfInBounds_comm _ _ n13.symm,Array.setIfInBounds_comm _ _ n12.symm]
  · rw [put_comm' _ _ _ p3.symm,put_comm' _ _ _ p2.symm]
 have s100:∀ v1 w',V1 v1→S w'→wpAnyH P md ops kQ S (fuel+3) (L.setIfInBounds c1 true) (a.put (some r1) v1) w':=by
  intro v1 w' h1 hs; refine wpAnyH_all m100 (by simp) fun i hi=>?_
  simp only [List.mem_cons,List.not_mem_nil,or_false] at hi
  rcases hi with rfl | rfl | rfl
  · refine callOp i2 q2 (by rw [eval_one (ops:=ops) r1 _ s2 l5]; exact e2 w') (C2 w' hs) fun e w'' hR=>?_
    obtain ⟨v2,rfl,h2,l⟩:=hR
    refine ⟨v2,rfl,hSc _ _ hs l,?_⟩
    rw [k2]
    exact s200 v1 v2 _ h1 h2 (hSc _ _ hs l)
  · refine allocOp j1 q3 (e3 _ w') ?_
    rw [k3]
    exact ⟨hSa _ hs,s110 v1 _ _ h1 (hSa _ hs) (hNew _ hs)⟩
  · refine allocOp j2 q4 (e4 _ w') ?_
    rw [k4]
    exact ⟨hSa _ hs,s101 v1 _ _ h1 (hSa _ hs) (hNew _ hs)⟩
 have s010:∀ B1 w',S w'→Fb n w0 B1 w'→wpAnyH P md ops kQ S (fuel+3) (L.setIfInBounds a1 true) (a.put (some t1) (.pointer (some ⟨B1,0,none⟩))) w':=by
  intro B1 w' hs hb; refine wpAnyH_all m010 (by simp) fun i hi=>?_
  simp only [List.mem_cons,List.not_mem_nil,or_false] at hi
  rcases hi with rfl | rfl
  · refine callOp i1 q1 (by rw [eval_one (ops:=ops) t1 _ s1 l1]; exact e1 w') (C1 w' hs) fun e w'' hR=>?_
    obtain ⟨v1,rfl,h1,l⟩:=hR
    refine ⟨v1,rfl,hSc _ _ hs l,?_⟩
    rw [k1]
    exact wpAnyH_cast (s110 v1 B1 _ h1 (hSc _ _ hs l) (hb.call l)) (Array.setIfInBounds_comm _ _ n12.symm) (put_comm' _ _ _ p2.symm)
  · refine allocOp j2 q4 (e4 _ w') ?_
    rw [k4]
    exact ⟨hSa _ hs,s011 B1 _ _ (hSa _ hs) (hb.alloc _) (hNew _ hs) (by have:=hb.hi; omega)⟩
 have s001:∀ B2 w',S w'→Fb n w0 B2 w'→wpAnyH P md ops kQ S (fuel+3) (L.setIfInBounds a2 true) (a.put (some t2) (.pointer (some ⟨B2,0,none⟩))) w':=by
  intro B2 w' hs hb; refine wpAnyH_all m001 (by simp) fun i hi=>?_
  simp only [List.mem_cons,List.not_mem_nil,or_false] at hi
  rcases hi with rfl | rfl
  · refine callOp i1 q1 (by rw [eval_one (ops:=ops) t2 _ s1 l2]; exact e1 w') (C1 w' hs) fun e w'' hR=>?_
    obtain ⟨v1,rfl,h1,l⟩:=hR
    refine ⟨v1,rfl,hSc _ _ hs l,?_⟩
    rw [k1]
    exact wpAnyH_cast (s101 v1 B2 _ h1 (hSc _ _ hs l) (hb.call l)) (Array.setIfInBounds_comm _ _ n13.symm) (put_comm' _ _ _ p3.symm)
  · refine allocOp j1 q3 (e3 _ w') ?_
    rw [k3]
    exact ⟨hSa _ hs,wpAnyH_cast (s011 _ B2 _ (hSa _ hs) (hNew _ hs) (hb.alloc _) (by have:=hb.hi; omega)) (Array.setIfInBounds_comm _ _ n23.symm) (put_comm' _ _ _ p6.symm)⟩
 refine wpAnyH_all m000 (by simp) fun i hi=>?_
 simp only [List.mem_cons,List.not_mem_nil,or_false] at hi
 rcases hi with rfl | rfl | rfl
 · refine callOp i1 q1 (e1 w) (C1 w hS) fun e w'' hR=>?_
   obtain ⟨v1,rfl,h1,l⟩:=hR
   refine ⟨v1,rfl,hSc _ _ hS l,?_⟩
   rw [k1]
   exact s100 v1 _ h1 (hSc _ _ hS l)
 · refine allocOp j1 q3 (e3 _ w) ?_
   rw [k3]
   exact ⟨hSa _ hS,s010 _ _ (hSa _ hS) (hNew _ hS)⟩
 · refine allocOp j2 q4 (e4 _ w) ?_
   rw [k4]
   exact ⟨hSa _ hS,s001 _ _ (hSa _ hS) (hNew _ hS)⟩
end
end
theorem square_any (a:Nat→Int) (ha:In 256 32 a) (w:World) (hg:kGlob w) :
 Calls Tryz.prog 91 #[(.agg (row .u8 32 (a)).toArray)] w fun e w'=>∃ f:Nat→Int,e=.returned (.agg (row .u8 32 (f)).toArray)∧(In 256 32 f∧val 256 f 32=(val 256 a 32*val 256 a 32)%kQ)∧Below w.heap.size w w':=by
 have a0:Has ((w.alloc (.cells (row .u8 32 a).toArray 23)).alloc (.cells zu8_32 23)) w.heap.size .u8 32 a:=(Has.new w _ _ _ _ _ rfl).alloc _ (by simp)
 have z0:Has ((w.alloc (.cells (row .u8 32 a).toArray 23)).alloc (.cells zu8_32 23)) (w.heap.size+1) .u8 32 (fun _=>0):=key_zero _ _ _ (by simp)
 have g0:Fr w 2 ((w.alloc (.cells (row .u8 32 a).toArray 23)).alloc (.cells zu8_32 23)):=((Fr.refl w).alloc _).alloc _
 go_enter Tryz.func91,Tryz.ntmps91
 go_wp2_with (refine wpList_load_mid rfl 23 _ rfl (w.heap.size) 0 rfl (row .u8 32 (a)) _ (Has.range (a0)) Tryz.underlying23 rfl (key_info _) ?_)
 refine (load_any a ha _).mono ?_; rintro e w1 ⟨m,rfl,s1,l1⟩; have g1:=g0.call l1; have hN:=g1.size; have z1:=z0.call g0 l1 (by omega); have n0:=has_zero w1 116 w1.heap.size rfl; have n1:=Has.all n0.there .u64 m; have g2:=(g1.alloc (.cells zu64_4 116)).setAll w1.heap.size (by omega) (row .u64 4 m)
 have z2:=(z1.alloc (.cells zu64_4 116) (by omega)).setAll_other w1.heap.size (by omega) 0 (row .u64 4 m); have i1:=s1.1; have H1:=show Hid _ from s1; clear s1 a0 z0 g0 l1
 go_wp2_with (first | (refine wpList_store_mid rfl 116 _ _ rfl (w1.heap.size) 0 (row .u64 4 (m)).toArray rfl rfl (num_there (n0)) (num_info' _) (all_oneCell_toArray (row_one _ _ _)) ?_) | (refine wpList_load_mid rfl 116 _ rfl (w1.heap.size) 0 rfl (row .u64 4 (m)) _ (Has.range (n1)) Tryz.underlying116 rfl (num_info _) ?_))
 refine (product_any m m i1 i1 _).mono ?_; rintro e w2 ⟨m2,rfl,s2,l2⟩; have g3:=g2.call l2; have z3:=z2.call g2 l2 (by omega); have i2:=s2.1; have H2:=show Hid _ from s2; clear s2
 go_wp2_with fail
 refine (save_any m2 i2 _ (hg.fr g3)).mono ?_; rintro e w3 ⟨f,rfl,s3,l3⟩; have z4:=z3.call g3 l3 (by omega)
 have hE:In 256 32 f∧val 256 f 32=(val 256 a 32*val 256 a 32)%kQ:=⟨s3.1,by rw [s3.2,H2.out.2,H1.out.2]⟩
 have HE:=show Hid _ from hE; clear hE s3
 go_wp2_with (refine wpList_store_mid rfl 23 _ _ rfl (w.heap.size+1) 0 (row .u8 32 (f)).toArray rfl rfl (key_there (z4)) (key_info' _) (all_oneCell_toArray (row_one _ _ _)) ?_)
 exact bodyPost_ret (v:=(.agg (row .u8 32 (f)).toArray)) (results_row Tryz.results91 rfl (Has.all z4.there .u8 f).range Tryz.underlying23 rfl (key_info f)) rfl ⟨f,rfl,HE.out,((g3.call l3).setAll _ (by omega) _).below⟩
namespace Num
def Prime (n:Nat):Prop:=2≤n∧∀ d,d∣n→d=1∨d=n
theorem prime_or (n:Nat) (h:2≤n):Prime n∨∃ d e,n=d*e∧2≤d∧d≤e∧e<n:=by
 by_cases hp:∀ d,d∣n→d=1∨d=n
 · exact Or.inl ⟨h,hp⟩
 · right
   have ⟨d,hd⟩:∃ d,¬ (d∣n→d=1∨d=n):=Classical.not_forall.1 hp
   have hdn:d∣n:=Classical.byContradiction fun h'=>hd fun h2=>absurd h2 h'
   have h1:d≠1:=fun h'=>hd fun _=>Or.inl h'
   have h2:d≠n:=fun h'=>hd fun _=>Or.inr h'
   obtain ⟨e,he⟩:=hdn
   have d0:d≠0:=by intro h0; subst h0; simp at he; omega
   have e0:e≠0:=by intro h0; subst h0; simp at he; omega
   have e1:e≠1:=by intro h0; subst h0; simp at he; omega
   have hde:d<n:=by
    have:d*2≤d*e:=Nat.mul_le_mul_left d (by omega)
    omega
   have hee:e<n:=by
    have:2*e≤d*e:=Nat.mul_le_mul_right e (by omega)
    omega
   by_cases hle:d≤e
   · exact ⟨d,e,he,by omega,hle,hee⟩
   · exact ⟨e,d,by rw [he,Nat.mul_comm],by omega,by omega,hde⟩
theorem exists_prime:∀ n:Nat,2≤n→∃ r,Prime r∧r∣n:=by
 intro n
 induction n using Nat.strongRecOn with
 | ind n ih =>
   intro h
   rcases prime_or n h with hp | ⟨d,e,he,hd,hde,hen⟩
   · exact ⟨n,hp,Nat.dvd_refl n⟩
   · obtain ⟨r,hr,hrd⟩:=ih d (by omega) hd
     exact ⟨r,hr,Nat.dvd_trans hrd ⟨e,he⟩⟩
theorem prime_or_small (n:Nat) (h:2≤n):Prime n∨∃ r,Prime r∧r∣n∧r*r≤n:=by
 rcases prime_or n h with hp | ⟨d,e,he,hd,hde,hen⟩
 · exact Or.inl hp
 · right
   obtain ⟨r,hr,hrd⟩:=exists_prime d hd
   refine ⟨r,hr,Nat.dvd_trans hrd ⟨e,he⟩,?_⟩
   have h1:r≤d:=Nat.le_of_dvd (by omega) hrd
   have h2:r*r≤d*e:=Nat.mul_le_mul h1 (by omega)
   omega
def tr (n:Nat):Nat→Nat→Bool
 | 0,_=>true
 | f+1,d=>(n%d != 0)&&tr n f (d+1)
theorem tr_not (n:Nat):∀ f d,tr n f d=true→∀ e,d≤e→e<d+f→¬ e∣n:=by
 intro f
 induction f with
 | zero=>intro d _ e h1 h2; omega
 | succ f ih =>
   intro d h e h1 h2 hd
   simp only [tr,xbA,bne_iff_ne,ne_eq] at h
   by_cases he:e=d
   · subst he; exact h.1 (Nat.mod_eq_zero_of_dvd hd)
   · exact ih (d+1) h.2 e (by omega) (by omega) hd
theorem prime_of_tr (n f:Nat) (h:2≤n) (ht:tr n f 2=true) (hf:n<(f+2)*(f+2)):Prime n:=by
 rcases prime_or_small n h with hp | ⟨r,hr,hrn,hrr⟩
 · exact hp
 · exfalso
   refine tr_not n f 2 ht r hr.1 ?_ hrn
   by_cases hlt:r<2+f
   · exact hlt
   · have:(f+2)*(f+2)≤r*r:=Nat.mul_le_mul (by omega) (by omega)
     omega
theorem coprime_of {r a:Nat} (hr:Prime r) (h:¬ r∣a):Nat.Coprime r a:=by
 rcases hr.2 (Nat.gcd r a) (Nat.gcd_dvd_left r a) with h1 | h1
 · exact h1
 · exact absurd (h1 ▸ Nat.gcd_dvd_right r a) h
def ch:Nat→Nat→Nat
 | _,0=>1
 | 0,_+1=>0
 | n+1,k+1=>ch n k+ch n (k+1)
theorem ch_beyond:∀ n k,n<k→ch n k=0:=by
 intro n
 induction n with
 | zero=>intro k h; match k,h with | k+1,_=>rfl
 | succ n ih=>intro k h; match k,h with | k+1,h=>simp only [ch]; rw [ih k (by omega),ih (k+1) (by omega)]
theorem ch_self:∀ n,ch n n=1:=by
 intro n
 induction n with
 | zero=>rfl
 | succ n ih=>simp only [ch]; rw [ih,ch_beyond n (n+1) (by omega)]
theorem ch_zero (n:Nat):ch n 0=1:=by cases n <;> rfl
theorem ch_mul:∀ n k,(k+1)*ch (n+1) (k+1)=(n+1)*ch n k:=by
 intro n
 induction n with
 | zero =>
   intro k
   cases k with
   | zero=>rfl
   | succ k=>simp [ch]
 | succ n ih =>
   intro k
   have e:ch (n+1+1) (k+1)=ch (n+1) k+ch (n+1) (k+1):=rfl
   rw [e,Nat.mul_add,ih k]
   cases k with
   | zero=>simp [ch_zero]; omega
   | succ j =>
     have e2:ch (n+1) (j+1)=ch n j+ch n (j+1):=rfl
     have i:=ih j
     have:(j+1+1)*ch (n+1) (j+1)=ch (n+1) (j+1)+(n+1)*ch n j:=by rw [← i,Nat.succ_mul]; omega
     rw [this]
     have:(n+1+1)*ch (n+1) (j+1)=ch (n+1) (j+1)+((n+1)*ch n j+(n+1)*ch n (j+1)):=by
      rw [Nat.succ_mul,← Nat.mul_add,← e2]; omega
     rw [this]; omega
def su (a n:Nat):Nat→Nat
 | 0=>0
 | m+1=>su a n m+ch n m*a^m
theorem su_step (a n:Nat):∀ m,su a (n+1) (m+1)=su a n (m+1)+a*su a n m:=by
 intro m
 induction m with
 | zero=>simp [su,ch_zero]
 | succ m ih =>
   have e1:su a (n+1) (m+1+1)=su a (n+1) (m+1)+ch (n+1) (m+1)*a^(m+1):=rfl
   have e2:su a n (m+1+1)=su a n (m+1)+ch n (m+1)*a^(m+1):=rfl
   have e3:su a n (m+1)=su a n m+ch n m*a^m:=rfl
   have e4:ch (n+1) (m+1)=ch n m+ch n (m+1):=rfl
   have e5:a*(ch n m*a^m)=ch n m*a^(m+1):=by rw [Nat.pow_succ,Nat.mul_left_comm,Nat.mul_comm a]
   rw [e1,ih,e4,Nat.add_mul,e2,e3,Nat.mul_add,e5]; omega
theorem su_all (a:Nat):∀ n,su a n (n+1)=(1+a)^n:=by
 intro n
 induction n with
 | zero=>simp [su,ch]
 | succ n ih =>
   rw [su_step a n (n+1)]
   have e:su a n (n+1+1)=su a n (n+1)+ch n (n+1)*a^(n+1):=rfl
   rw [e,ch_beyond n (n+1) (by omega),ih,Nat.zero_mul,Nat.add_zero,Nat.pow_succ (1+a) n,Nat.mul_add,Nat.mul_one,Nat.mul_comm a]
theorem ch_dvd {r:Nat} (hr:Prime r) (k:Nat) (h0:0<k) (h1:k<r):r∣ch r k:=by
 match r,k,hr,h0,h1 with
 | n+1,j+1,hr,_,h1 =>
   have h:=ch_mul n j
   have hc:Nat.Coprime (n+1) (j+1):=coprime_of hr fun hd=>by have:=Nat.le_of_dvd (by omega) hd; omega
   exact hc.dvd_of_dvd_mul_left ⟨_,h⟩
theorem su_mod {r:Nat} (hr:Prime r) (a:Nat):∀ m,0<m→m≤r→su a r m%r=1:=by
 intro m
 induction m with
 | zero=>intro h; omega
 | succ m ih =>
   intro _ h; have r2:=hr.1
   by_cases h0:m=0
   · subst h0; simp [su,ch_zero]; exact Nat.mod_eq_of_lt (by omega)
   · obtain ⟨c,hc⟩:=ch_dvd hr m (by omega) (by omega)
     have e:su a r (m+1)=su a r m+ch r m*a^m:=rfl
     rw [e,hc,Nat.mul_assoc,Nat.add_mul_mod_self_left]
     exact ih (by omega) (by omega)
theorem fermat {r:Nat} (hr:Prime r):∀ a,a^r%r=a%r:=by
 intro a; have r2:=hr.1
 induction a with
 | zero=>rw [Nat.zero_pow (by omega)]
 | succ a ih =>
   rw [Nat.add_comm a 1,← su_all a r]
   have e:su a r (r+1)=su a r r+ch r r*a^r:=rfl
   rw [e,ch_self,Nat.one_mul,Nat.add_mod,su_mod hr a r (by omega) (xnR r),ih]
   simp [Nat.add_mod]
theorem dvd_sub_of {x y r:Nat} (h:x%r=y%r) (hle:y≤x):r∣x-y:=by
 have h1:=Nat.div_add_mod x r; have h2:=Nat.div_add_mod y r
 have:x-y=r*(x/r)-r*(y/r):=by omega
 rw [this,← Nat.mul_sub]
 exact ⟨_,rfl⟩
theorem fermat_one {r:Nat} (hr:Prime r) (a:Nat) (h:¬ r∣a):a^(r-1)%r=1:=by
 have r2:=hr.1; have f:=fermat hr a
 have a0:0<a:=by
  rcases Nat.eq_zero_or_pos a with h0 | h0
  · subst h0; exact absurd (Nat.dvd_zero r) h
  · exact h0
 have hp:1≤a^(r-1):=Nat.pos_of_ne_zero (by have:=Nat.pow_pos (n:=r-1) a0; omega)
 have e:a^r=a*a^(r-1):=by
  have:r=(r-1)+1:=by omega
  conv=>lhs; rw [this,Nat.pow_succ,Nat.mul_comm]
 have hd:r∣a*(a^(r-1)-1):=by
  rw [Nat.mul_sub,Nat.mul_one,← e]
  exact dvd_sub_of f (by rw [e]; exact Nat.le_mul_of_pos_right a hp)
 have hd2:r∣a^(r-1)-1:=(coprime_of hr h).dvd_of_dvd_mul_left hd
 obtain ⟨c,hc⟩:=hd2
 have:a^(r-1)=1+r*c:=by omega
 rw [this,Nat.add_mul_mod_self_left]
 exact Nat.mod_eq_of_lt (by omega)
theorem pow_gcd (b r:Nat) (r2:2≤r):∀ m n,b^m%r=1→b^n%r=1→b^Nat.gcd m n%r=1:=by
 intro m n
 induction m,n using Nat.gcd.induction with
 | H0 n=>intro _ h; simpa using h
 | H1 m n h0 ih =>
   intro h1 h2
   rw [Nat.gcd_rec]
   refine ih ?_ h1
   have e:b^n=(b^m)^(n/m)*b^(n%m):=by
    rw [← Nat.pow_mul,← Nat.pow_add,Nat.div_add_mod]
   rw [e,Nat.mul_mod,Nat.pow_mod,h1,Nat.one_pow,Nat.mod_eq_of_lt (by omega:1<r),Nat.one_mul,Nat.mod_mod] at h2
   exact h2
theorem pock {N q R a r:Nat} (hN:N=q*R+1) (hq:Prime q) (h1:a^(q*R)%N=1) (hg:Nat.gcd (a^R%N+(N-1)) N=1) (hr:Prime r) (hrN:r∣N):q∣r-1:=by
 have r2:=hr.1
 have hbq:(a^R)^q%r=1:=by
  rw [← Nat.pow_mul,Nat.mul_comm R q,← Nat.mod_mod_of_dvd _ hrN,h1]
  exact Nat.mod_eq_of_lt (by omega)
 have hb1:a^R%r≠1:=by
  intro h
  have hm:(a^R%N)%r=1:=by rw [Nat.mod_mod_of_dvd _ hrN]; exact h
  have hd:r∣a^R%N+(N-1):=by
   obtain ⟨c,hc⟩:=hrN
   have hm2:=Nat.div_add_mod (a^R%N) r
   have:a^R%N+(N-1)=r*((a^R%N)/r+c):=by rw [Nat.mul_add,← hc]; omega
   exact ⟨_,this⟩
  have:=Nat.dvd_gcd hd hrN
  rw [hg] at this
  have:=Nat.le_of_dvd (by omega) this
  omega
 have hnd:¬ r∣a^R:=by
  intro h
  have:r∣(a^R)^q:=Nat.dvd_trans h (by
   have hq1:=hq.1
   have:q=(q-1)+1:=by omega
   rw [this,Nat.pow_succ]
   exact ⟨_,Nat.mul_comm _ _⟩)
  have:=Nat.mod_eq_zero_of_dvd this
  omega
 have hgc:=pow_gcd (a^R) r r2 q (r-1) hbq (fermat_one hr _ hnd)
 rcases hq.2 _ (Nat.gcd_dvd_left q (r-1)) with h | h
 · rw [h,Nat.pow_one] at hgc; exact absurd hgc hb1
 · rw [← h]; exact Nat.gcd_dvd_right q (r-1)
def pm (n:Nat):Nat→Nat→Nat→Nat
 | 0,_,_=>1%n
 | f+1,a,e=>if e=0 then 1%n else if e%2=1 then (pm n f (a*a%n) (e/2)*a)%n else pm n f (a*a%n) (e/2)
theorem pm_eq (n : Nat) : ∀ f a e, e < 2 ^ f → pm n f a e = a ^ e % n := by
  intro f
  induction f with
  | zero => intro a e h; have : e = 0 := by simpa using h
            subst this; rfl
  | succ f ih =>
    intro a e h
    have h2 : e / 2 < 2 ^ f := by rw [Nat.pow_succ] at h; omega
    have hs : (a * a % n) ^ (e / 2) % n = (a ^ (2 * (e / 2))) % n := by rw [← Nat.pow_mod, Nat.pow_mul, Nat.pow_two]
    simp only [pm]
    by_cases h0 : e = 0
    · subst h0; simp
    · rw [if_neg h0]
      by_cases h1 : e % 2 = 1
      · rw [if_pos h1, ih _ _ h2, hs, Nat.mod_mul_mod, ← Nat.pow_succ]
        congr 2; omega
      · rw [if_neg h1, ih _ _ h2, hs]
        congr 2; omega
theorem prime_one {N:Nat} (q R a:Nat) (hq:Prime q) (hN:N=q*R+1) (hF:N≤q*q) (h1:pm N 256 a (q*R)=1) (hs:q*R<2^256) (hs2:R<2^256) (hg:Nat.gcd (pm N 256 a R+(N-1)) N=1):Prime N:=by
 have q2:=hq.1
 rw [pm_eq N 256 a _ hs] at h1
 rw [pm_eq N 256 a _ hs2] at hg
 have R0:0<R:=by
  rcases Nat.eq_zero_or_pos R with h | h
  · subst h; simp at hN; subst hN; simp at h1
  · exact h
 have:2*1≤q*R:=Nat.mul_le_mul q2 R0
 rcases prime_or_small N (by omega) with h | ⟨r,hr,hrN,hrr⟩
 · exact h
 · exfalso
   have hd:=Nat.le_of_dvd (by have:=hr.1; omega) (pock hN hq h1 hg hr hrN)
   have:=hr.1
   have h3:(q+1)*(q+1)≤r*r:=Nat.mul_le_mul (by omega) (by omega)
   have h4:(q+1)*(q+1)=q*q+2*q+1:=by rw [Nat.mul_add,Nat.add_mul]; omega
   omega
theorem prime_two {N:Nat} (q s R S a:Nat) (hq:Prime q) (hp:Prime s) (hqs:Nat.gcd q s=1) (hN:N=q*R+1) (hM:N=s*S+1) (hF:N≤(q*s)*(q*s)) (h1:pm N 256 a (q*R)=1) (hs:q*R<2^256) (hs2:R<2^256) (hs3:S<2^256) (hg:Nat.gcd (pm N 256 a R+(N-1)) N=1) (hg2:Nat.gcd (pm N 256 a S+(N-1)) N=1):Prime N:=by
 have q2:=hq.1
 rw [pm_eq N 256 a _ hs] at h1
 rw [pm_eq N 256 a _ hs2] at hg
 rw [pm_eq N 256 a _ hs3] at hg2
 have h1':a^(s*S)%N=1:=by
  have:s*S=q*R:=by omega
  rw [this]; exact h1
 have R0:0<R:=by
  rcases Nat.eq_zero_or_pos R with h | h
  · subst h; simp at hN; subst hN; simp at h1
  · exact h
 have:2*1≤q*R:=Nat.mul_le_mul q2 R0
 rcases prime_or_small N (by omega) with h | ⟨r,hr,hrN,hrr⟩
 · exact h
 · exfalso
   have hr1:=hr.1; have hd:=Nat.le_of_dvd (by omega) (Nat.Coprime.mul_dvd_of_dvd_of_dvd hqs (pock hN hq h1 hg hr hrN) (pock hM hp h1' hg2 hr hrN))
   have h3:(q*s+1)*(q*s+1)≤r*r:=Nat.mul_le_mul (by omega) (by omega)
   have h4:(q*s+1)*(q*s+1)=(q*s)*(q*s)+2*(q*s)+1:=by rw [Nat.mul_add,Nat.add_mul]; omega
   omega
theorem prime_991:Prime 991:=prime_of_tr 991 32 (by decide) (by decide +kernel) (by decide)
theorem prime_103:Prime 103:=prime_of_tr 103 11 (by decide) (by decide +kernel) (by decide)
theorem prime_8574133:Prime 8574133 :=
 prime_two 991 103 8652 83244 2 prime_991 prime_103 (by decide +kernel) (by decide +kernel) (by decide +kernel) (by decide +kernel) (by decide +kernel) (by decide +kernel) (by decide +kernel) (by decide +kernel) (by decide +kernel) (by decide +kernel)
theorem prime_127:Prime 127:=prime_of_tr 127 12 (by decide) (by decide +kernel) (by decide)
theorem prime_1919519569386763:Prime 1919519569386763 :=
 prime_two 8574133 127 223873314 15114327318006 2 prime_8574133 prime_127 (by decide +kernel) (by decide +kernel) (by decide +kernel) (by decide +kernel) (by decide +kernel) (by decide +kernel) (by decide +kernel) (by decide +kernel) (by decide +kernel) (by decide +kernel)
theorem prime_569003:Prime 569003:=prime_of_tr 569003 755 (by decide) (by decide +kernel) (by decide)
theorem prime_2773320623:Prime 2773320623 :=
 prime_one 569003 4874 2 prime_569003 (by decide +kernel) (by decide +kernel) (by decide +kernel) (by decide +kernel) (by decide +kernel) (by decide +kernel)
theorem prime_72106336199:Prime 72106336199 :=
 prime_one 2773320623 26 2 prime_2773320623 (by decide +kernel) (by decide +kernel) (by decide +kernel) (by decide +kernel) (by decide +kernel) (by decide +kernel)
theorem prime_75445702479781427272750846543864801:Prime 75445702479781427272750846543864801 :=
 prime_two 1919519569386763 72106336199 39304471641247389600 1046311689884858398375200 2 prime_1919519569386763 prime_72106336199 (by decide +kernel) (by decide +kernel) (by decide +kernel) (by decide +kernel) (by decide +kernel) (by decide +kernel) (by decide +kernel) (by decide +kernel) (by decide +kernel) (by decide +kernel)
theorem prime_430751:Prime 430751:=prime_of_tr 430751 657 (by decide) (by decide +kernel) (by decide)
theorem prime_4153:Prime 4153:=prime_of_tr 4153 65 (by decide) (by decide +kernel) (by decide)
theorem prime_31757755568855353:Prime 31757755568855353 :=
 prime_two 430751 4153 73726481352 7646943310584 2 prime_430751 prime_4153 (by decide +kernel) (by decide +kernel) (by decide +kernel) (by decide +kernel) (by decide +kernel) (by decide +kernel) (by decide +kernel) (by decide +kernel) (by decide +kernel) (by decide +kernel)
theorem prime_74058212732561358302231226437062788676166966415465897661863160754340907:Prime 74058212732561358302231226437062788676166966415465897661863160754340907 :=
 prime_two 75445702479781427272750846543864801 31757755568855353 981609426360740691344999861639072106 2331972502653487852620185443007392165117953542933313402 2 prime_75445702479781427272750846543864801 prime_31757755568855353 (by decide +kernel) (by decide +kernel) (by decide +kernel) (by decide +kernel) (by decide +kernel) (by decide +kernel) (by decide +kernel) (by decide +kernel) (by decide +kernel) (by decide +kernel)
theorem prime_p:Prime 57896044618658097711785492504343953926634992332820282019728792003956564819949 :=
 prime_one 74058212732561358302231226437062788676166966415465897661863160754340907 781764 2 prime_74058212732561358302231226437062788676166966415465897661863160754340907 (by decide +kernel) (by decide +kernel) (by decide +kernel) (by decide +kernel) (by decide +kernel) (by decide +kernel)
end Num
theorem kmmod (a b:Int):(a%kQ*(b%kQ))%kQ=(a*b)%kQ:=(Int.mul_emod a b kQ).symm
theorem kmmodl (a b:Int):(a%kQ*b)%kQ=(a*b)%kQ:=by rw [Int.mul_emod,Int.emod_emod,← Int.mul_emod]
theorem kmmodr (a b:Int):(a*(b%kQ))%kQ=(a*b)%kQ:=by rw [Int.mul_comm,kmmodl,Int.mul_comm]
theorem mpow (a:Int) (n:Nat):(a%kQ)^n%kQ=a^n%kQ:=by
 induction n with
 | zero=>rw [Int.pow_zero,Int.pow_zero]
 | succ n ih=>rw [Int.pow_succ,Int.pow_succ,kmmodr,Int.mul_emod,ih,← Int.mul_emod]
theorem fermat (x:Int) (h0:0≤x) (h:x%kQ≠0):(x*x^E)%kQ=1:=by
 obtain ⟨n,rfl⟩:=xiN h0
 have hnd:¬ (57896044618658097711785492504343953926634992332820282019728792003956564819949∣n):=by
  intro hd
  have:=Nat.mod_eq_zero_of_dvd hd
  apply h
  simp only [kQ]
  omega
 have f:=Num.fermat_one Num.prime_p n hnd
 have e:(n:Int)*(n:Int)^E=((n^(57896044618658097711785492504343953926634992332820282019728792003956564819949-1):Nat):Int):=by
  rw [show (57896044618658097711785492504343953926634992332820282019728792003956564819949-1:Nat)=E+1 from by decide +kernel,Int.natCast_pow,Int.pow_succ,Int.mul_comm]
 rw [e]
 generalize n^(57896044618658097711785492504343953926634992332820282019728792003956564819949-1)=z at *; simp only [kQ]
 omega
theorem zero_pow (x:Int) (h:x%kQ=0):x^E%kQ=0:=by
 rw [← mpow,h,show E=(E-1)+1 from by decide +kernel,Int.pow_succ,Int.mul_zero]
 rfl
theorem byte_in' (x:Int) (h0:0≤x) (h1:x<256):In 256 32 (one x)
 | 0,_=>⟨h0,h1⟩
 | _+1,_=>⟨Int.le_refl 0,(by decide:(0:Int)<256)⟩
theorem val_byte (x:Int):val 256 (one x) 32=x:=by simp [val,one]
section
namespace Ed
section
variable {n:Nat} [NeZero n]
structure Pt (n:Nat) where
 x:Fin n
 y:Fin n
structure Fld (d:Fin n) (iv:Fin n→Fin n):Prop where
 inv:∀ a,a≠0→a*iv a=1
 nsq:∀ z,z*z≠d
 two:(2:Fin n)≠0
def On (d:Fin n) (P:Pt n):Prop:=P.x*P.x+P.y*P.y=1+d*(P.x*P.x)*(P.y*P.y)
def sum (d:Fin n) (iv:Fin n→Fin n) (P R:Pt n):Pt n :=
 ⟨(P.x*R.y+P.y*R.x)*iv (1+d*P.x*R.x*P.y*R.y),(P.y*R.y-P.x*R.x)*iv (1-d*P.x*R.x*P.y*R.y)⟩
variable {d:Fin n} {iv:Fin n→Fin n}
theorem Fld.dom (h:Fld d iv) {a b:Fin n} (hab:a*b=0):a=0∨b=0:=by
 by_cases ha:a=0
 · exact .inl ha
 · refine .inr ?_
   have:=h.inv a ha
   grind
theorem Fld.one_ne (h:Fld d iv):(1:Fin n)≠0:=by
 intro e
 apply h.nsq 0
 have e2:d=0:=by
  have:d*1=d*0:=by rw [e]
  clear h
  grind
 rw [e2]
 clear h
 grind
theorem Fld.cancel (h:Fld d iv) {a b c:Fin n} (ha:a≠0) (hab:a*b=a*c):b=c:=by
 have:=h.inv a ha
 grind
theorem Fld.mul_ne (h:Fld d iv) {a b:Fin n} (ha:a≠0) (hb:b≠0):a*b≠0:=fun e=>by
 rcases h.dom e with e | e
 · exact ha e
 · exact hb e
theorem Fld.ratio (h:Fld d iv) {a b:Fin n} (hb:b≠0) (e:a*a=d*(b*b)):False:=by
 have i:=h.inv b hb
 apply h.nsq (a*iv b)
 grind
theorem Fld.whole (h:Fld d iv) {x1 y1 x2 y2:Fin n} (c1:x1*x1+y1*y1=1+d*(x1*x1)*(y1*y1)) (c2:x2*x2+y2*y2=1+d*(x2*x2)*(y2*y2)) :
 1+d*x1*x2*y1*y2≠0∧1-d*x1*x2*y1*y2≠0:=by
 have key:∀ e:Fin n,e=d*x1*x2*y1*y2→e*e=1→False:=by
  intro e he h1
  have hxy:x1*y1≠0:=fun z=>h.one_ne (by rw [← h1,he]; grind)
  have hx2:x2≠0:=fun z=>h.one_ne (by rw [← h1,he,z]; grind)
  by_cases s:x2+y2=0
  · have s':x2-y2≠0:=fun z=>by
     have:2*x2=0:=by grind
     rcases h.dom this with z | z
     · exact h.two z
     · exact hx2 z
    refine h.ratio (a:=x1-e*y1) (b:=x1*y1*(x2-y2)) (h.mul_ne hxy s') ?_
    grind
  · refine h.ratio (a:=x1+e*y1) (b:=x1*y1*(x2+y2)) (h.mul_ne hxy s) ?_
    grind
 constructor
 · intro z
   refine key _ rfl ?_
   have:d*x1*x2*y1*y2=-1:=by grind
   rw [this]; grind
 · intro z
   refine key _ rfl ?_
   have:d*x1*x2*y1*y2=1:=by grind
   rw [this]; grind
theorem Fld.sum_eq (h:Fld d iv) {P R:Pt n} (hP:On d P) (hR:On d R) :
 (sum d iv P R).x*(1+d*P.x*R.x*P.y*R.y)=P.x*R.y+P.y*R.x∧(sum d iv P R).y*(1-d*P.x*R.x*P.y*R.y)=P.y*R.y-P.x*R.x:=by
 obtain ⟨w1,w2⟩:=h.whole hP hR
 have i1:=h.inv _ w1; have i2:=h.inv _ w2
 constructor
 · simp only [sum]; generalize iv (1+d*P.x*R.x*P.y*R.y)=u at *; grind
 · simp only [sum]; generalize iv (1-d*P.x*R.x*P.y*R.y)=u at *; grind
theorem curve_poly (x1 y1 x2 y2:Fin n) (c1:x1*x1+y1*y1=1+d*(x1*x1)*(y1*y1)) (c2:x2*x2+y2*y2=1+d*(x2*x2)*(y2*y2)) (e:Fin n) (he:e=d*x1*x2*y1*y2) :
 (x1*y2+y1*x2)*(x1*y2+y1*x2)*((1-e)*(1-e))+(y1*y2-x1*x2)*(y1*y2-x1*x2)*((1+e)*(1+e))=(1-e)*(1-e)*((1+e)*(1+e))+d*((x1*y2+y1*x2)*(x1*y2+y1*x2))*((y1*y2-x1*x2)*(y1*y2-x1*x2)):=by
 subst he
 grind
theorem Fld.sum_on (h:Fld d iv) {P R:Pt n} (hP:On d P) (hR:On d R):On d (sum d iv P R):=by
 obtain ⟨w1,w2⟩:=h.whole hP hR
 obtain ⟨e1,e2⟩:=h.sum_eq hP hR
 have hc:=curve_poly P.x P.y R.x R.y hP hR _ rfl
 unfold On
 generalize (sum d iv P R).x=X at *; generalize (sum d iv P R).y=Y at *; generalize d*P.x*R.x*P.y*R.y=e at *
 rw [← e1,← e2] at hc
 have w:=h.mul_ne (h.mul_ne w1 w1) (h.mul_ne w2 w2); refine h.cancel w ?_; clear e1 e2 w w1 w2 hP hR h
 grind
theorem sum_comm (P R:Pt n):sum d iv P R=sum d iv R P:=by
 unfold sum
 congr 2 <;> grind
theorem assoc_x (x1 y1 x2 y2 x3 y3:Fin n) (c1:x1*x1+y1*y1=1+d*(x1*x1)*(y1*y1)) (c2:x2*x2+y2*y2=1+d*(x2*x2)*(y2*y2)) (c3:x3*x3+y3*y3=1+d*(x3*x3)*(y3*y3))
 (a b e p q f:Fin n) (ha:a=x1*y2+y1*x2) (hb:b=y1*y2-x1*x2) (he:e=d*x1*x2*y1*y2) (hp:p=x2*y3+y2*x3) (hq:q=y2*y3-x2*x3) (hf:f=d*x2*x3*y2*y3) :
 (a*(1-e)*y3+b*(1+e)*x3)*((1+f)*(1-f)+d*x1*y1*p*q)=(x1*q*(1+f)+y1*p*(1-f))*((1+e)*(1-e)+d*a*b*x3*y3):=by
 subst ha hb he hp hq hf
 grind
theorem assoc_y (x1 y1 x2 y2 x3 y3:Fin n) (c1:x1*x1+y1*y1=1+d*(x1*x1)*(y1*y1)) (c2:x2*x2+y2*y2=1+d*(x2*x2)*(y2*y2)) (c3:x3*x3+y3*y3=1+d*(x3*x3)*(y3*y3))
 (a b e p q f:Fin n) (ha:a=x1*y2+y1*x2) (hb:b=y1*y2-x1*x2) (he:e=d*x1*x2*y1*y2) (hp:p=x2*y3+y2*x3) (hq:q=y2*y3-x2*x3) (hf:f=d*x2*x3*y2*y3) :
 (b*(1+e)*y3-a*(1-e)*x3)*((1+f)*(1-f)-d*x1*y1*p*q)=(y1*q*(1+f)-x1*p*(1-f))*((1+e)*(1-e)-d*a*b*x3*y3):=by
 subst ha hb he hp hq hf
 grind
theorem Fld.assoc (h:Fld d iv) {P R S:Pt n} (hP:On d P) (hR:On d R) (hS:On d S):sum d iv (sum d iv P R) S=sum d iv P (sum d iv R S):=by
 have oPR:=h.sum_on hP hR; have oRS:=h.sum_on hR hS
 obtain ⟨e1,e2⟩:=h.sum_eq hP hR
 obtain ⟨f1,f2⟩:=h.sum_eq hR hS
 obtain ⟨l1,l2⟩:=h.sum_eq oPR hS
 obtain ⟨r1,r2⟩:=h.sum_eq hP oRS
 obtain ⟨we1,we2⟩:=h.whole hP hR
 obtain ⟨wf1,wf2⟩:=h.whole hR hS
 obtain ⟨wl1,wl2⟩:=h.whole oPR hS
 obtain ⟨wr1,wr2⟩:=h.whole hP oRS
 have ax:=assoc_x P.x P.y R.x R.y S.x S.y hP hR hS _ _ _ _ _ _ rfl rfl rfl rfl rfl rfl; have ay:=assoc_y P.x P.y R.x R.y S.x S.y hP hR hS _ _ _ _ _ _ rfl rfl rfl rfl rfl rfl
 rw [← e1,← e2,← f1,← f2] at ax ay
 generalize sum d iv (sum d iv P R) S=L at *; generalize sum d iv P (sum d iv R S)=M at *; generalize sum d iv P R=A at *; generalize sum d iv R S=B at *; generalize d*P.x*R.x*P.y*R.y=e at *; generalize d*R.x*S.x*R.y*S.y=f at *; clear e1 e2 f1 f2 oPR oRS hP hR hS; have wE:=h.mul_ne we1 we2; have wF:=h.mul_ne wf1 wf2
 have gx:L.x=M.x:=by
  refine h.cancel (h.mul_ne (h.mul_ne wE wF) (h.mul_ne wl1 wr1)) ?_; clear l2 r2 ay h we1 we2 wf1 wf2 wl1 wl2 wr1 wr2 wE wF
  have a1:(A.x*S.y+A.y*S.x)*(1+d*P.x*B.x*P.y*B.y)*((1+e)*(1-e)*((1+f)*(1-f)))=(P.x*B.y+P.y*B.x)*(1+d*A.x*S.x*A.y*S.y)*((1+e)*(1-e)*((1+f)*(1-f))):=by clear l1 r1; grind
  rw [← l1,← r1] at a1
  clear ax l1 r1
  grind
 have gy:L.y=M.y:=by
  refine h.cancel (h.mul_ne (h.mul_ne wE wF) (h.mul_ne wl2 wr2)) ?_; clear l1 r1 ax h we1 we2 wf1 wf2 wl1 wl2 wr1 wr2 wE wF gx
  have a1:(A.y*S.y-A.x*S.x)*(1-d*P.x*B.x*P.y*B.y)*((1+e)*(1-e)*((1+f)*(1-f)))=(P.y*B.y-P.x*B.x)*(1-d*A.x*S.x*A.y*S.y)*((1+e)*(1-e)*((1+f)*(1-f))):=by clear l2 r2; grind
  rw [← l2,← r2] at a1
  clear ay l2 r2
  grind
 cases L; cases M
 simp only at gx gy
 rw [gx,gy]
def nil:Pt n:=⟨0,1⟩
def neg (P:Pt n):Pt n:=⟨-P.x,P.y⟩
theorem nil_on:On d (nil:Pt n):=by unfold On nil; grind
theorem neg_on {P:Pt n} (h:On d P):On d (neg P):=by unfold On neg at *; simp only; grind
theorem Fld.iv_one (h:Fld d iv):iv 1=1:=by
 have:=h.inv 1 h.one_ne
 clear h
 grind
theorem Fld.sum_nil (h:Fld d iv) (P:Pt n):sum d iv P nil=P:=by
 have i:=h.iv_one
 cases P with | mk x y =>
 simp only [sum,nil]
 rw [show (1+d*x*0*y*1:Fin n)=1 by grind,show (1-d*x*0*y*1:Fin n)=1 by grind,i]
 congr 1 <;> grind
theorem Fld.sum_neg (h:Fld d iv) {P:Pt n} (hP:On d P):sum d iv P (neg P)=nil:=by
 obtain ⟨e1,e2⟩:=h.sum_eq hP (neg_on hP)
 obtain ⟨w1,w2⟩:=h.whole hP (neg_on hP)
 generalize hS:sum d iv P (neg P)=S at *
 cases P with | mk x y =>
 cases S with | mk X Y =>
 simp only [neg,On] at *
 have gx:X=0:=by
  refine h.cancel w1 ?_; clear h w1 w2 hS e2 hP
  grind
 have gy:Y=1:=by
  refine h.cancel w2 ?_; clear h w1 w2 hS e1
  grind
 rw [gx,gy]; rfl
def mul (d:Fin n) (iv:Fin n→Fin n):Nat→Pt n→Pt n
 | 0,_=>nil
 | k+1,P=>sum d iv (mul d iv k P) P
theorem Fld.mul_on (h:Fld d iv) {P:Pt n} (hP:On d P):∀ k,On d (mul d iv k P)
 | 0=>nil_on
 | k+1=>h.sum_on (h.mul_on hP k) hP
theorem Fld.mul_add (h:Fld d iv) {P:Pt n} (hP:On d P) (a:Nat):∀ b,mul d iv (a+b) P=sum d iv (mul d iv a P) (mul d iv b P)
 | 0=>(h.sum_nil _).symm
 | b+1=>by
   show sum d iv (mul d iv (a+b) P) P=sum d iv (mul d iv a P) (sum d iv (mul d iv b P) P)
   rw [h.mul_add hP a b,h.assoc (h.mul_on hP a) (h.mul_on hP b) hP]
theorem Fld.mul_mul (h:Fld d iv) {P:Pt n} (hP:On d P) (a:Nat):∀ b,mul d iv b (mul d iv a P)=mul d iv (a*b) P
 | 0=>rfl
 | b+1=>by
   show sum d iv (mul d iv b (mul d iv a P)) (mul d iv a P)=_
   rw [h.mul_mul hP a b,Nat.mul_succ,h.mul_add hP]
theorem Fld.mul_nil (h:Fld d iv):∀ b,mul d iv b (nil:Pt n)=nil
 | 0=>rfl
 | b+1=>by
   show sum d iv (mul d iv b nil) nil=_
   rw [h.sum_nil,h.mul_nil b]
/-! The ladder: fractions X by Z,where (X-Z) by (X+Z) is a point's second number. -/
structure Rel (y X Z:Fin n):Prop where
 ne:X+Z≠0
 eq:X-Z=(X+Z)*y
structure Con (d c:Fin n):Prop where
 eq:(c+1)*d=c
theorem con_inv {c:Fin n} (hc:Con d c):(c+1)*(1-d)=1:=by
 have:=hc.eq
 grind
theorem dbl_y2 (c x y:Fin n) (hc:(c+1)*d=c) (hP:x*x+y*y=1+d*(x*x)*(y*y)):y*y=(c+1)*(1-x*x)*(1-d*(y*y)):=by grind
theorem dbl_e (c y:Fin n) (hc:(c+1)*d=c):1+c*(1-y*y)=(c+1)*(1-d*(y*y)):=by grind
theorem Fld.dbl (h:Fld d iv) {c:Fin n} (hc:Con d c) {P:Pt n} (hP:On d P) {X Z:Fin n} (r:Rel P.y X Z) :
 Rel (sum d iv P P).y (((X+Z)*(X+Z))*((X-Z)*(X-Z)))
  (((X+Z)*(X+Z)-(X-Z)*(X-Z))*((X+Z)*(X+Z)+c*((X+Z)*(X+Z)-(X-Z)*(X-Z)))):=by
 obtain ⟨ne,eq⟩:=r
 rw [eq]
 generalize X+Z=s at *
 obtain ⟨_,e2⟩:=h.sum_eq hP hP
 obtain ⟨w1,w2⟩:=h.whole hP hP
 generalize (sum d iv P P).y=Y at *
 cases P with | mk x y =>
 simp only [On] at *
 have k1:=dbl_y2 c x y hc.eq hP; have k2:=dbl_e (d:=d) c y hc.eq
 have hd:1-d*(y*y)≠0:=fun z=>h.ratio (a:=1) (b:=y) (fun z'=>h.one_ne (by rw [z'] at z; clear h k1 k2 e2 w1 w2 eq; grind)) (by clear h k1 k2 e2 w1 w2 eq; grind) |> fun f=>f
 have hc1:c+1≠0:=fun z=>h.one_ne (by have:=con_inv hc; rw [z] at this; clear h k1 k2 e2 w1 w2 eq; grind)
 have sums:s*s*(s*y*(s*y))+(s*s-s*y*(s*y))*(s*s+c*(s*s-s*y*(s*y)))=s*s*(s*s)*((c+1)*(1-d*(y*y)))*(1-d*x*x*y*y):=by
  clear h w1 w2 e2 hd hc1 eq ne
  grind
 have diff:s*s*(s*y*(s*y))-(s*s-s*y*(s*y))*(s*s+c*(s*s-s*y*(s*y)))=s*s*(s*s)*((c+1)*(1-d*(y*y)))*(y*y-x*x):=by
  clear h w1 w2 e2 hd hc1 eq ne sums
  grind
 refine ⟨?_,?_⟩
 · rw [sums]
   exact h.mul_ne (h.mul_ne (h.mul_ne (h.mul_ne ne ne) (h.mul_ne ne ne)) (h.mul_ne hc1 hd)) w2
 · rw [sums,diff,← e2]
   clear sums diff h w1 w2 e2 hd hc1 eq ne k1 k2 hP hc
   grind
theorem dadd_poly (x1 y1 x2 y2 e:Fin n) (c1:x1*x1+y1*y1=1+d*(x1*x1)*(y1*y1)) (c2:x2*x2+y2*y2=1+d*(x2*x2)*(y2*y2)) (he:e=d*x1*x2*y1*y2) :
 (y1+y2)*(y1+y2)*(1+e-(y1*y2+x1*x2))*(1-e-(y1*y2-x1*x2))=(y2-y1)*(y2-y1)*(1+e+(y1*y2+x1*x2))*(1-e+(y1*y2-x1*x2)):=by
 subst he
 grind
theorem turn_neg (yP x1 x2 y1 y2:Fin n) (e1:yP*(1-d*x2*-x1*y2*y1)=y2*y1-x2*-x1):yP*(1+d*x1*x2*y1*y2)=y1*y2+x1*x2:=by grind
theorem key_poly (y1 y2 yP y3 e:Fin n) (hp:(y1+y2)*(y1+y2)*(1+e-yP*(1+e))*(1-e-y3*(1-e))=(y2-y1)*(y2-y1)*(1+e+yP*(1+e))*(1-e+y3*(1-e))) :
 (1+e)*(1-e)*((y1+y2)*(y1+y2)*(1-yP)*(1-y3))=(1+e)*(1-e)*((y2-y1)*(y2-y1)*(1+yP)*(1+y3)):=by grind
theorem eA_poly (s t y1 y2 yP xa:Fin n) (hx:xa*(1-yP)=1+yP):(1-yP)*((t*y2*s+t*(s*y1))*(t*y2*s+t*(s*y1))+xa*((t*y2*s-t*(s*y1))*(t*y2*s-t*(s*y1))))=(s*t)*(s*t)*((y1+y2)*(y1+y2)*(1-yP)+(y2-y1)*(y2-y1)*(1+yP)):=by
 rw [← hx]; clear hx; grind
theorem eB_poly (s t y1 y2 yP xa:Fin n) (hx:xa*(1-yP)=1+yP):(1-yP)*((t*y2*s+t*(s*y1))*(t*y2*s+t*(s*y1))-xa*((t*y2*s-t*(s*y1))*(t*y2*s-t*(s*y1))))=(s*t)*(s*t)*((y1+y2)*(y1+y2)*(1-yP)-(y2-y1)*(y2-y1)*(1+yP)):=by
 rw [← hx]; clear hx; grind
theorem uv_poly (U V y3:Fin n) (h:U+V=0) (k:U*(1-y3)=V*(1+y3)):2*U=0:=by grind
theorem uv_end (U V y3 q:Fin n) (k:U*(1-y3)=V*(1+y3)):q*(U-V)=q*(U+V)*y3:=by grind
theorem at_nought (x1 x2 yP:Fin n) (c1:x1*x1+0*0=1+d*(x1*x1)*(0*0)) (c2:x2*x2+0*0=1+d*(x2*x2)*(0*0)) (e:yP*(1+d*x1*x2*0*0)=0*0+x1*x2):(1-yP)*(1+yP)=0:=by grind
theorem lone (a b:Fin n) (h:a+b=0) (h':b-a=0):2*a=0:=by grind
theorem two_zero (b:Fin n) (h:0+b=0):b=0:=by grind
theorem zero_of_sum (U V:Fin n) (h:U+V=0) (hu:U=0):V=0:=by grind
theorem ne_m (y:Fin n) (h:1-y=0):y=1:=by grind
theorem ne_p (y:Fin n) (h:1+y=0):y=-1:=by grind
theorem mul_z (a:Fin n):a*0=(0:Fin n):=by grind
theorem Fld.back (h:Fld d iv) {P R:Pt n} (hP:On d P) (hR:On d R):sum d iv (sum d iv R P) (neg R)=P:=by
 rw [sum_comm R P,h.assoc hP hR (neg_on hR),h.sum_neg hR,h.sum_nil]
theorem Fld.dadd (h:Fld d iv) {P R:Pt n} (hP:On d P) (hR:On d R) {xa:Fin n} (hx:xa*(1-P.y)=1+P.y) (h1:P.y≠1) (h2:P.y≠-1)
 {X2 Z2 X3 Z3:Fin n} (r:Rel R.y X2 Z2) (r':Rel (sum d iv R P).y X3 Z3) :
 Rel (sum d iv R (sum d iv R P)).y (((X3-Z3)*(X2+Z2)+(X3+Z3)*(X2-Z2))*((X3-Z3)*(X2+Z2)+(X3+Z3)*(X2-Z2)))
  (xa*(((X3-Z3)*(X2+Z2)-(X3+Z3)*(X2-Z2))*((X3-Z3)*(X2+Z2)-(X3+Z3)*(X2-Z2)))):=by
 obtain ⟨ne,eq⟩:=r
 obtain ⟨ne',eq'⟩:=r'
 rw [eq,eq']
 generalize X2+Z2=s at *; generalize X3+Z3=t at *; have oS:=h.sum_on hR hP; have hb:=h.back hP hR
 obtain ⟨_,e1⟩:=h.sum_eq oS (neg_on hR)
 rw [hb] at e1
 obtain ⟨_,e2⟩:=h.sum_eq hR oS
 obtain ⟨w1,w2⟩:=h.whole hR oS
 have hp:=dadd_poly R.x R.y (sum d iv R P).x (sum d iv R P).y _ hR oS rfl; generalize (sum d iv R (sum d iv R P)).y=y3 at *; generalize hS:sum d iv R P=S at *; clear hS hb eq eq'
 cases R with | mk x1 y1 =>
 cases S with | mk x2 y2 =>
 cases P with | mk xP yP =>
 simp only [neg,On] at *
 have e1':=turn_neg yP x1 x2 y1 y2 e1
 clear e1
 rw [← e1',← e2] at hp
 have W:=h.mul_ne w1 w2; have key:=h.cancel W (key_poly _ _ _ _ _ hp); clear hp
 have m1:1-yP≠0:=fun z=>h1 (ne_m _ z)
 have p1:1+yP≠0:=fun z=>h2 (ne_p _ z)
 have st:=h.mul_ne ne ne'; have eA:=eA_poly s t y1 y2 yP xa hx; have eB:=eB_poly s t y1 y2 yP xa hx
 refine ⟨fun z=>?_,?_⟩
 · rw [z,mul_z] at eA
   have z2:(y1+y2)*(y1+y2)*(1-yP)+(y2-y1)*(y2-y1)*(1+yP)=0:=by
    rcases h.dom eA.symm with q | q
    · exact absurd q (h.mul_ne st st)
    · exact q
   have z3:(y1+y2)*(y1+y2)*(1-yP)=0:=by
    rcases h.dom (uv_poly _ _ _ z2 key) with q | q
    · exact absurd q h.two
    · exact q
   have z4:(y2-y1)*(y2-y1)*(1+yP)=0:=zero_of_sum _ _ z2 z3
   have u1:y1+y2=0:=by
    rcases h.dom z3 with q | q
    · rcases h.dom q with q | q <;> exact q
    · exact absurd q m1
   have u2:y2-y1=0:=by
    rcases h.dom z4 with q | q
    · rcases h.dom q with q | q <;> exact q
    · exact absurd q p1
   have u3:y1=0:=by
    rcases h.dom (lone _ _ u1 u2) with q | q
    · exact absurd q h.two
    · exact q
   rw [u3] at u1
   have u4:y2=0:=two_zero _ u1
   rw [u3] at hR e1'
   rw [u4] at oS e1'
   rcases h.dom (at_nought _ _ _ hR oS e1') with q | q
   · exact m1 q
   · exact p1 q
 · refine h.cancel m1 ?_
   rw [eB,uv_end _ _ y3 _ key,← eA]
   exact Fin.mul_assoc _ _ _
end
end Ed
end
end Go.Proofs.YtklnibmfpcmeeaaGreatDoor
