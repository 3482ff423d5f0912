/- Texts of Api Pair Square Prime Math Ed Lad Fz Kq Pick Rung Trim Times, joined. -/
import Derived.Test.YtknodlefhclijaaGreatDoorP6ShakePlays
set_option maxRecDepth 20000
set_option maxHeartbeats 64000000
namespace Go.Proofs.YtknodlefhclijaaGreatDoor
open Go.RowKit
theorem vH {w:World} {b:Nat} {g:Nat→Int} (h:w.there b 0 32):w.there b 0 (row .u8 32 g).toArray.size:=by rw [xA,jX]; exact h
structure kTwo (a b:Nat→Int) (w w':World):Prop where
 ha:Has w' w.heap.size .u8 32 a
 hb:Has w' (w.heap.size+1) .u8 32 b
 hr:w'.there (w.heap.size+1+1) 0 32
 fr:Fr w 3 w'
theorem kTwo.call {a b:Nat→Int} {w w' w'':World} (h:kTwo a b w w') (l:Below w'.heap.size w' w''):kTwo a b w w'' :=
 ⟨h.ha.call h.fr l JK,h.hb.call h.fr l JK,xF h.hr l (by have:=h.fr.size; omega),h.fr.call l⟩
theorem kTwo.drew {a b:Nat→Int} {w w':World} (h:kTwo a b w w'):kTwo a b w w'.drew:=⟨h.ha.drew,h.hb.drew,h.hr,h.fr.drew⟩
theorem kTwo.stored {a b:Nat→Int} {w w':World} (h:kTwo a b w w') (f:Nat→Int):kTwo a b w (w'.setCells (w.heap.size+1+1) 0 (row .u8 32 f)) :=
 ⟨h.ha.setAll_other _ JK 0 _,h.hb.setAll_other _ JK 0 _,World.there_setCells h.hr _ _ _,h.fr.setAll _ JK _⟩
theorem kTwo.new (a b:Nat→Int) (w:World):kTwo a b w (((w.alloc (.cells (row .u8 32 a).toArray 23)).alloc (.cells (row .u8 32 b).toArray 23)).alloc (.cells jY 23)) :=
 ⟨((Has.new w _ _ _ _ _ rfl).alloc _ Jf).alloc _ Ji,(Has.new _ _ _ _ _ _ Jf).alloc _ Jf,(jK _ _ _ Jf).there,(((Fr.refl w).alloc _).alloc _).alloc _⟩
theorem q9w (a b:Nat→Int) (ha:In 256 32 a) (hb:In 256 32 b) (w:World) (hg:kGlob w) :
 Calls Tryz.prog 76 #[(.agg (row .u8 32 (a)).toArray),(.agg (row .u8 32 (b)).toArray)] w fun e w'=>∃ f:Nat→Int,e=.returned (.agg (row .u8 32 (f)).toArray)∧(In 256 32 f∧val 256 f 32=(val 256 a 32+val 256 b 32)%kQ)∧Below w.heap.size w w':=by
 have t0:=(kTwo.new a b w).drew
 go_enter Tryz.func76,Tryz.ntmps76
 go_wp2; refine wD (S:=fun w'=>kTwo a b w w') JU t0 ?_; intro t0; refine q0h (i:=0) (some 5) rfl .u8 32 a w.heap.size 23 _ _ rfl rfl rfl rfl JU JU JU (fun _ _ _ h=>h) Tryz.underlying23 rfl (jJ a) t0 (fun _ h=>h.ha) ?_
 refine q0h (i:=2) (some 7) rfl .u8 32 b (w.heap.size+1) 23 _ _ rfl rfl rfl rfl JU JU JU (fun _ _ _ h=>h) Tryz.underlying23 rfl (jJ b) t0 (fun _ h=>h.hb) ?_; refine yaH 1 6 (vD a ha _) ?_; rintro e w1 ⟨m1,rfl,s1,l1⟩; have t1:=t0.call l1
 refine ⟨_,rfl,t1,?_⟩
 refine yaH 3 8 (vD b hb _) ?_; rintro e w2 ⟨m2,rfl,s2,l2⟩; have t2:=t1.call l2
 refine ⟨_,rfl,t2,?_⟩
 refine yaH 4 9 (q7j m1 m2 s1.1 s2.1 _) ?_; rintro e w3 ⟨m3,rfl,s3,l3⟩; have t3:=t2.call l3
 refine ⟨_,rfl,t3,?_⟩
 refine yaH 5 10 (mN m3 s3.1 _ (hg.fr t3.fr)) ?_; rintro e w4 ⟨f,rfl,s4,l4⟩; have t4:=t3.call l4
 refine ⟨_,rfl,t4,?_⟩
 refine xX (i:=6) none rfl .u8 32 f (w.heap.size+1+1) 23 _ _ JU rfl rfl rfl rfl rfl (vH t4.hr) (jV f) (t4.stored f) ?_
 refine wE JU ?_ _
 have hE:In 256 32 f∧val 256 f 32=(val 256 a 32+val 256 b 32)%kQ:=⟨s4.1,by rw [s4.2,s3.2,s1.2,s2.2]⟩
 have HE:=show Hid _ from hE; clear hE s1 s2 s3 s4; go_wp2
 exact bRq (v:=(.agg (row .u8 32 (f)).toArray)) (jQ Tryz.results76 rfl (Has.all t4.hr .u8 f).range Tryz.underlying23 rfl (jJ f)) rfl ⟨f,rfl,HE.out,(t4.stored f).fr.below⟩
theorem q7l (a b:Nat→Int) (ha:In 256 32 a) (hb:In 256 32 b) (w:World) (hg:kGlob w) :
 Calls Tryz.prog 77 #[(.agg (row .u8 32 (a)).toArray),(.agg (row .u8 32 (b)).toArray)] w fun e w'=>∃ f:Nat→Int,e=.returned (.agg (row .u8 32 (f)).toArray)∧(In 256 32 f∧val 256 f 32=(val 256 a 32-val 256 b 32)%kQ)∧Below w.heap.size w w':=by
 have t0:=(kTwo.new a b w).drew
 go_enter Tryz.func77,Tryz.ntmps77
 go_wp2; refine wD (S:=fun w'=>kTwo a b w w') JU t0 ?_; intro t0; refine q0h (i:=0) (some 5) rfl .u8 32 a w.heap.size 23 _ _ rfl rfl rfl rfl JU JU JU (fun _ _ _ h=>h) Tryz.underlying23 rfl (jJ a) t0 (fun _ h=>h.ha) ?_
 refine q0h (i:=2) (some 7) rfl .u8 32 b (w.heap.size+1) 23 _ _ rfl rfl rfl rfl JU JU JU (fun _ _ _ h=>h) Tryz.underlying23 rfl (jJ b) t0 (fun _ h=>h.hb) ?_; refine yaH 1 6 (vD a ha _) ?_; rintro e w1 ⟨m1,rfl,s1,l1⟩; have t1:=t0.call l1
 refine ⟨_,rfl,t1,?_⟩
 refine yaH 3 8 (vD b hb _) ?_; rintro e w2 ⟨m2,rfl,s2,l2⟩; have t2:=t1.call l2
 refine ⟨_,rfl,t2,?_⟩
 refine yaH 4 9 (eM m1 m2 s1.1 s2.1 _) ?_; rintro e w3 ⟨m3,rfl,s3,l3⟩; have t3:=t2.call l3
 refine ⟨_,rfl,t3,?_⟩
 refine yaH 5 10 (mN m3 s3.1 _ (hg.fr t3.fr)) ?_; rintro e w4 ⟨f,rfl,s4,l4⟩; have t4:=t3.call l4
 refine ⟨_,rfl,t4,?_⟩
 refine xX (i:=6) none rfl .u8 32 f (w.heap.size+1+1) 23 _ _ JU rfl rfl rfl rfl rfl (vH t4.hr) (jV f) (t4.stored f) ?_
 refine wE JU ?_ _
 have hE:In 256 32 f∧val 256 f 32=(val 256 a 32-val 256 b 32)%kQ:=⟨s4.1,by rw [s4.2,s3.2,s1.2,s2.2]⟩
 have HE:=show Hid _ from hE; clear hE s1 s2 s3 s4; go_wp2
 exact bRq (v:=(.agg (row .u8 32 (f)).toArray)) (jQ Tryz.results77 rfl (Has.all t4.hr .u8 f).range Tryz.underlying23 rfl (jJ f)) rfl ⟨f,rfl,HE.out,(t4.stored f).fr.below⟩
theorem j8n (a b:Nat→Int) (ha:In 256 32 a) (hb:In 256 32 b) (w:World) (hg:kGlob w) :
 Calls Tryz.prog 53 #[(.agg (row .u8 32 (a)).toArray),(.agg (row .u8 32 (b)).toArray)] w fun e w'=>∃ f:Nat→Int,e=.returned (.agg (row .u8 32 (f)).toArray)∧(In 256 32 f∧val 256 f 32=(val 256 a 32*val 256 b 32)%kQ)∧Below w.heap.size w w':=by
 have t0:=(kTwo.new a b w).drew
 go_enter Tryz.func53,Tryz.ntmps53
 go_wp2; refine wD (S:=fun w'=>kTwo a b w w') JU t0 ?_; intro t0; refine q0h (i:=0) (some 5) rfl .u8 32 a w.heap.size 23 _ _ rfl rfl rfl rfl JU JU JU (fun _ _ _ h=>h) Tryz.underlying23 rfl (jJ a) t0 (fun _ h=>h.ha) ?_
 refine q0h (i:=2) (some 7) rfl .u8 32 b (w.heap.size+1) 23 _ _ rfl rfl rfl rfl JU JU JU (fun _ _ _ h=>h) Tryz.underlying23 rfl (jJ b) t0 (fun _ h=>h.hb) ?_; refine yaH 1 6 (vD a ha _) ?_; rintro e w1 ⟨m1,rfl,s1,l1⟩; have t1:=t0.call l1
 refine ⟨_,rfl,t1,?_⟩
 refine yaH 3 8 (vD b hb _) ?_; rintro e w2 ⟨m2,rfl,s2,l2⟩; have t2:=t1.call l2
 refine ⟨_,rfl,t2,?_⟩
 refine yaH 4 9 (kG m1 m2 s1.1 s2.1 _) ?_; rintro e w3 ⟨m3,rfl,s3,l3⟩; have t3:=t2.call l3
 refine ⟨_,rfl,t3,?_⟩
 refine yaH 5 10 (mN m3 s3.1 _ (hg.fr t3.fr)) ?_; rintro e w4 ⟨f,rfl,s4,l4⟩; have t4:=t3.call l4
 refine ⟨_,rfl,t4,?_⟩
 refine xX (i:=6) none rfl .u8 32 f (w.heap.size+1+1) 23 _ _ JU rfl rfl rfl rfl rfl (vH t4.hr) (jV f) (t4.stored f) ?_
 refine wE JU ?_ _
 have hE:In 256 32 f∧val 256 f 32=(val 256 a 32*val 256 b 32)%kQ:=⟨s4.1,by rw [s4.2,s3.2,s1.2,s2.2]⟩
 have HE:=show Hid _ from hE; clear hE s1 s2 s3 s4; go_wp2
 exact bRq (v:=(.agg (row .u8 32 (f)).toArray)) (jQ Tryz.results53 rfl (Has.all t4.hr .u8 f).range Tryz.underlying23 rfl (jJ f)) rfl ⟨f,rfl,HE.out,(t4.stored f).fr.below⟩
theorem j6x (a:Nat→Int) (ha:In 256 32 a) (w:World) (hg:kGlob w) :
 Calls Tryz.prog 54 #[(.agg (row .u8 32 (a)).toArray)] w fun e w'=>∃ f:Nat→Int,e=.returned (.agg (row .u8 32 (f)).toArray)∧(In 256 32 f∧val 256 f 32=val 256 a 32^E%kQ)∧Below w.heap.size w w':=by
 have a0:Has ((w.alloc (.cells (row .u8 32 a).toArray 23)).alloc (.cells jY 23)) w.heap.size .u8 32 a:=(Has.new w _ _ _ _ _ rfl).alloc _ Jf
 have z0:Has ((w.alloc (.cells (row .u8 32 a).toArray 23)).alloc (.cells jY 23)) (w.heap.size+1) .u8 32 (fun _=>0):=jK _ _ _ Jf
 have g0:Fr w 2 ((w.alloc (.cells (row .u8 32 a).toArray 23)).alloc (.cells jY 23)):=((Fr.refl w).alloc _).alloc _
 go_enter Tryz.func54,Tryz.ntmps54
 go_wp2_with (refine yl (a0) Tryz.underlying23 (jJ _) ?_)
 refine (vD a ha _).mono ?_; rintro e w1 ⟨m,rfl,s1,l1⟩; have g1:=g0.call l1; have z1:=z0.call g0 l1 JK; have i1:=s1.1; have H1:=show Hid _ from s1; clear s1
 go_wp2_with fail
 refine (j4h m i1 _ (hg.fr g1)).mono ?_; rintro e w2 ⟨m2,rfl,s2,l2⟩; have g2:=g1.call l2; have z2:=z1.call g1 l2 JK; have i2:=s2.1; have H2:=show Hid _ from s2; clear s2
 go_wp2_with fail
 refine (mN m2 i2 _ (hg.fr g2)).mono ?_; rintro e w3 ⟨f,rfl,s3,l3⟩; have z3:=z2.call g2 l3 JK
 have hE:In 256 32 f∧val 256 f 32=val 256 a 32^E%kQ:=⟨s3.1,by rw [s3.2,H2.out.2,H1.out.2]⟩
 have HE:=show Hid _ from hE; clear hE s3
 go_wp2_with (refine ys .u8 32 (f) (yQ (z3)) (jV _) ?_)
 exact bRq (v:=(.agg (row .u8 32 (f)).toArray)) (jQ Tryz.results54 rfl (Has.all z3.there .u8 f).range Tryz.underlying23 rfl (jJ f)) rfl ⟨f,rfl,HE.out,((g2.call l3).setAll _ JK _).below⟩
section
section
variable {P:Program} {ops:Array Oper} {kQ:Exit→Act→World→Prop} {md:Region.Mode} {S:World→Prop}
theorem j8i {c1 c2 a1 a2:Nat} {x1 x2 y1 y2:Oper} (r1 r2 t1 t2:Tmp) {n w0:Nat} {f1 f2:FuncId} {g1 g2:Array Value} (c:Array Value) (t:TypeId) (V1 V2:Value→Prop) {fuel:Nat} {L:Array Bool} {a:Act} {w:World}
 (i1:ops[c1]?=some x1) (i2:ops[c2]?=some x2) (j1:ops[a1]?=some y1) (j2:ops[a2]?=some y2)
 (n12:c1≠a1) (n13:c1≠a2) (n21:c2≠a1) (n22:c2≠a2) (n23:a1≠a2)
 (p2:r1≠t1) (p3:r1≠t2) (p4:r2≠t1) (p5:r2≠t2) (p6:t1≠t2)
 (k1:x1.dst=some r1) (k2:x2.dst=some r2) (k3:y1.dst=some t1) (k4:y2.dst=some t2) (q1:x1.guard=none) (q2:x2.guard=none) (q3:y1.guard=none) (q4:y2.guard=none)
 (s1:∀ cs b,x1.op≠.select cs b) (s2:∀ cs b,x2.op≠.select cs b)
 (l1:t1∉x1.looksAt ops) (l2:t2∉x1.looksAt ops) (l3:t1∉x2.looksAt ops) (l4:t2∉x2.looksAt ops) (l5:r1∉x2.looksAt ops)
 (m000:Region.ready md ops L=[c1,a1,a2])
 (m010:Region.ready md ops (L.setIfInBounds a1 true)=[c1,a2])
 (m001:Region.ready md ops (L.setIfInBounds a2 true)=[c1,a1])
 (m011:Region.ready md ops ((L.setIfInBounds a1 true).setIfInBounds a2 true)=[c1])
 (m100:Region.ready md ops (L.setIfInBounds c1 true)=[c2,a1,a2])
 (m110:Region.ready md ops ((L.setIfInBounds c1 true).setIfInBounds a1 true)=[c2,a2])
 (m101:Region.ready md ops ((L.setIfInBounds c1 true).setIfInBounds a2 true)=[c2,a1])
 (m111:Region.ready md ops (((L.setIfInBounds c1 true).setIfInBounds a1 true).setIfInBounds a2 true)=[c2])
 (m200:Region.ready md ops ((L.setIfInBounds c1 true).setIfInBounds c2 true)=[a1,a2])
 (m210:Region.ready md ops (((L.setIfInBounds c1 true).setIfInBounds c2 true).setIfInBounds a1 true)=[a2])
 (m201:Region.ready md ops (((L.setIfInBounds c1 true).setIfInBounds c2 true).setIfInBounds a2 true)=[a1])
 (e1:∀ w,(execOp a.eval x1).run P w=.ok (.enter f1 g1) w) (e2:∀ w,(execOp a.eval x2).run P w=.ok (.enter f2 g2) w)
 (e3:∀ (b:Act) (w:World),(execOp b.eval y1).run P w=.ok (.value (.pointer (some ⟨w.heap.size,0,none⟩))) (w.alloc (.cells c t)))
 (e4:∀ (b:Act) (w:World),(execOp b.eval y2).run P w=.ok (.value (.pointer (some ⟨w.heap.size,0,none⟩))) (w.alloc (.cells c t)))
 (hn:∀ w:World,(w.alloc (.cells c t)).there w.heap.size 0 n)
 (hS:S w) (hS0:∀ w,S w→w0≤w.heap.size) (hSc:∀ w w',S w→Below w.heap.size w w'→S w')
 (C1:∀ w,S w→Calls P f1 g1 w fun e w'=>∃ v,e=.returned v∧V1 v∧Below w.heap.size w w')
 (C2:∀ w,S w→Calls P f2 g2 w fun e w'=>∃ v,e=.returned v∧V2 v∧Below w.heap.size w w')
 (hK:∀ v1 v2 B1 B2 w',V1 v1→V2 v2→S w'→Fb n w0 B1 w'→Fb n w0 B2 w'→B1≠B2 →
  wpAnyH P md ops kQ S fuel ((((L.setIfInBounds c1 true).setIfInBounds c2 true).setIfInBounds a1 true).setIfInBounds a2 true) ((((a.put (some r1) v1).put (some r2) v2).put (some t1) (.pointer (some ⟨B1,0,none⟩))).put (some t2) (.pointer (some ⟨B2,0,none⟩))) w') :
 wpAnyH P md ops kQ S (fuel+4) L a w:=by
 have hSa:∀ w:World,S w→S (w.alloc (.cells c t)):=fun w h=>hSc w _ h ((Below.refl w.heap.size w).alloc (xnR _) _)
 have hNew:∀ w:World,S w→Fb n w0 w.heap.size (w.alloc (.cells c t)):=fun w h=>⟨hS0 w h,by simp,hn w⟩
 have s210:∀ v1 v2 B1 w',V1 v1→V2 v2→S w'→Fb n w0 B1 w'→wpAnyH P md ops kQ S (fuel+1) (((L.setIfInBounds c1 true).setIfInBounds c2 true).setIfInBounds a1 true) (((a.put (some r1) v1).put (some r2) v2).put (some t1) (.pointer (some ⟨B1,0,none⟩))) w':=by
  intro v1 v2 B1 w' h1 h2 hs hb; refine wpAnyH_all m210 Jf fun i hi=>?_
  obtain rfl:=xm1 hi; refine zC j2 q4 (e4 _ w') ?_; rw [k4]; exact ⟨hSa _ hs,hK v1 v2 B1 _ _ h1 h2 (hSa _ hs) (hb.alloc _) (hNew _ hs) Ux⟩
 have s201:∀ v1 v2 B2 w',V1 v1→V2 v2→S w'→Fb n w0 B2 w'→wpAnyH P md ops kQ S (fuel+1) (((L.setIfInBounds c1 true).setIfInBounds c2 true).setIfInBounds a2 true) (((a.put (some r1) v1).put (some r2) v2).put (some t2) (.pointer (some ⟨B2,0,none⟩))) w':=by
  intro v1 v2 B2 w' h1 h2 hs hb; refine wpAnyH_all m201 Jf fun i hi=>?_
  obtain rfl:=xm1 hi; refine zC j1 q3 (e3 _ w') ?_; rw [k3]; exact ⟨hSa _ hs,yF (hK v1 v2 _ B2 _ h1 h2 (hSa _ hs) (hNew _ hs) (hb.alloc _) Ux) (Array.setIfInBounds_comm _ _ n23.symm) (yL _ _ _ p6.symm)⟩
 have s111:∀ v1 B1 B2 w',V1 v1→S w'→Fb n w0 B1 w'→Fb n w0 B2 w'→B1≠B2→wpAnyH P md ops kQ S (fuel+1) (((L.setIfInBounds c1 true).setIfInBounds a1 true).setIfInBounds a2 true) (((a.put (some r1) v1).put (some t1) (.pointer (some ⟨B1,0,none⟩))).put (some t2) (.pointer (some ⟨B2,0,none⟩))) w':=by
  intro v1 B1 B2 w' h1 hs hb1 hb2 hne; refine wpAnyH_all m111 Jf fun i hi=>?_
  obtain rfl:=xm1 hi; refine gA i2 q2 (by rw [pF (ops:=ops) t1 t2 _ _ s2 l3 l4,sY (ops:=ops) r1 _ s2 l5]; exact e2 w') (C2 w' hs) fun e w'' hR=>?_
  obtain ⟨v2,rfl,h2,l⟩:=hR; refine ⟨v2,rfl,hSc _ _ hs l,?_⟩; rw [k2]; refine yF (hK v1 v2 B1 B2 _ h1 h2 (hSc _ _ hs l) (hb1.call l) (hb2.call l) hne) ?_ ?_
  · rw [Array.setIfInBounds_comm _ _ n22.symm,Array.setIfInBounds_comm _ _ n21.symm]
  rw [yL _ _ _ p5.symm,yL _ _ _ p4.symm]
 have s200:∀ v1 v2 w',V1 v1→V2 v2→S w'→wpAnyH P md ops kQ S (fuel+2) ((L.setIfInBounds c1 true).setIfInBounds c2 true) ((a.put (some r1) v1).put (some r2) v2) w':=by
  intro v1 v2 w' h1 h2 hs; refine wpAnyH_all m200 Jf fun i hi=>?_
  simp only [List.mem_cons,List.not_mem_nil,or_false] at hi; rcases hi with rfl | rfl
  · refine zC j1 q3 (e3 _ w') ?_; rw [k3]; exact ⟨hSa _ hs,s210 v1 v2 _ _ h1 h2 (hSa _ hs) (hNew _ hs)⟩
  refine zC j2 q4 (e4 _ w') ?_; rw [k4]; exact ⟨hSa _ hs,s201 v1 v2 _ _ h1 h2 (hSa _ hs) (hNew _ hs)⟩
 have s110:∀ v1 B1 w',V1 v1→S w'→Fb n w0 B1 w'→wpAnyH P md ops kQ S (fuel+2) ((L.setIfInBounds c1 true).setIfInBounds a1 true) ((a.put (some r1) v1).put (some t1) (.pointer (some ⟨B1,0,none⟩))) w':=by
  intro v1 B1 w' h1 hs hb; refine wpAnyH_all m110 Jf fun i hi=>?_
  simp only [List.mem_cons,List.not_mem_nil,or_false] at hi; rcases hi with rfl | rfl
  · refine gA i2 q2 (by rw [pF (ops:=ops) r1 t1 _ _ s2 l5 l3]; exact e2 w') (C2 w' hs) fun e w'' hR=>?_
    obtain ⟨v2,rfl,h2,l⟩:=hR; refine ⟨v2,rfl,hSc _ _ hs l,?_⟩; rw [k2]; exact yF (s210 v1 v2 B1 _ h1 h2 (hSc _ _ hs l) (hb.call l)) (Array.setIfInBounds_comm _ _ n21.symm) (yL _ _ _ p4.symm)
  refine zC j2 q4 (e4 _ w') ?_; rw [k4]; exact ⟨hSa _ hs,s111 v1 B1 _ _ h1 (hSa _ hs) (hb.alloc _) (hNew _ hs) Ux⟩
 have s101:∀ v1 B2 w',V1 v1→S w'→Fb n w0 B2 w'→wpAnyH P md ops kQ S (fuel+2) ((L.setIfInBounds c1 true).setIfInBounds a2 true) ((a.put (some r1) v1).put (some t2) (.pointer (some ⟨B2,0,none⟩))) w':=by
  intro v1 B2 w' h1 hs hb; refine wpAnyH_all m101 Jf fun i hi=>?_
  simp only [List.mem_cons,List.not_mem_nil,or_false] at hi; rcases hi with rfl | rfl
  · refine gA i2 q2 (by rw [pF (ops:=ops) r1 t2 _ _ s2 l5 l4]; exact e2 w') (C2 w' hs) fun e w'' hR=>?_
    obtain ⟨v2,rfl,h2,l⟩:=hR; refine ⟨v2,rfl,hSc _ _ hs l,?_⟩; rw [k2]; exact yF (s201 v1 v2 B2 _ h1 h2 (hSc _ _ hs l) (hb.call l)) (Array.setIfInBounds_comm _ _ n22.symm) (yL _ _ _ p5.symm)
  refine zC j1 q3 (e3 _ w') ?_; rw [k3]; exact ⟨hSa _ hs,yF (s111 v1 _ B2 _ h1 (hSa _ hs) (hNew _ hs) (hb.alloc _) Ux) (Array.setIfInBounds_comm _ _ n23.symm) (yL _ _ _ p6.symm)⟩
 have s011:∀ B1 B2 w',S w'→Fb n w0 B1 w'→Fb n w0 B2 w'→B1≠B2→wpAnyH P md ops kQ S (fuel+2) ((L.setIfInBounds a1 true).setIfInBounds a2 true) ((a.put (some t1) (.pointer (some ⟨B1,0,none⟩))).put (some t2) (.pointer (some ⟨B2,0,none⟩))) w':=by
  intro B1 B2 w' hs hb1 hb2 hne; refine wpAnyH_all m011 Jf fun i hi=>?_
  obtain rfl:=xm1 hi; refine gA i1 q1 (by rw [pF (ops:=ops) t1 t2 _ _ s1 l1 l2]; exact e1 w') (C1 w' hs) fun e w'' hR=>?_
  obtain ⟨v1,rfl,h1,l⟩:=hR; refine ⟨v1,rfl,hSc _ _ hs l,?_⟩; rw [k1]; refine yF (s111 v1 B1 B2 _ h1 (hSc _ _ hs l) (hb1.call l) (hb2.call l) hne) ?_ ?_
  · rw [Array.setIfInBounds_comm _ _ n13.symm,Array.setIfInBounds_comm _ _ n12.symm]
  rw [yL _ _ _ p3.symm,yL _ _ _ p2.symm]
 have s100:∀ v1 w',V1 v1→S w'→wpAnyH P md ops kQ S (fuel+3) (L.setIfInBounds c1 true) (a.put (some r1) v1) w':=by
  intro v1 w' h1 hs; refine wpAnyH_all m100 Jf fun i hi=>?_
  simp only [List.mem_cons,List.not_mem_nil,or_false] at hi; rcases hi with rfl | rfl | rfl
  · refine gA i2 q2 (by rw [sY (ops:=ops) r1 _ s2 l5]; exact e2 w') (C2 w' hs) fun e w'' hR=>?_
    obtain ⟨v2,rfl,h2,l⟩:=hR; refine ⟨v2,rfl,hSc _ _ hs l,?_⟩; rw [k2]; exact s200 v1 v2 _ h1 h2 (hSc _ _ hs l)
  · refine zC j1 q3 (e3 _ w') ?_; rw [k3]; exact ⟨hSa _ hs,s110 v1 _ _ h1 (hSa _ hs) (hNew _ hs)⟩
  refine zC j2 q4 (e4 _ w') ?_; rw [k4]; exact ⟨hSa _ hs,s101 v1 _ _ h1 (hSa _ hs) (hNew _ hs)⟩
 have s010:∀ B1 w',S w'→Fb n w0 B1 w'→wpAnyH P md ops kQ S (fuel+3) (L.setIfInBounds a1 true) (a.put (some t1) (.pointer (some ⟨B1,0,none⟩))) w':=by
  intro B1 w' hs hb; refine wpAnyH_all m010 Jf fun i hi=>?_
  simp only [List.mem_cons,List.not_mem_nil,or_false] at hi; rcases hi with rfl | rfl
  · refine gA i1 q1 (by rw [sY (ops:=ops) t1 _ s1 l1]; exact e1 w') (C1 w' hs) fun e w'' hR=>?_
    obtain ⟨v1,rfl,h1,l⟩:=hR; refine ⟨v1,rfl,hSc _ _ hs l,?_⟩; rw [k1]; exact yF (s110 v1 B1 _ h1 (hSc _ _ hs l) (hb.call l)) (Array.setIfInBounds_comm _ _ n12.symm) (yL _ _ _ p2.symm)
  refine zC j2 q4 (e4 _ w') ?_; rw [k4]; exact ⟨hSa _ hs,s011 B1 _ _ (hSa _ hs) (hb.alloc _) (hNew _ hs) Ux⟩
 have s001:∀ B2 w',S w'→Fb n w0 B2 w'→wpAnyH P md ops kQ S (fuel+3) (L.setIfInBounds a2 true) (a.put (some t2) (.pointer (some ⟨B2,0,none⟩))) w':=by
  intro B2 w' hs hb; refine wpAnyH_all m001 Jf fun i hi=>?_
  simp only [List.mem_cons,List.not_mem_nil,or_false] at hi; rcases hi with rfl | rfl
  · refine gA i1 q1 (by rw [sY (ops:=ops) t2 _ s1 l2]; exact e1 w') (C1 w' hs) fun e w'' hR=>?_
    obtain ⟨v1,rfl,h1,l⟩:=hR; refine ⟨v1,rfl,hSc _ _ hs l,?_⟩; rw [k1]; exact yF (s101 v1 B2 _ h1 (hSc _ _ hs l) (hb.call l)) (Array.setIfInBounds_comm _ _ n13.symm) (yL _ _ _ p3.symm)
  refine zC j1 q3 (e3 _ w') ?_; rw [k3]; exact ⟨hSa _ hs,yF (s011 _ B2 _ (hSa _ hs) (hNew _ hs) (hb.alloc _) Ux) (Array.setIfInBounds_comm _ _ n23.symm) (yL _ _ _ p6.symm)⟩
 refine wpAnyH_all m000 Jf fun i hi=>?_
 simp only [List.mem_cons,List.not_mem_nil,or_false] at hi
 rcases hi with rfl | rfl | rfl
 · refine gA i1 q1 (e1 w) (C1 w hS) fun e w'' hR=>?_
   obtain ⟨v1,rfl,h1,l⟩:=hR; refine ⟨v1,rfl,hSc _ _ hS l,?_⟩; rw [k1]; exact s100 v1 _ h1 (hSc _ _ hS l)
 · refine zC j1 q3 (e3 _ w) ?_; rw [k3]; exact ⟨hSa _ hS,s010 _ _ (hSa _ hS) (hNew _ hS)⟩
 refine zC j2 q4 (e4 _ w) ?_
 rw [k4]
 exact ⟨hSa _ hS,s001 _ _ (hSa _ hS) (hNew _ hS)⟩
end
end
theorem j5m (a:Nat→Int) (ha:In 256 32 a) (w:World) (hg:kGlob w) :
 Calls Tryz.prog 78 #[(.agg (row .u8 32 (a)).toArray)] w fun e w'=>∃ f:Nat→Int,e=.returned (.agg (row .u8 32 (f)).toArray)∧(In 256 32 f∧val 256 f 32=(val 256 a 32*val 256 a 32)%kQ)∧Below w.heap.size w w':=by
 have a0:Has ((w.alloc (.cells (row .u8 32 a).toArray 23)).alloc (.cells jY 23)) w.heap.size .u8 32 a:=(Has.new w _ _ _ _ _ rfl).alloc _ Jf
 have z0:Has ((w.alloc (.cells (row .u8 32 a).toArray 23)).alloc (.cells jY 23)) (w.heap.size+1) .u8 32 (fun _=>0):=jK _ _ _ Jf
 have g0:Fr w 2 ((w.alloc (.cells (row .u8 32 a).toArray 23)).alloc (.cells jY 23)):=((Fr.refl w).alloc _).alloc _
 go_enter Tryz.func78,Tryz.ntmps78
 go_wp2_with (refine yl (a0) Tryz.underlying23 (jJ _) ?_)
 refine (vD a ha _).mono ?_; rintro e w1 ⟨m,rfl,s1,l1⟩; have g1:=g0.call l1; have hN:=g1.size; have z1:=z0.call g0 l1 JK; have n0:=yA w1 105 w1.heap.size rfl; have n1:=Has.all n0.there .u64 m; have g2:=(g1.alloc (.cells vW 105)).setAll w1.heap.size JK (row .u64 4 m)
 have z2:=(z1.alloc (.cells vW 105) JK).setAll_other w1.heap.size JK 0 (row .u64 4 m); have i1:=s1.1; have H1:=show Hid _ from s1; clear s1 a0 z0 g0 l1
 go_wp2_with (first | (refine ys .u64 4 (m) (qT (n0)) (qM _) ?_) | (refine yl (n1) Tryz.underlying105 (qQ _) ?_))
 refine (kG m m i1 i1 _).mono ?_; rintro e w2 ⟨m2,rfl,s2,l2⟩; have g3:=g2.call l2; have z3:=z2.call g2 l2 JK; have i2:=s2.1; have H2:=show Hid _ from s2; clear s2
 go_wp2_with fail
 refine (mN m2 i2 _ (hg.fr g3)).mono ?_; rintro e w3 ⟨f,rfl,s3,l3⟩; have z4:=z3.call g3 l3 JK
 have hE:In 256 32 f∧val 256 f 32=(val 256 a 32*val 256 a 32)%kQ:=⟨s3.1,by rw [s3.2,H2.out.2,H1.out.2]⟩
 have HE:=show Hid _ from hE; clear hE s3
 go_wp2_with (refine ys .u8 32 (f) (yQ (z4)) (jV _) ?_)
 exact bRq (v:=(.agg (row .u8 32 (f)).toArray)) (jQ Tryz.results78 rfl (Has.all z4.there .u8 f).range Tryz.underlying23 rfl (jJ f)) rfl ⟨f,rfl,HE.out,((g3.call l3).setAll _ JK _).below⟩
namespace Num
def pm (n:Nat):Nat→Nat→Nat→Nat
 | 0,_,_=>1%n
 | f+1,a,e=>if e=0 then 1%n else if e%2=1 then (pm n f (a*a%n) (e/2)*a)%n else pm n f (a*a%n) (e/2)
theorem pm_eq (n : Nat) : ∀ f a e, e < 2 ^ f → pm n f a e = a ^ e % n := by
  intro f
  induction f with
  | zero => intro a e h; have : e = 0 := by simpa using h
            subst this; rfl
  | succ f ih =>
    intro a e h
    have h2 : e / 2 < 2 ^ f := by rw [Nat.pow_succ] at h; omega
    have hs : (a * a % n) ^ (e / 2) % n = (a ^ (2 * (e / 2))) % n := by rw [← Nat.pow_mod, Nat.pow_mul, Nat.pow_two]
    simp only [pm]
    by_cases h0 : e = 0
    · subst h0; simp
    · rw [if_neg h0]
      by_cases h1 : e % 2 = 1
      · rw [if_pos h1, ih _ _ h2, hs, Nat.mod_mul_mod, ← Nat.pow_succ]
        congr 2; omega
      · rw [if_neg h1, ih _ _ h2, hs]
        congr 2; omega
end Num
theorem x0o (a b:Int):(a%kQ*(b%kQ))%kQ=(a*b)%kQ:=(Int.mul_emod a b kQ).symm
theorem q4u (a b:Int):(a%kQ*b)%kQ=(a*b)%kQ:=by rw [Int.mul_emod,Int.emod_emod,← Int.mul_emod]
theorem x2z (a b:Int):(a*(b%kQ))%kQ=(a*b)%kQ:=by rw [Int.mul_comm,q4u,Int.mul_comm]
theorem x4v (a:Int) (n:Nat):(a%kQ)^n%kQ=a^n%kQ:=by
 induction n with
 | zero=>rw [Int.pow_zero,Int.pow_zero]
 | succ n ih=>rw [Int.pow_succ,Int.pow_succ,x2z,Int.mul_emod,ih,← Int.mul_emod]
theorem q2c (x:Int) (h:x%kQ=0):x^E%kQ=0:=by
 rw [← x4v,h,show E=(E-1)+1 from by decide +kernel,Int.pow_succ,Int.mul_zero]
 rfl
theorem vY (x:Int) (h0:0≤x) (h1:x<256):In 256 32 (one x)
 | 0,_=>⟨h0,h1⟩
 | _+1,_=>⟨Int.le_refl 0,Ve⟩
theorem bZ (x:Int):val 256 (one x) 32=x:=by simp [val,one]
section
namespace Ed
section
variable {n:Nat} [NeZero n]
structure Pt (n:Nat) where
 x:Fin n
 y:Fin n
variable {d:Fin n} {iv:Fin n→Fin n}
/-! The ladder: fractions X by Z,where (X-Z) by (X+Z) is a point's second number. -/
end
end Ed
end
section
namespace Ed
section
variable {n:Nat} [NeZero n] {d:Fin n} {iv:Fin n→Fin n}
structure St (n:Nat) where
 a:Fin n
 b:Fin n
 c:Fin n
 d:Fin n
def climb (k x:Fin n) (s:St n):St n :=
 ⟨((s.a+s.b)*(s.a+s.b))*((s.a-s.b)*(s.a-s.b)),
  ((s.a+s.b)*(s.a+s.b)-(s.a-s.b)*(s.a-s.b))*((s.a+s.b)*(s.a+s.b)+k*((s.a+s.b)*(s.a+s.b)-(s.a-s.b)*(s.a-s.b))),
  ((s.c-s.d)*(s.a+s.b)+(s.c+s.d)*(s.a-s.b))*((s.c-s.d)*(s.a+s.b)+(s.c+s.d)*(s.a-s.b)),
  x*(((s.c-s.d)*(s.a+s.b)-(s.c+s.d)*(s.a-s.b))*((s.c-s.d)*(s.a+s.b)-(s.c+s.d)*(s.a-s.b)))⟩
def swap (b:Bool) (s:St n):St n:=if b then ⟨s.c,s.d,s.a,s.b⟩ else s
def step (k x:Fin n) (b:Bool) (s:St n):St n:=swap b (climb k x (swap b s))
def run (k x:Fin n) (bit:Nat→Bool):Nat→St n
 | 0=>⟨1,0,x,1⟩
 | i+1=>step k x (bit (254-i)) (run k x bit i)
def out (iv:Fin n→Fin n) (s:St n):Fin n:=s.a*iv s.b
theorem x2q (a:Fin n):a*0=(0:Fin n):=by grind
theorem x0b (a:Fin n):0*a=(0:Fin n):=by grind
theorem x3l (a:Fin n):(a+0)*(a+0)-(a-0)*(a-0)=(0:Fin n):=by grind
theorem j2z (k:Fin n) (bit:Nat→Bool):∀ i,(run k 0 bit i).b=0
 | 0=>rfl
 | i+1=>by
   have ih:=j2z k bit i
   show (step k 0 (bit (254-i)) (run k 0 bit i)).b=0
   generalize run k 0 bit i=s at *
   cases bit (254-i) with
   | false =>
     show ((s.a+s.b)*(s.a+s.b)-(s.a-s.b)*(s.a-s.b))*_=0
     rw [ih,x3l,x0b]
   | true=>exact x0b _
/-! The points 1 and -1. -/
theorem nought (iv:Fin n→Fin n) (h0:iv 0=0) (k:Fin n) (bit:Nat→Bool):out iv (Ed.run k 0 bit 255)=0:=by
 unfold out
 rw [j2z,h0,x2q]
end
end Ed
end
abbrev QN:Nat:=57896044618658097711785492504343953926634992332820282019728792003956564819949
theorem x6g:(0:Int)<kQ:=by decide
theorem q9x:kQ=(QN:Int):=rfl
def fz (z:Int):Fin QN:=⟨(z%kQ).toNat,by have:=Int.emod_lt_of_pos z x6g; have:=Int.emod_nonneg z (show kQ≠0 by decide); simp only [kQ,QN] at *; omega⟩
theorem vX (z:Int):((fz z).val:Int)=z%kQ:=by
 have:=Int.emod_nonneg z (show kQ≠0 by decide)
 simp only [fz]
 omega
theorem x0s {a b:Int} (h:a%kQ=b%kQ):fz a=fz b:=by
 apply Fin.ext
 simp only [fz,h]
theorem eH (z:Int):fz (z%kQ)=fz z:=x0s (Int.emod_emod z kQ)
theorem x3h (a b:Int):fz (a+b)=fz a+fz b:=by
 apply Fin.ext
 have h:=Fin.val_add (fz a) (fz b); have ha:=vX a; have hb:=vX b; have hc:=vX (a+b)
 rw [Int.add_emod,← ha,← hb,q9x] at hc
 rw [h]
 omega
theorem j7e (a b:Int):fz (a*b)=fz a*fz b:=by
 apply Fin.ext
 have h:=Fin.val_mul (fz a) (fz b); have ha:=vX a; have hb:=vX b; have hc:=vX (a*b)
 rw [Int.mul_emod,← ha,← hb,q9x,← Int.natCast_mul] at hc
 rw [h]
 omega
theorem x3g (a b:Int):fz (a-b)=fz a-fz b:=by
 apply Fin.ext
 have h:(fz a-fz b).val=((QN-(fz b).val)+(fz a).val)%QN:=by rfl
 have ha:=vX a; have hb:=vX b; have hc:=vX (a-b); have hl:=(fz b).isLt
 rw [Int.sub_emod,← ha,← hb,q9x] at hc
 rw [h]
 clear h ha hb; generalize (fz a).val=x at *; generalize (fz b).val=y at *; generalize (fz (a-b)).val=z at *
 simp only [QN] at *
 omega
def inz (x:Fin QN):Fin QN:=fz ((x.val:Int)^E)
theorem x3c (z:Int):fz (z^E)=inz (fz z):=by
 unfold inz
 refine x0s ?_
 rw [vX,x4v]
theorem q4w:inz 0=0:=by
 apply Fin.ext
 have h:=vX (((0:Fin QN).val:Int)^E)
 rw [q2c _ JG] at h
 show (fz _).val=0
 omega
def dz:Fin QN:=⟨20800338683988658368647408995589388737092878452977063003340006470870624536394,by decide⟩
def cz:Fin QN:=fz 121665
def base:Ed.Pt QN:=⟨⟨9771384041963202563870679428059935816164187996444183106833894008023910952347,by decide⟩,⟨46316835694926478169428394003475163141307993866256225615783033603165251855960,by decide⟩⟩
/-! A ladder reckoned with whole numbers,each as soon as it is there. -/
def gX {α:Type} (t:Nat) (f:Nat→α):α :=
 match t with
 | 0=>f 0
 | m+1=>f (m+1)
theorem q5h {α:Type} (t:Nat) (f:Nat→α):gX t f=f t:=by cases t <;> rfl
def j1o {α:Type} (x a b c d:Nat) (f:Nat→Nat→Nat→Nat→α):α :=
 gX ((a+b)%QN) fun A=>gX ((QN-b+a)%QN) fun B=>gX ((c+d)%QN) fun C=>gX ((QN-d+c)%QN) fun kD =>
 gX (A*A%QN) fun AA=>gX (B*B%QN) fun BB=>gX ((QN-BB+AA)%QN) fun E'=>gX (kD*A%QN) fun DA=>gX (C*B%QN) fun CB =>
 gX ((DA+CB)%QN) fun s=>gX ((QN-CB+DA)%QN) fun m =>
 gX (AA*BB%QN) fun a'=>gX (E'*((AA+121665*E'%QN)%QN)%QN) fun b'=>gX (s*s%QN) fun c'=>gX (x*(m*m%QN)%QN) fun d'=>f a' b' c' d'
def ev (x bits:Nat):Nat→Nat→Nat→Nat→Nat→Nat × Nat
 | 0,a,b,_,_=>(a,b)
 | i+1,a,b,c,d =>
   match Nat.testBit bits i with
   | false=>j1o x a b c d fun a' b' c' d'=>ev x bits i a' b' c' d'
   | true=>j1o x c d a b fun a' b' c' d'=>ev x bits i c' d' a' b'
def krd (x:Fin QN) (bit:Nat→Bool):Nat→Ed.St QN→Ed.St QN
 | 0,s=>s
 | i+1,s=>krd x bit i (Ed.step cz x (bit i) s)
theorem q3h (x:Fin QN) (bit:Nat→Bool):∀ i,i≤255→krd x bit (255-i) (Ed.run cz x bit i)=krd x bit 255 ⟨1,0,x,1⟩
 | 0,_=>rfl
 | i+1,h=>by
   rw [← q3h x bit i JK,show 255-i=(254-i)+1 by omega,show 255-(i+1)=254-i by omega]
   rfl
theorem x1y (x:Fin QN) (bit:Nat→Bool):Ed.run cz x bit 255=krd x bit 255 ⟨1,0,x,1⟩:=q3h x bit 255 JK
theorem wG {α:Type} (x:Fin QN) (s:Ed.St QN) (f:Nat→Nat→Nat→Nat→α) :
 j1o x.val s.a.val s.b.val s.c.val s.d.val f=f (Ed.climb cz x s).a.val (Ed.climb cz x s).b.val (Ed.climb cz x s).c.val (Ed.climb cz x s).d.val:=by
 simp only [j1o,q5h]
 rfl
theorem q5k (x:Fin QN) (bits:Nat):∀ (i:Nat) (s:Ed.St QN),ev x.val bits i s.a.val s.b.val s.c.val s.d.val=((krd x (fun t=>Nat.testBit bits t) i s).a.val,(krd x (fun t=>Nat.testBit bits t) i s).b.val)
 | 0,_=>rfl
 | i+1,s=>by
   show (match Nat.testBit bits i with | false=>_ | true=>_)=((krd x (fun t=>Nat.testBit bits t) i (Ed.step cz x (Nat.testBit bits i) s)).a.val,(krd x (fun t=>Nat.testBit bits t) i (Ed.step cz x (Nat.testBit bits i) s)).b.val)
   cases hb:Nat.testBit bits i with
   | false =>
     simp only
     rw [wG x s,q5k x bits i (Ed.climb cz x s)]
     rfl
   | true =>
     simp only
     rw [wG x ⟨s.c,s.d,s.a,s.b⟩]
     exact q5k x bits i (Ed.step cz x true s)
theorem x3j (x:Fin QN) (bits a b:Nat) (h:ev x.val bits 255 1 0 x.val 1=(a,b)):(Ed.run cz x (fun t=>Nat.testBit bits t) 255).a.val=a∧(Ed.run cz x (fun t=>Nat.testBit bits t) 255).b.val=b:=by
 rw [x1y]
 have e:=q5k x bits 255 ⟨1,0,x,1⟩
 have h':ev x.val bits 255 (1:Fin QN).val (0:Fin QN).val x.val (1:Fin QN).val=(a,b):=h
 rw [e] at h'
 injection h' with h1 h2
 exact ⟨h1,h2⟩
section
def kz (f:Nat→Int):Fin QN:=fz (val 256 f 32)
def Kz (x:Fin QN) (v:Value):Prop:=∃ f:Nat→Int,v=(.agg (row .u8 32 (f)).toArray)∧In 256 32 f∧kz f=x
def yZ (a b c d:Nat→Int):Nat→Int:=fun j=>if j<32 then a j else if j<64 then b (j-32) else if j<96 then c (j-64) else d (j-96)
theorem x5k (a b c d:Nat→Int):row .u8 32 (fun j=>yZ a b c d (0+j))=row .u8 32 a:=yV _ _ fun j hj=>by unfold yZ; rw [if_pos JK,Nat.zero_add]
theorem x5j (a b c d:Nat→Int):row .u8 32 (fun j=>yZ a b c d (32+j))=row .u8 32 b:=yV _ _ fun j hj=>by unfold yZ; rw [if_neg JK,if_pos JK,Nat.add_sub_cancel_left]
theorem x5i (a b c d:Nat→Int):row .u8 32 (fun j=>yZ a b c d (64+j))=row .u8 32 c:=yV _ _ fun j hj=>by unfold yZ; rw [if_neg JK,if_neg JK,if_pos JK,Nat.add_sub_cancel_left]
theorem x5h (a b c d:Nat→Int):row .u8 32 (fun j=>yZ a b c d (96+j))=row .u8 32 d:=yV _ _ fun j hj=>by unfold yZ; rw [if_neg JK,if_neg JK,if_neg JK,Nat.add_sub_cancel_left]
theorem Has.from {w:World} {b n:Nat} {f:Nat→Int} (h:Has w b .u8 n f) (o:Nat) (ho:o+32≤n):w.rangeAt b o (row .u8 32 (fun j=>f (o+j))):=fun j v hv=>by
 obtain ⟨hj,rfl⟩:=xS hv
 exact h.cell (o+j) JK
theorem kE (f:Nat→Int):(Tryz.prog.info? 87).map (·.size)=some (row .u8 128 f).length:=by rw [jX]; kernel_rfl
theorem gF (f:Nat→Int):(Tryz.prog.info? 87).map (·.size)=some (row .u8 128 f).toArray.size:=by rw [xA]; exact kE f
theorem sC (w:World) (t:TypeId) (b:Nat) (hb:b=w.heap.size):Has (w.alloc (.cells vS t)) b .u8 128 (fun _=>0):=Has.new w .u8 128 (fun _=>0) t b hb
theorem yE {w:World} {b n:Nat} {f:Nat→Int} (h:w.there b 0 n):w.there b 0 (row .u8 n f).toArray.size:=by rw [xA,jX]; exact h
structure Kq (w:World) (m:Nat) (l:List (Nat × Nat × (Nat→Int))) (R:List (Nat × Nat)) (w':World):Prop where
 rows:∀ p∈l,Has w' p.1 .u8 p.2.1 p.2.2∧p.1<m
 room:∀ q∈R,w'.there q.1 0 q.2∧q.1<m∧w.heap.size≤q.1
 apart:∀ p∈l,∀ q∈R,p.1≠q.1
 size:m≤w'.heap.size
 base:w.heap.size≤m
 below:Below w.heap.size w w'
section
variable {w w' w'':World} {m:Nat} {l:List (Nat × Nat × (Nat→Int))} {R:List (Nat × Nat)}
theorem Kq.init (w:World):Kq w w.heap.size [] [] w:=⟨fun _ h=>Vc,fun _ h=>Vc,fun _ h=>Vc,xnR _,xnR _,Below.refl _ _⟩
theorem Kq.drew (h:Kq w m l R w'):Kq w m l R w'.drew:=⟨fun p hp=>⟨(h.rows p hp).1.drew,(h.rows p hp).2⟩,h.room,h.apart,h.size,h.base,h.below.drew⟩
theorem Kq.call (h:Kq w m l R w') (b:Below w'.heap.size w' w''):Kq w m l R w'' :=
 ⟨fun p hp=>⟨(h.rows p hp).1.below b (xnL (h.rows p hp).2 h.size),(h.rows p hp).2⟩,
  fun q hq=>⟨xF (h.room q hq).1 b (xnL (h.room q hq).2.1 h.size),(h.room q hq).2⟩,h.apart,xnT h.size b.size,h.base,h.below.trans (b.mono (xnT h.base h.size))⟩
theorem Kq.box (h:Kq w m l R w') (n:Nat) (f:Nat→Int) (t:TypeId) (b:Nat) (hb:b=w'.heap.size):Kq w (b+1) ((b,n,f)::l) R (w'.alloc (.cells (row .u8 n f).toArray t)):=by
 have hc:=h.call ((Below.refl w'.heap.size w').alloc (xnR _) (.cells (row .u8 n f).toArray t))
 refine ⟨fun p hp=>?_,fun q hq=>⟨(hc.room q hq).1,by have:=(hc.room q hq).2.1; have:=h.size; omega,(hc.room q hq).2.2⟩,fun p hp q hq=>?_,by simp; omega,by have:=h.base; have:=h.size; omega,hc.below⟩
 · rcases xc1 hp with rfl | hp
   · exact ⟨Has.new w' .u8 n f t b hb,by simp⟩
   exact ⟨(hc.rows p hp).1,by have:=(hc.rows p hp).2; have:=h.size; omega⟩
 rcases xc1 hp with rfl | hp
 · exact Zy
 exact h.apart p hp q hq
theorem Kq.make (h:Kq w m l R w') (n:Nat) (c:Array Value) (t:TypeId) (b:Nat) (hb:b=w'.heap.size) (hn:(w'.alloc (.cells c t)).there b 0 n):Kq w (b+1) l ((b,n)::R) (w'.alloc (.cells c t)):=by
 have hc:=h.call ((Below.refl w'.heap.size w').alloc (xnR _) (.cells c t))
 refine ⟨fun p hp=>⟨(hc.rows p hp).1,by have:=(hc.rows p hp).2; have:=h.size; omega⟩,fun q hq=>?_,fun p hp q hq=>?_,by simp; omega,by have:=h.base; have:=h.size; omega,hc.below⟩
 · rcases xc1 hq with rfl | hq
   · exact ⟨hn,by simp,by have:=h.base; have:=h.size; simp only; omega⟩
   exact ⟨(hc.room q hq).1,by have:=(hc.room q hq).2.1; have:=h.size; omega,(hc.room q hq).2.2⟩
 rcases xc1 hq with rfl | hq
 · have:=(h.rows p hp).2; have:=h.size; simp only; omega
 exact h.apart p hp q hq
theorem Kq.past (h:Kq w m l R w') (b:Nat) (hb:m≤b) (vs:List Value):Kq w m l R (w'.setCells b 0 vs) :=
 ⟨fun p hp=>⟨(h.rows p hp).1.setAll_other _ (by have:=(h.rows p hp).2; omega) 0 _,(h.rows p hp).2⟩,fun q hq=>⟨World.there_setCells (h.room q hq).1 _ _ _,(h.room q hq).2⟩,h.apart,by rw [jN]; exact h.size,h.base,
  jS h.below _ (xnT h.base hb) 0 _⟩
theorem Kq.fill (h:Kq w m l R w') (b n:Nat) (hb:(b,n)∈R) (vs:List Value):Kq w m l R (w'.setCells b 0 vs) :=
 ⟨fun p hp=>⟨(h.rows p hp).1.setAll_other _ (fun e=>h.apart p hp _ hb e.symm) 0 _,(h.rows p hp).2⟩,fun q hq=>⟨World.there_setCells (h.room q hq).1 _ _ _,(h.room q hq).2⟩,h.apart,by rw [jN]; exact h.size,h.base,
  jS h.below _ (h.room _ hb).2.2 0 _⟩
theorem Kq.get (h:Kq w m l R w') (b n:Nat) (f:Nat→Int) (hp:(b,n,f)∈l):Has w' b .u8 n f:=(h.rows _ hp).1
theorem Kq.whole (h:Kq w m l R w') (b:Nat) (f:Nat→Int) (hp:(b,32,f)∈l):w'.rangeAt b 0 (row .u8 32 f):=(h.get b 32 f hp).range
theorem Kq.part0 (h:Kq w m l R w') (b:Nat) (a e c d:Nat→Int) (hp:(b,128,yZ a e c d)∈l):w'.rangeAt b 0 (row .u8 32 a):=by have:=(h.get _ _ _ hp).from 0 JK; rwa [x5k] at this
theorem Kq.part1 (h:Kq w m l R w') (b:Nat) (a e c d:Nat→Int) (hp:(b,128,yZ a e c d)∈l):w'.rangeAt b 32 (row .u8 32 e):=by have:=(h.get _ _ _ hp).from 32 JK; rwa [x5j] at this
theorem Kq.part2 (h:Kq w m l R w') (b:Nat) (a e c d:Nat→Int) (hp:(b,128,yZ a e c d)∈l):w'.rangeAt b 64 (row .u8 32 c):=by have:=(h.get _ _ _ hp).from 64 JK; rwa [x5i] at this
theorem Kq.part3 (h:Kq w m l R w') (b:Nat) (a e c d:Nat→Int) (hp:(b,128,yZ a e c d)∈l):w'.rangeAt b 96 (row .u8 32 d):=by have:=(h.get _ _ _ hp).from 96 JK; rwa [x5h] at this
theorem Kq.roomy (h:Kq w m l R w') (b n:Nat) (f:Nat→Int) (hb:(b,n)∈R):w'.there b 0 (row .u8 n f).toArray.size:=yE (h.room _ hb).1
theorem Kq.fresh (h:Kq w m l R w') (n:Nat) (f:Nat→Int) (c:Array Value) (t:TypeId) (hn:(w'.alloc (.cells c t)).there w'.heap.size 0 n) :
 Kq w (w'.heap.size+1) ((w'.heap.size,n,f)::l) R ((w'.alloc (.cells c t)).setCells w'.heap.size 0 (row .u8 n f)):=by
 have hk:=h.make n c t w'.heap.size rfl hn; have hc:=hk.fill w'.heap.size n mS (row .u8 n f)
 refine ⟨fun p hp=>?_,fun q hq=>hc.room q (mT _ hq),fun p hp q hq=>?_,hc.size,hc.base,hc.below⟩
 · rcases xc1 hp with rfl | hp
   · exact ⟨Has.all hn .u8 f,by simp⟩
   exact hc.rows p hp
 rcases xc1 hp with rfl | hp
 · exact Zy
 exact h.apart p hp q hq
theorem Kq.poke (h:Kq w m l R w') (b n:Nat) (hb:(b,n)∈R) (o:Nat) (vs:List Value):Kq w m l R (w'.setCells b o vs) :=
 ⟨fun p hp=>⟨(h.rows p hp).1.setAll_other _ (fun e=>h.apart p hp _ hb e.symm) o _,(h.rows p hp).2⟩,fun q hq=>⟨World.there_setCells (h.room q hq).1 _ _ _,(h.room q hq).2⟩,h.apart,by rw [jN]; exact h.size,h.base,
  jS h.below _ (h.room _ hb).2.2 o _⟩
theorem Kq.loose (h:Kq w m l R w') (l':List (Nat × Nat × (Nat→Int))) (b n:Nat) (f:Nat→Int) (hp:(b,n,f)∈l) (hl:∀ p∈l',p∈l) (hne:∀ p∈l',p.1≠b) (hlo:w.heap.size≤b):Kq w m l' ((b,n)::R) w' :=
 ⟨fun p hp=>h.rows p (hl p hp),fun q hq=>by
  rcases xc1 hq with rfl | hq
  · exact ⟨(h.get _ _ _ hp).there,(h.rows _ hp).2,hlo⟩
  · exact h.room q hq,fun p hp' q hq=>by
  rcases xc1 hq with rfl | hq
  · exact hne p hp'
  · exact h.apart p (hl p hp') q hq,h.size,h.base,h.below⟩
theorem Kq.settle (h:Kq w m l R w') (R':List (Nat × Nat)) (b n:Nat) (f:Nat→Int) (hb:(b,n)∈R) (hR:∀ q∈R',q∈R) (hne:∀ q∈R',q.1≠b) (hf:Has w' b .u8 n f):Kq w m ((b,n,f)::l) R' w' :=
 ⟨fun p hp=>by
  rcases xc1 hp with rfl | hp
  · exact ⟨hf,(h.room _ hb).2.1⟩
  · exact h.rows p hp,fun q hq=>h.room q (hR q hq),fun p hp q hq=>by
  rcases xc1 hp with rfl | hp
  · exact (hne q hq).symm
  · exact h.apart p hp q (hR q hq),h.size,h.base,h.below⟩
theorem Kq.two (h:Kq w m l R w') {B1 B2:Nat} (b1:Fb 32 m B1 w') (b2:Fb 32 m B2 w') (ne:B1≠B2) (f g:Nat→Int) :
 Kq w w'.heap.size ((B2,32,g)::(B1,32,f)::l) R ((w'.setCells B1 0 (row .u8 32 f)).setCells B2 0 (row .u8 32 g)):=by
 have hc:=(h.past B1 b1.lo (row .u8 32 f)).past B2 b2.lo (row .u8 32 g); have i1:=b1.hi; have i2:=b2.hi; have j1:=b1.lo; have j2:=b2.lo
 refine ⟨fun p hp=>?_,fun q hq=>⟨(hc.room q hq).1,xnL (hc.room q hq).2.1 h.size,(hc.room q hq).2.2⟩,fun p hp q hq=>?_,by rw [jN,jN]; exact xnR _,xnT h.base h.size,hc.below⟩
 · rcases xc1 hp with rfl | hp
   · exact ⟨Has.all (World.there_setCells b2.th _ _ _) .u8 g,i2⟩
   rcases xc1 hp with rfl | hp
   · exact ⟨(Has.all b1.th .u8 f).setAll_other _ (by simpa using ne.symm) 0 _,i1⟩
   exact ⟨(hc.rows p hp).1,xnL (h.rows p hp).2 h.size⟩
 have:=(h.room q hq).2.1
 rcases xc1 hp with rfl | hp
 · simp only; omega
 rcases xc1 hp with rfl | hp
 · simp only; omega
 exact h.apart p hp q hq
end
section
variable {P:Program} {ops:Array Oper} {kQ:Exit→Act→World→Prop} {md:Region.Mode} {S:World→Prop}
theorem q3f {i:Nat} {oi:Oper} (dst:Option Tmp) (hdst:oi.dst=dst) {fuel:Nat} {listed:Array Bool} {a:Act} {w:World} (n:Nat) (f:Nat→Int) (b o:Nat) (ty:TypeId) (x:Operand) (d:TypeDesc) (hi:ops[i]?=some oi)
 (ho:oi.op=.load ty x) (hx:a.eval x=.pointer (some ⟨b,o,none⟩)) (hw:Region.wanted oi (yielded ops a.tmps)=true)
 (hs:Region.noSelect ops=true) (hf:Region.free md ops listed i=true) (hr:(Region.ready md ops listed).contains i=true)
 (hQ:∀ c a w,kQ (.panic c) (a.put dst (.agg (row .u8 n f).toArray)) w→kQ (.panic c) a w)
 (hu:P.underlying ty=some d) (hd:d.isRow=true) (hz:(P.info? ty).map (·.size)=some (row .u8 n f).length)
 (hS:S w) (hh:∀ w,S w→w.rangeAt b o (row .u8 n f))
 (h:wpAnyH P md ops kQ S fuel (listed.setIfInBounds i true) (a.put dst (.agg (row .u8 n f).toArray)) w):wpAnyH P md ops kQ S (fuel+1) listed a w:=by
 subst hdst
 exact wpAnyH_take hi hs hf hr hQ (yieldsIf_load_mid hw ty x ho b o hx (row .u8 n f) d hh hu hd hz) hS h
theorem q7y {i:Nat} {oi:Oper} (dst:Option Tmp) (hdst:oi.dst=dst) {fuel:Nat} {listed:Array Bool} {a:Act} {w:World} (n:Nat) (f:Nat→Int) (b o:Nat) (ty:TypeId) (x:Operand) (d:TypeDesc) (hr:Region.ready md ops listed=[i]) (hi:ops[i]?=some oi)
 (ho:oi.op=.load ty x) (hx:a.eval x=.pointer (some ⟨b,o,none⟩)) (hw:Region.wanted oi (yielded ops a.tmps)=true)
 (hu:P.underlying ty=some d) (hd:d.isRow=true) (hz:(P.info? ty).map (·.size)=some (row .u8 n f).length)
 (hS:S w) (hh:w.rangeAt b o (row .u8 n f))
 (h:wpAnyH P md ops kQ S fuel (listed.setIfInBounds i true) (a.put dst (.agg (row .u8 n f).toArray)) w):wpAnyH P md ops kQ S (fuel+1) listed a w:=by
 subst hdst; refine wpAnyH_all hr Jf fun j hj=>?_
 obtain rfl:=xm1 hj
 unfold wpOp
 simp only [hi,hw,if_true]
 exact .inl (wp_load_mid ty x ho b o hx (row .u8 n f) d hh hu hd hz ⟨hS,h⟩)
theorem q3e {o':Oper} {rest:List Oper} {a:Act} {w:World} (n:Nat) (f:Nat→Int) (b o:Nat) (ty:TypeId) (x:Operand) (d:TypeDesc) (hw:Region.wanted o' (yielded ops a.tmps)=true)
 (ho:o'.op=.load ty x) (hx:a.eval x=.pointer (some ⟨b,o,none⟩)) (hu:P.underlying ty=some d) (hd:d.isRow=true) (hz:(P.info? ty).map (·.size)=some (row .u8 n f).length) (hh:w.rangeAt b o (row .u8 n f))
 (h:wpList P ops kQ rest (a.put o'.dst (.agg (row .u8 n f).toArray)) w):wpList P ops kQ (o'::rest) a w:=by
 unfold wpList
 rw [if_pos hw]
 exact .inl (wp_load_mid ty x ho b o hx (row .u8 n f) d hh hu hd hz h)
end
section
variable {P:Program} {ops:Array Oper} {Q:Exit→Act→World→Prop} {md:Region.Mode} {S:World→Prop} {n:Nat} {l:Array Bool} {a a':Act} {w:World} {oi:Oper} {ty:TypeId} {x y:Operand} {k:IntKind} {D:TypeDesc} {rest:List Oper}
theorem yrL (m:Nat) (f:Nat→Int) (b q:Nat) (hu:P.underlying ty=some D) (hz:(P.info? ty).map (·.size)=some (row .u8 m f).length) (hh:w.rangeAt b q (row .u8 m f)) (h:wpList P ops Q rest a' w) (hw:Region.wanted oi (yielded ops a.tmps)=true:=by rfl) (ho:oi.op=.load ty x:=by rfl) (hx:a.eval x=.pointer (some ⟨b,q,none⟩):=by rfl) (hd:D.isRow=true:=by rfl) (he:a.put oi.dst (.agg (row .u8 m f).toArray)=a':=by simp only [aP,lI,l0,lS] <;> rfl) : wpList P ops Q (oi::rest) a w:=q3e m f b q ty x D hw ho hx hu hd hz hh (he ▸ h)
end
section
variable {P:Program} {ops:Array Oper} {Q:Exit→Act→World→Prop} {md:Region.Mode} {S:World→Prop} {n:Nat} {l:Array Bool} {a a':Act} {w:World} {oi:Oper} {ty:TypeId} {x y:Operand} {k:IntKind} {D:TypeDesc} {rest:List Oper}
theorem yrH (i:Nat) (d:Tmp) (m:Nat) (f:Nat→Int) (b q:Nat) (hu:P.underlying ty=some D) (hz:(P.info? ty).map (·.size)=some (row .u8 m f).length) (hS:S w) (hh:∀ w,S w→w.rangeAt b q (row .u8 m f)) (h:wpAnyH P md ops Q S n (l.setIfInBounds i true) a' w) (hi:ops[i]?=some oi:=by rfl) (hdst:oi.dst=some d:=by rfl) (ho:oi.op=.load ty x:=by rfl) (hx:a.eval x=.pointer (some ⟨b,q,none⟩):=by rfl) (hw:Region.wanted oi (yielded ops a.tmps)=true:=by rfl) (hd:D.isRow=true:=by rfl) (hg:(Region.noSelect ops && (Region.free md ops l i && (Region.ready md ops l).contains i))=true:=by kernel_rfl) (hQ:∀ c a w,Q (.panic c) (a.put (some d) (.agg (row .u8 m f).toArray)) w→Q (.panic c) a w:=by exact fun _ _ _ h=>h) (he:a.put (some d) (.agg (row .u8 m f).toArray)=a':=by simp only [aP,lI,l0,lS] <;> rfl) : wpAnyH P md ops Q S (n+1) l a w:=by
 subst he
 rw [Bool.and_eq_true,Bool.and_eq_true] at hg
 exact q3f (some d) hdst m f b q ty x D hi ho hx hw hg.1 hg.2.1 hg.2.2 hQ hu hd hz hS hh h
end
/-! The layer below,in numbers modulo 2^255-19. -/
theorem q4p {f a b:Nat→Int} (h:val 256 f 32=(val 256 a 32+val 256 b 32)%kQ):kz f=kz a+kz b:=by unfold kz; rw [h,eH,x3h]
theorem q4m {f a b:Nat→Int} (h:val 256 f 32=(val 256 a 32-val 256 b 32)%kQ):kz f=kz a-kz b:=by unfold kz; rw [h,eH,x3g]
theorem j6m {f a b:Nat→Int} (h:val 256 f 32=(val 256 a 32*val 256 b 32)%kQ):kz f=kz a*kz b:=by unfold kz; rw [h,eH,j7e]
theorem q4n {f a:Nat→Int} (h:val 256 f 32=val 256 a 32^E%kQ):kz f=inz (kz a):=by unfold kz; rw [h,eH,x3c]
theorem q4o {f a:Nat→Int} (h:val 256 f 32=val 256 a 32%kQ):kz f=kz a:=by unfold kz; rw [h,eH]
def Ans (x:Fin QN) (w:World) (e:Ending) (w':World):Prop:=∃ f:Nat→Int,e=.returned (.agg (row .u8 32 (f)).toArray)∧(In 256 32 f∧kz f=x)∧Below w.heap.size w w'
theorem Ans.ks {x:Fin QN} {w:World} {e:Ending} {w':World} (h:Ans x w e w'):∃ v,e=.returned v∧Kz x v∧Below w.heap.size w w':=by
 obtain ⟨f,he,hf,l⟩:=h
 exact ⟨_,he,⟨f,rfl,hf⟩,l⟩
theorem q9v (a b:Nat→Int) (ha:In 256 32 a) (hb:In 256 32 b) (w:World) (hg:kGlob w):Calls Tryz.prog 76 #[(.agg (row .u8 32 (a)).toArray),(.agg (row .u8 32 (b)).toArray)] w (Ans (kz a+kz b) w) :=
 (q9w a b ha hb w hg).mono fun _ _ ⟨f,he,hf,l⟩=>⟨f,he,⟨hf.1,q4p hf.2⟩,l⟩
theorem q7k (a b:Nat→Int) (ha:In 256 32 a) (hb:In 256 32 b) (w:World) (hg:kGlob w):Calls Tryz.prog 77 #[(.agg (row .u8 32 (a)).toArray),(.agg (row .u8 32 (b)).toArray)] w (Ans (kz a-kz b) w) :=
 (q7l a b ha hb w hg).mono fun _ _ ⟨f,he,hf,l⟩=>⟨f,he,⟨hf.1,q4m hf.2⟩,l⟩
theorem q0v (a b:Nat→Int) (ha:In 256 32 a) (hb:In 256 32 b) (w:World) (hg:kGlob w):Calls Tryz.prog 53 #[(.agg (row .u8 32 (a)).toArray),(.agg (row .u8 32 (b)).toArray)] w (Ans (kz a*kz b) w) :=
 (j8n a b ha hb w hg).mono fun _ _ ⟨f,he,hf,l⟩=>⟨f,he,⟨hf.1,j6m hf.2⟩,l⟩
theorem sqz (a:Nat→Int) (ha:In 256 32 a) (w:World) (hg:kGlob w):Calls Tryz.prog 78 #[(.agg (row .u8 32 (a)).toArray)] w (Ans (kz a*kz a) w) :=
 (j5m a ha w hg).mono fun _ _ ⟨f,he,hf,l⟩=>⟨f,he,⟨hf.1,j6m hf.2⟩,l⟩
end
theorem x4o (x y cv:Int) (hx:0≤x) (hx':x<256) (hy:0≤y) (hy':y<256) (hc:cv=0∨cv=1) :
 bits BinOp.xor IntKind.u8 x (bits BinOp.and IntKind.u8 (IntKind.u8.wrap (-cv)) (bits BinOp.xor IntKind.u8 x y))=if cv=1 then y else x:=by
 obtain ⟨x,rfl⟩:=xiN hx
 obtain ⟨y,rfl⟩:=xiN hy
 have hxn:x<2^8:=by omega
 have hyn:y<2^8:=by omega
 have hz:x ^^^ y<256:=Nat.xor_lt_two_pow hxn hyn
 rw [u8_xor_nat x y JK JK]
 rcases hc with rfl | rfl
 · have e:IntKind.u8.wrap (-0)=((0:Nat):Int):=by rw [IntKind.wrap_u8']; rfl
   rw [e,u8_and_nat 0 _ JK hz,Nat.zero_and,u8_xor_nat x 0 JK JK,Nat.xor_zero]; simp
 have e:IntKind.u8.wrap (-1)=((255:Nat):Int):=by rw [IntKind.wrap_u8']; rfl
 have e2:255 &&& (x ^^^ y)=x ^^^ y:=by
  have h:=Nat.and_two_pow_sub_one_eq_mod (x ^^^ y) 8; rw [Nat.and_comm,show (255:Nat)=2^8-1 from rfl,h]; exact Nat.mod_eq_of_lt hz
 rw [e,u8_and_nat _ _ JK hz,e2,u8_xor_nat x _ JK hz,← Nat.xor_assoc,Nat.xor_self,Nat.zero_xor]
 simp
theorem j9l (bit:Int) (h0:0≤bit) (h1:bit<256):bits BinOp.and IntKind.u8 bit 1=bit%2:=by
 obtain ⟨b,rfl⟩:=xiN h0
 have:=u8_and_nat b 1 JK JK
 rw [Nat.and_one_is_mod] at this
 rw [show (1:Int)=((1:Nat):Int) from rfl,this]
 omega
structure XInv (a b:Nat→Int) (cv:Int) (w:World) (k:Nat) (m:Nat→Int) (w':World):Prop where
 done:∀ j,j<k→m j=if cv=1 then b j else a j
 rest:∀ j,k≤j→m j=a j
 ha:Has w' w.heap.size .u8 32 m
 hb:Has w' (w.heap.size+1) .u8 32 b
 hr:Has w' (w.heap.size+1+1) .u8 32 (fun _=>0)
 fr:Fr w 3 w'
theorem XInv.step {a b:Nat→Int} {cv:Int} {w:World} {k:Nat} {m:Nat→Int} {w':World} (h:XInv a b cv w k m w') (ha:In 256 32 a) (hb:In 256 32 b) (hc:cv=0∨cv=1) (hk:k<32) :
 XInv a b cv w (k+1) (upd m k (if cv=1 then b k else a k)) ((w'.setCell ⟨w.heap.size,k,none⟩ (.int .u8 (bits BinOp.xor IntKind.u8 (m k) (bits BinOp.and IntKind.u8 (IntKind.u8.wrap (-cv)) (bits BinOp.xor IntKind.u8 (m k) (b k)))))).drew):=by
 rw [h.rest k (xnR k),x4o (a k) (b k) cv (ha k hk).1 (ha k hk).2 (hb k hk).1 (hb k hk).2 hc]
 refine ⟨fun j hj=>?_,fun j hj=>?_,(h.ha.set k hk _).drew,(h.hb.set_other _ _ Jf).drew,(h.hr.set_other _ _ Ji).drew,(h.fr.set _ _ Jf).drew⟩
 · by_cases e:j=k
   · exact Zz
   exact Qm
 exact Qi
def sel (bit:Int) (a b:Nat→Int):Nat→Int:=if bit%2=1 then b else a
theorem mP (bit:Int) (a b:Nat→Int) (ha:In 256 32 a) (hb:In 256 32 b):In 256 32 (sel bit a b):=by unfold sel; split <;> assumption
theorem pQ (bit:Int) (hbit:0≤bit∧bit<256) (a b:Nat→Int) (ha:In 256 32 a) (hb:In 256 32 b) (w:World) :
 Calls Tryz.prog 75 #[.int .u8 bit,(.agg (row .u8 32 (a)).toArray),(.agg (row .u8 32 (b)).toArray)] w fun e w'=>e=.returned (.agg (row .u8 32 (sel bit a b)).toArray)∧Below w.heap.size w w':=by
 have hm:=j9l bit hbit.1 hbit.2
 have hc:bit%2=0∨bit%2=1:=by omega
 have hs:∀ j,(if bit%2=1 then b j else a j)=sel bit a b j:=fun j=>by unfold sel; split <;> rfl
 have HS:=show Hid _ from hs; have HC:=show Hid _ from hc; clear hs hc; generalize hcv:bit%2=cv at *; clear hcv
 go_enter Tryz.func75,Tryz.ntmps75
 go_wp2
 go_loopw [12] (fun i w'=>∃ (k:Nat) (m:Nat→Int),k≤32∧i=.int .i64 k∧XInv a b cv w k m w') (fun i _=>32-(intOf i).toNat)
 case atStart=>exact ⟨0,a,by omega,rfl,⟨fun j hj=>by omega,fun _ _=>rfl,((Has.new w _ _ _ _ _ rfl).alloc _ Jf).alloc _ Ji,(Has.new _ _ _ _ _ _ Jf).alloc _ Jf,jK _ _ _ Jf,(((Fr.refl w).alloc _).alloc _).alloc _⟩⟩
 case round =>
  obtain ⟨k,m,hk,rfl,hI⟩:=hrel; by_cases hlt:k<32
  · have HX:=show Hid _ from hI.step ha hb HC.out hlt
    have c1:=hI.ha.cell k hlt; have c2:=hI.hb.cell k hlt; have f1:=hI.ha.free k hlt; have g1:(0:Int)≤(k:Int):=by omega
    have g2:(k:Int)<32:=by omega
    clear hI hm; generalize m k=x at *; generalize b k=y at *; go_wp2; go_region; go_wp2; go_roundw
    case rel=>exact ⟨k+1,_,by omega,by go_num,HX.out⟩
    case measure=>simp [intOf]; omega
  obtain rfl:k=32:=by omega
  have hA:=hI.ha.congr (g:=sel bit a b) (fun j hj=>by rw [hI.done j hj]; exact HS.out j); have hz:=hI.hr; clear hm hlt hk; go_wp2_with (first | (refine yl (hA) Tryz.underlying23 (jJ _) ?_) | (refine ys .u8 32 (sel bit a b) (yQ (hz)) (jV _) ?_)); exact bRq (v:=(.agg (row .u8 32 (sel bit a b)).toArray)) (jQ Tryz.results75 rfl (Has.all hz.there .u8 (sel bit a b)).range Tryz.underlying23 rfl (jJ (sel bit a b))) rfl ⟨rfl,(hI.fr.setAll _ JK _).below⟩
def j1s (x y z:Int):Nat→Int
 | 0=>x
 | 1=>y
 | 2=>z
 | _+3=>0
theorem j1r:In 256 32 (j1s 65 219 1)
 | 0,_=>by decide
 | 1,_=>by decide
 | 2,_=>by decide
 | _+3,_=>⟨Int.le_refl 0,Ve⟩
theorem j5k:kz (j1s 65 219 1)=cz:=by unfold kz cz; rw [show val 256 (j1s 65 219 1) 32=121665 by decide +kernel]
def stz (a b c d:Nat→Int):Ed.St QN:=⟨kz a,kz b,kz c,kz d⟩
theorem q6o (e:Nat→Int) (he:In 256 32 e) (w:World) (hg:kGlob w):Calls Tryz.prog 79 #[(.agg (row .u8 32 (e)).toArray)] w (Ans (cz*kz e) w):=by
 have K:=Kq.init w; have K:=K.box 32 (e) 23 (w.heap.size) rfl; have K:=K.make 32 jY 23 (w.heap.size+1) Jf (jK _ _ _ Jf).there
 go_enter Tryz.func79,Tryz.ntmps79
 go_upto_region 1 with fail; refine wR (xpL (.agg (row .u8 32 (j1s 65 219 1)).toArray) ?_); refine yrL 32 (e) (w.heap.size) 0 Tryz.underlying23 (jJ _) (K.whole _ _ mS) ?_; refine xcL (q0v (j1s 65 219 1) (e) (j1r) (he) _ (hg.below K.below hg.size)) ?_; rintro e w1 ⟨f1,rfl,s1,l⟩; have K:=K.call l; clear l
 refine xeL ?_; refine ysL .u8 32 (f1) (w.heap.size+1) (K.roomy _ _ _ mS) (jV _) ?_; show Exit.then _ _ _ _ _; have hO:=(K.room _ mS).1; have hL:=(K.fill _ _ mS (row .u8 32 (f1))).below; clear K; go_wp2
 exact bRq (v:=.agg (row .u8 32 (f1)).toArray) (jQ Tryz.results79 rfl (Has.all hO .u8 (f1)).range Tryz.underlying23 rfl (jJ _)) rfl ⟨f1,rfl,⟨s1.1,by rw [s1.2,j5k]⟩,hL⟩
theorem q0e (u:Nat→Int) (w:World):Calls Tryz.prog 50 #[(.agg (row .u8 32 (u)).toArray)] w fun e w'=>e=.returned (.agg (row .u8 128 (yZ (one 1) (one 0) (u) (one 1))).toArray)∧Below w.heap.size w w':=by
 have K:=Kq.init w; have K:=K.box 32 (u) 23 (w.heap.size) rfl; have K:=K.make 128 vS 87 (w.heap.size+1) Jf (sC _ _ _ Jf).there
 go_enter Tryz.func50,Tryz.ntmps50
 go_upto_region 0 with fail; refine wR ?_; refine qH (row .u8 32 (u)).toArray 23 rfl JW (nL ?_); refine qH vS 87 rfl JW (nL ?_); simp only [mM]; show Exit.then _ _ _ _ _; go_upto_region 1 with fail; refine wR (xpL (.agg (row .u8 32 (one 1)).toArray) ?_)
 refine yrL 32 (u) (w.heap.size) 0 Tryz.underlying23 (jJ _) (K.whole _ _ mS) ?_; refine xpL (.agg (row .u8 32 (one 1)).toArray) ?_; refine xpL (.agg (row .u8 128 (yZ (one 1) (one 0) (u) (one 1))).toArray) ?_
 refine ysL .u8 128 (yZ (one 1) (one 0) (u) (one 1)) (w.heap.size+1) (K.roomy _ _ _ mS) (gF _) ?_; show Exit.then _ _ _ _ _; have hO:=(K.room _ mS).1; have hL:=(K.fill _ _ mS (row .u8 128 (yZ (one 1) (one 0) (u) (one 1)))).below; clear K; go_wp2
 exact bRq (v:=.agg (row .u8 128 (yZ (one 1) (one 0) (u) (one 1))).toArray) (jQ Tryz.results50 rfl (Has.all hO .u8 (yZ (one 1) (one 0) (u) (one 1))).range Tryz.underlying87 rfl (kE _)) rfl ⟨rfl,hL⟩
theorem pM (bit:Int) (hbit:0≤bit∧bit<256) (a b c d:Nat→Int) (ha:In 256 32 a) (hb:In 256 32 b) (hc:In 256 32 c) (hd:In 256 32 d) (w:World):Calls Tryz.prog 51 #[.int .u8 bit,.agg (row .u8 128 (yZ (a) (b) (c) (d))).toArray] w fun e w'=>e=.returned (.agg (row .u8 128 (yZ (sel bit a c) (sel bit b d) (sel bit c a) (sel bit d b))).toArray)∧Below w.heap.size w w':=by
 have K:=Kq.init w; have K:=K.box 128 (yZ (a) (b) (c) (d)) 87 (w.heap.size) rfl; have K:=K.make 128 vS 87 (w.heap.size+1) Jf (sC _ _ _ Jf).there
 go_enter Tryz.func51,Tryz.ntmps51
 go_upto_region 0 with fail; refine wR ?_; refine qH (row .u8 128 (yZ (a) (b) (c) (d))).toArray 87 rfl JW (nL ?_); refine qH vS 87 rfl JW (nL ?_); simp only [mM]; show Exit.then _ _ _ _ _; go_upto_region 1 with fail
 refine wD (S:=fun w'=>Kq w _ [(w.heap.size,128,yZ (a) (b) (c) (d))] [(w.heap.size+1,128)] w') JU K.drew ?_; intro K; refine xmH 0 5 K ?_; refine xpH 1 6 (.pointer (some ⟨w.heap.size,0,none⟩)) K ?_
 refine yrH 2 7 32 (a) (w.heap.size) 0 Tryz.underlying23 (jJ _) K (fun _ h=>h.part0 _ _ _ _ _ mS) ?_; refine xpH 3 8 (.pointer (some ⟨w.heap.size,64,none⟩)) K ?_
 refine yrH 4 9 32 (c) (w.heap.size) 64 Tryz.underlying23 (jJ _) K (fun _ h=>h.part2 _ _ _ _ _ mS) ?_; refine xmH 6 11 K ?_; refine xpH 7 12 (.pointer (some ⟨w.heap.size,32,none⟩)) K ?_
 refine yrH 8 13 32 (b) (w.heap.size) 32 Tryz.underlying23 (jJ _) K (fun _ h=>h.part1 _ _ _ _ _ mS) ?_; refine xpH 9 14 (.pointer (some ⟨w.heap.size,96,none⟩)) K ?_
 refine yrH 10 15 32 (d) (w.heap.size) 96 Tryz.underlying23 (jJ _) K (fun _ h=>h.part3 _ _ _ _ _ mS) ?_; refine xmH 12 17 K ?_; refine xpH 13 18 (.pointer (some ⟨w.heap.size,64,none⟩)) K ?_
 refine yrH 14 19 32 (c) (w.heap.size) 64 Tryz.underlying23 (jJ _) K (fun _ h=>h.part2 _ _ _ _ _ mS) ?_; refine xpH 15 20 (.pointer (some ⟨w.heap.size,0,none⟩)) K ?_
 refine yrH 16 21 32 (a) (w.heap.size) 0 Tryz.underlying23 (jJ _) K (fun _ h=>h.part0 _ _ _ _ _ mS) ?_; refine xmH 18 23 K ?_; refine xpH 19 24 (.pointer (some ⟨w.heap.size,96,none⟩)) K ?_
 refine yrH 20 25 32 (d) (w.heap.size) 96 Tryz.underlying23 (jJ _) K (fun _ h=>h.part3 _ _ _ _ _ mS) ?_; refine xpH 21 26 (.pointer (some ⟨w.heap.size,32,none⟩)) K ?_
 refine yrH 22 27 32 (b) (w.heap.size) 32 Tryz.underlying23 (jJ _) K (fun _ h=>h.part1 _ _ _ _ _ mS) ?_; refine yaH 5 10 (pQ bit hbit (a) (c) (ha) (hc) _) ?_
 rintro e w1 ⟨rfl,l⟩; have K:=K.call l; clear l
 refine ⟨_,rfl,K,nH ?_⟩
 refine yaH 11 16 (pQ bit hbit (b) (d) (hb) (hd) _) ?_; rintro e w2 ⟨rfl,l⟩; have K:=K.call l; clear l
 refine ⟨_,rfl,K,nH ?_⟩
 refine yaH 17 22 (pQ bit hbit (c) (a) (hc) (ha) _) ?_; rintro e w3 ⟨rfl,l⟩; have K:=K.call l; clear l
 refine ⟨_,rfl,K,nH ?_⟩
 refine yaH 23 28 (pQ bit hbit (d) (b) (hd) (hb) _) ?_; rintro e w4 ⟨rfl,l⟩; have K:=K.call l; clear l
 refine ⟨_,rfl,K,nH ?_⟩
 refine xpH 24 29 (.agg (row .u8 128 (yZ (sel bit a c) (sel bit b d) (sel bit c a) (sel bit d b))).toArray) K ?_; refine xX (i:=25) (none) rfl .u8 128 (yZ (sel bit a c) (sel bit b d) (sel bit c a) (sel bit d b)) (w.heap.size+1) 87 _ _ JU rfl rfl rfl rfl rfl (K.roomy _ _ _ mS) (gF _) (K.fill _ _ mS _) ?_; simp only [Act.put]
 refine wE JU ?_ _
 have hO:=(K.room _ mS).1; have hL:=(K.fill _ _ mS (row .u8 128 (yZ (sel bit a c) (sel bit b d) (sel bit c a) (sel bit d b)))).below; clear K; go_wp2
 exact bRq (v:=.agg (row .u8 128 (yZ (sel bit a c) (sel bit b d) (sel bit c a) (sel bit d b))).toArray) (jQ Tryz.results51 rfl (Has.all hO .u8 (yZ (sel bit a c) (sel bit b d) (sel bit c a) (sel bit d b))).range Tryz.underlying87 rfl (kE _)) rfl ⟨rfl,hL⟩
theorem q1n (u a b c d:Nat→Int) (hu:In 256 32 u) (ha:In 256 32 a) (hb:In 256 32 b) (hc:In 256 32 c) (hd:In 256 32 d) (w:World) (hg:kGlob w):Calls Tryz.prog 52 #[(.agg (row .u8 32 (u)).toArray),.agg (row .u8 128 (yZ (a) (b) (c) (d))).toArray] w fun e w'=>∃ a' b' c' d':Nat→Int,e=.returned (.agg (row .u8 128 (yZ (a') (b') (c') (d'))).toArray)∧(In 256 32 a'∧In 256 32 b'∧In 256 32 c'∧In 256 32 d'∧stz a' b' c' d'=Ed.climb cz (kz u) (stz a b c d))∧Below w.heap.size w w':=by
 have K:=Kq.init w; have K:=K.box 32 (u) 23 (w.heap.size) rfl; have K:=K.box 128 (yZ (a) (b) (c) (d)) 87 (w.heap.size+1) Jf; have K:=K.make 128 vS 87 (w.heap.size+1+1) Jf (sC _ _ _ Jf).there
 go_enter Tryz.func52,Tryz.ntmps52
 go_upto_region 0 with fail; refine wR ?_; refine qH (row .u8 32 (u)).toArray 23 rfl JW (nL ?_); refine qH (row .u8 128 (yZ (a) (b) (c) (d))).toArray 87 rfl JW (nL ?_); refine qH vS 87 rfl JW (nL ?_); simp only [mM]
 show Exit.then _ _ _ _ _; go_upto_region 1 with fail; refine wD (S:=fun w'=>Kq w _ [(w.heap.size+1,128,yZ (a) (b) (c) (d)),(w.heap.size,32,u)] [(w.heap.size+1+1,128)] w') JU K.drew ?_; intro K; refine xpH 0 14 (.pointer (some ⟨w.heap.size+1,0,none⟩)) K ?_
 refine yrH 1 15 32 (a) (w.heap.size+1) 0 Tryz.underlying23 (jJ _) K (fun _ h=>h.part0 _ _ _ _ _ mS) ?_; refine xpH 2 16 (.pointer (some ⟨w.heap.size+1,32,none⟩)) K ?_
 refine yrH 3 17 32 (b) (w.heap.size+1) 32 Tryz.underlying23 (jJ _) K (fun _ h=>h.part1 _ _ _ _ _ mS) ?_; refine xpH 5 19 (.pointer (some ⟨w.heap.size+1,0,none⟩)) K ?_
 refine yrH 6 20 32 (a) (w.heap.size+1) 0 Tryz.underlying23 (jJ _) K (fun _ h=>h.part0 _ _ _ _ _ mS) ?_; refine xpH 7 21 (.pointer (some ⟨w.heap.size+1,32,none⟩)) K ?_
 refine yrH 8 22 32 (b) (w.heap.size+1) 32 Tryz.underlying23 (jJ _) K (fun _ h=>h.part1 _ _ _ _ _ mS) ?_
 refine j8i (c1:=4) (c2:=9) (a1:=10) (a2:=11) 18 23 5 6 jY 23 (Kz (kz (a)+kz (b))) (Kz (kz (a)-kz (b))) rfl rfl rfl rfl JG JG JG JG JG JG JG JG JG JG rfl rfl rfl rfl rfl rfl rfl rfl Vy Vy Jw Jw Jw Jw Jw JU JU JU JU JU JU JU JU JU JU JU JW JW YG YG KU K (fun _ h=>h.size) (fun _ _ h l=>h.call l)
  (fun _ h=>(q9v (a) (b) (ha) (hb) _ (hg.below h.below hg.size)).mono fun _ _ q=>q.ks) (fun _ h=>(q7k (a) (b) (ha) (hb) _ (hg.below h.below hg.size)).mono fun _ _ q=>q.ks) ?_
 rintro v1 v2 B5 B6 w1 ⟨f1,rfl,s1⟩ ⟨f2,rfl,s2⟩ K b1 b2 ne; simp only [aP,lI,l0,lS]; refine xX (i:=12) (none) rfl .u8 32 (f1) (B5) 23 _ _ JU rfl rfl rfl rfl rfl (yE b1.th) (jV _) (K.past _ b1.lo _) ?_; simp only [Act.put]
 refine xX (i:=13) (none) rfl .u8 32 (f2) (B6) 23 _ _ JU rfl rfl rfl rfl rfl (yE (World.there_setCells b2.th _ _ _)) (jV _) ((K.past _ b1.lo _).past _ b2.lo _) ?_; simp only [Act.put]
 refine wE JU ?_ _
 have K:=K.two b1 b2 ne f1 f2; clear b1 b2 ne; generalize ((w1.setCells B5 0 (row .u8 32 f1)).setCells B6 0 (row .u8 32 f2))=w2 at K ⊢; go_upto_region 2 with fail; refine wD (S:=fun w'=>Kq w _ [(B6,32,f2),(B5,32,f1),(w.heap.size+1,128,yZ (a) (b) (c) (d)),(w.heap.size,32,u)] [(w.heap.size+1+1,128)] w') JU K.drew ?_; intro K
 refine xpH 0 24 (.pointer (some ⟨w.heap.size+1,64,none⟩)) K ?_; refine yrH 1 25 32 (c) (w.heap.size+1) 64 Tryz.underlying23 (jJ _) K (fun _ h=>h.part2 _ _ _ _ _ (mI 2 rfl)) ?_
 refine xpH 2 26 (.pointer (some ⟨w.heap.size+1,96,none⟩)) K ?_; refine yrH 3 27 32 (d) (w.heap.size+1) 96 Tryz.underlying23 (jJ _) K (fun _ h=>h.part3 _ _ _ _ _ (mI 2 rfl)) ?_
 refine xpH 5 29 (.pointer (some ⟨w.heap.size+1,64,none⟩)) K ?_; refine yrH 6 30 32 (c) (w.heap.size+1) 64 Tryz.underlying23 (jJ _) K (fun _ h=>h.part2 _ _ _ _ _ (mI 2 rfl)) ?_
 refine xpH 7 31 (.pointer (some ⟨w.heap.size+1,96,none⟩)) K ?_; refine yrH 8 32 32 (d) (w.heap.size+1) 96 Tryz.underlying23 (jJ _) K (fun _ h=>h.part3 _ _ _ _ _ (mI 2 rfl)) ?_
 refine j8i (c1:=4) (c2:=9) (a1:=10) (a2:=11) 28 33 7 8 jY 23 (Kz (kz (c)+kz (d))) (Kz (kz (c)-kz (d))) rfl rfl rfl rfl JG JG JG JG JG JG JG JG JG JG rfl rfl rfl rfl rfl rfl rfl rfl Vy Vy Jw Jw Jw Jw Jw JU JU JU JU JU JU JU JU JU JU JU JW JW YG YG KU K (fun _ h=>h.size) (fun _ _ h l=>h.call l)
  (fun _ h=>(q9v (c) (d) (hc) (hd) _ (hg.below h.below hg.size)).mono fun _ _ q=>q.ks) (fun _ h=>(q7k (c) (d) (hc) (hd) _ (hg.below h.below hg.size)).mono fun _ _ q=>q.ks) ?_
 rintro v1 v2 B7 B8 w3 ⟨f3,rfl,s3⟩ ⟨f4,rfl,s4⟩ K b1 b2 ne; simp only [aP,lI,l0,lS]; refine xX (i:=12) (none) rfl .u8 32 (f3) (B7) 23 _ _ JU rfl rfl rfl rfl rfl (yE b1.th) (jV _) (K.past _ b1.lo _) ?_; simp only [Act.put]
 refine xX (i:=13) (none) rfl .u8 32 (f4) (B8) 23 _ _ JU rfl rfl rfl rfl rfl (yE (World.there_setCells b2.th _ _ _)) (jV _) ((K.past _ b1.lo _).past _ b2.lo _) ?_; simp only [Act.put]
 refine wE JU ?_ _
 have K:=K.two b1 b2 ne f3 f4; clear b1 b2 ne; generalize ((w3.setCells B7 0 (row .u8 32 f3)).setCells B8 0 (row .u8 32 f4))=w4 at K ⊢; go_upto_region 3 with fail
 refine wD (S:=fun w'=>Kq w _ [(B8,32,f4),(B7,32,f3),(B6,32,f2),(B5,32,f1),(w.heap.size+1,128,yZ (a) (b) (c) (d)),(w.heap.size,32,u)] [(w.heap.size+1+1,128)] w') JU K.drew ?_; intro K
 refine yrH 0 34 32 (f4) (B8) 0 Tryz.underlying23 (jJ _) K (fun _ h=>h.whole _ _ mS) ?_
 refine yrH 1 35 32 (f1) (B5) 0 Tryz.underlying23 (jJ _) K (fun _ h=>h.whole _ _ (mI 3 rfl)) ?_
 refine yrH 3 37 32 (f3) (B7) 0 Tryz.underlying23 (jJ _) K (fun _ h=>h.whole _ _ (mT _ mS)) ?_
 refine yrH 4 38 32 (f2) (B6) 0 Tryz.underlying23 (jJ _) K (fun _ h=>h.whole _ _ (mI 2 rfl)) ?_
 refine j8i (c1:=2) (c2:=5) (a1:=6) (a2:=7) 36 39 9 10 jY 23 (Kz (kz (f4)*kz (f1))) (Kz (kz (f3)*kz (f2))) rfl rfl rfl rfl JG JG JG JG JG JG JG JG JG JG rfl rfl rfl rfl rfl rfl rfl rfl Vy Vy Jw Jw Jw Jw Jw JU JU JU JU JU JU JU JU JU JU JU JW JW YG YG KU K (fun _ h=>h.size) (fun _ _ h l=>h.call l)
  (fun _ h=>(q0v (f4) (f1) (s4.1) (s1.1) _ (hg.below h.below hg.size)).mono fun _ _ q=>q.ks) (fun _ h=>(q0v (f3) (f2) (s3.1) (s2.1) _ (hg.below h.below hg.size)).mono fun _ _ q=>q.ks) ?_
 rintro v1 v2 B9 B10 w5 ⟨f5,rfl,s5⟩ ⟨f6,rfl,s6⟩ K b1 b2 ne; simp only [aP,lI,l0,lS]; refine xX (i:=8) (none) rfl .u8 32 (f5) (B9) 23 _ _ JU rfl rfl rfl rfl rfl (yE b1.th) (jV _) (K.past _ b1.lo _) ?_; simp only [Act.put]
 refine xX (i:=9) (none) rfl .u8 32 (f6) (B10) 23 _ _ JU rfl rfl rfl rfl rfl (yE (World.there_setCells b2.th _ _ _)) (jV _) ((K.past _ b1.lo _).past _ b2.lo _) ?_; simp only [Act.put]
 refine wE JU ?_ _
 have K:=K.two b1 b2 ne f5 f6; clear b1 b2 ne; generalize ((w5.setCells B9 0 (row .u8 32 f5)).setCells B10 0 (row .u8 32 f6))=w6 at K ⊢; go_upto_region 4 with fail
 refine wD (S:=fun w'=>Kq w _ [(B10,32,f6),(B9,32,f5),(B8,32,f4),(B7,32,f3),(B6,32,f2),(B5,32,f1),(w.heap.size+1,128,yZ (a) (b) (c) (d)),(w.heap.size,32,u)] [(w.heap.size+1+1,128)] w') JU K.drew ?_; intro K
 refine yrH 0 40 32 (f1) (B5) 0 Tryz.underlying23 (jJ _) K (fun _ h=>h.whole _ _ (mI 5 rfl)) ?_
 refine yrH 2 42 32 (f2) (B6) 0 Tryz.underlying23 (jJ _) K (fun _ h=>h.whole _ _ (mI 4 rfl)) ?_
 refine j8i (c1:=1) (c2:=3) (a1:=4) (a2:=5) 41 43 11 12 jY 23 (Kz (kz (f1)*kz (f1))) (Kz (kz (f2)*kz (f2))) rfl rfl rfl rfl JG JG JG JG JG JG JG JG JG JG rfl rfl rfl rfl rfl rfl rfl rfl Vy Vy Jw Jw Jw Jw Jw JU JU JU JU JU JU JU JU JU JU JU JW JW YG YG KU K (fun _ h=>h.size) (fun _ _ h l=>h.call l)
  (fun _ h=>(sqz (f1) (s1.1) _ (hg.below h.below hg.size)).mono fun _ _ q=>q.ks) (fun _ h=>(sqz (f2) (s2.1) _ (hg.below h.below hg.size)).mono fun _ _ q=>q.ks) ?_
 rintro v1 v2 B11 B12 w7 ⟨f7,rfl,s7⟩ ⟨f8,rfl,s8⟩ K b1 b2 ne; simp only [aP,lI,l0,lS]; refine xX (i:=6) (none) rfl .u8 32 (f7) (B11) 23 _ _ JU rfl rfl rfl rfl rfl (yE b1.th) (jV _) (K.past _ b1.lo _) ?_; simp only [Act.put]
 refine xX (i:=7) (none) rfl .u8 32 (f8) (B12) 23 _ _ JU rfl rfl rfl rfl rfl (yE (World.there_setCells b2.th _ _ _)) (jV _) ((K.past _ b1.lo _).past _ b2.lo _) ?_; simp only [Act.put]
 refine wE JU ?_ _
 have K:=K.two b1 b2 ne f7 f8; clear b1 b2 ne; generalize ((w7.setCells B11 0 (row .u8 32 f7)).setCells B12 0 (row .u8 32 f8))=w8 at K ⊢; go_upto_region 5 with fail; refine wR (yrL 32 (f7) (B11) 0 Tryz.underlying23 (jJ _) (K.whole _ _ (mT _ mS)) ?_)
 refine yrL 32 (f8) (B12) 0 Tryz.underlying23 (jJ _) (K.whole _ _ mS) ?_; refine xcL (q7k (f7) (f8) (s7.1) (s8.1) _ (hg.below K.below hg.size)) ?_; rintro e w9 ⟨f9,rfl,s9,l⟩; have K:=K.call l; clear l; refine xeL ?_; refine qH jY 23 rfl JW (nL ?_)
 refine lK .u8 32 (f9) (w9.heap.size) 23 _ _ rfl rfl rfl rfl (yE (jK _ _ _ rfl).there) (jV _) ?_; have K:=K.fresh 32 (f9) jY 23 (jK _ _ _ rfl).there; simp only [Act.put]; show Exit.then _ _ _ _ _; go_upto_region 6 with fail
 refine wD (S:=fun w'=>Kq w _ [(w9.heap.size,32,f9),(B12,32,f8),(B11,32,f7),(B10,32,f6),(B9,32,f5),(B8,32,f4),(B7,32,f3),(B6,32,f2),(B5,32,f1),(w.heap.size+1,128,yZ (a) (b) (c) (d)),(w.heap.size,32,u)] [(w.heap.size+1+1,128)] w') JU K.drew ?_; intro K
 refine yrH 0 47 32 (f7) (B11) 0 Tryz.underlying23 (jJ _) K (fun _ h=>h.whole _ _ (mI 2 rfl)) ?_
 refine yrH 1 48 32 (f8) (B12) 0 Tryz.underlying23 (jJ _) K (fun _ h=>h.whole _ _ (mT _ mS)) ?_
 refine yrH 3 50 32 (f9) (w9.heap.size) 0 Tryz.underlying23 (jJ _) K (fun _ h=>h.whole _ _ mS) ?_
 refine yrH 4 51 32 (f7) (B11) 0 Tryz.underlying23 (jJ _) K (fun _ h=>h.whole _ _ (mI 2 rfl)) ?_
 refine yrH 5 52 32 (f9) (w9.heap.size) 0 Tryz.underlying23 (jJ _) K (fun _ h=>h.whole _ _ mS) ?_
 refine yrH 9 56 32 (f5) (B9) 0 Tryz.underlying23 (jJ _) K (fun _ h=>h.whole _ _ (mI 4 rfl)) ?_
 refine yrH 10 57 32 (f6) (B10) 0 Tryz.underlying23 (jJ _) K (fun _ h=>h.whole _ _ (mI 3 rfl)) ?_
 refine yrH 13 60 32 (u) (w.heap.size) 0 Tryz.underlying23 (jJ _) K (fun _ h=>h.whole _ _ (mI 10 rfl)) ?_
 refine yrH 14 61 32 (f5) (B9) 0 Tryz.underlying23 (jJ _) K (fun _ h=>h.whole _ _ (mI 4 rfl)) ?_
 refine yrH 15 62 32 (f6) (B10) 0 Tryz.underlying23 (jJ _) K (fun _ h=>h.whole _ _ (mI 3 rfl)) ?_; refine yaH 2 49 (q0v (f7) (f8) (s7.1) (s8.1) _ (hg.below K.below hg.size)) ?_
 rintro e w10 ⟨f10,rfl,s10,l⟩; have K:=K.call l; clear l
 refine ⟨_,rfl,K,nH ?_⟩
 refine yaH 6 53 (q6o (f9) (s9.1) _ (hg.below K.below hg.size)) ?_; rintro e w11 ⟨f11,rfl,s11,l⟩; have K:=K.call l; clear l
 refine ⟨_,rfl,K,nH ?_⟩
 refine yaH 7 54 (q9v (f7) (f11) (s7.1) (s11.1) _ (hg.below K.below hg.size)) ?_; rintro e w12 ⟨f12,rfl,s12,l⟩; have K:=K.call l; clear l
 refine ⟨_,rfl,K,nH ?_⟩
 refine yaH 8 55 (q0v (f9) (f12) (s9.1) (s12.1) _ (hg.below K.below hg.size)) ?_; rintro e w13 ⟨f13,rfl,s13,l⟩; have K:=K.call l; clear l
 refine ⟨_,rfl,K,nH ?_⟩
 refine yaH 11 58 (q9v (f5) (f6) (s5.1) (s6.1) _ (hg.below K.below hg.size)) ?_; rintro e w14 ⟨f14,rfl,s14,l⟩; have K:=K.call l; clear l
 refine ⟨_,rfl,K,nH ?_⟩
 refine yaH 12 59 (sqz (f14) (s14.1) _ (hg.below K.below hg.size)) ?_; rintro e w15 ⟨f15,rfl,s15,l⟩; have K:=K.call l; clear l
 refine ⟨_,rfl,K,nH ?_⟩
 refine yaH 16 63 (q7k (f5) (f6) (s5.1) (s6.1) _ (hg.below K.below hg.size)) ?_; rintro e w16 ⟨f16,rfl,s16,l⟩; have K:=K.call l; clear l
 refine ⟨_,rfl,K,nH ?_⟩
 refine yaH 17 64 (sqz (f16) (s16.1) _ (hg.below K.below hg.size)) ?_; rintro e w17 ⟨f17,rfl,s17,l⟩; have K:=K.call l; clear l
 refine ⟨_,rfl,K,nH ?_⟩
 refine yaH 18 65 (q0v (u) (f17) (hu) (s17.1) _ (hg.below K.below hg.size)) ?_; rintro e w18 ⟨f18,rfl,s18,l⟩; have K:=K.call l; clear l
 refine ⟨_,rfl,K,nH ?_⟩
 refine xpH 19 66 (.agg (row .u8 128 (yZ (f10) (f13) (f15) (f18))).toArray) K ?_; refine xX (i:=20) (none) rfl .u8 128 (yZ (f10) (f13) (f15) (f18)) (w.heap.size+1+1) 87 _ _ JU rfl rfl rfl rfl rfl (K.roomy _ _ _ mS) (gF _) (K.fill _ _ mS _) ?_; simp only [Act.put]
 refine wE JU ?_ _
 have hO:=(K.room _ mS).1; have hL:=(K.fill _ _ mS (row .u8 128 (yZ (f10) (f13) (f15) (f18)))).below; clear K; go_wp2
 exact bRq (v:=.agg (row .u8 128 (yZ (f10) (f13) (f15) (f18))).toArray) (jQ Tryz.results52 rfl (Has.all hO .u8 (yZ (f10) (f13) (f15) (f18))).range Tryz.underlying87 rfl (kE _)) rfl ⟨f10,f13,f15,f18,rfl,⟨s10.1,s13.1,s15.1,s18.1,by unfold stz Ed.climb; simp only; rw [s18.2,s17.2,s16.2,s15.2,s14.2,s13.2,s12.2,s11.2,s10.2,s9.2,s8.2,s7.2,s6.2,s5.2,s4.2,s3.2,s2.2,s1.2]⟩,hL⟩
structure Trs (w:World):Prop where
 a0:w.cell? ⟨0,0,none⟩=some (.int .i64 0)
 k0:w.cell? ⟨0,1,none⟩=some (.int .u8 248)
 s0:w.cell? ⟨0,2,none⟩=some (.int .u8 0)
 a1:w.cell? ⟨0,3,none⟩=some (.int .i64 31)
 k1:w.cell? ⟨0,4,none⟩=some (.int .u8 127)
 s1:w.cell? ⟨0,5,none⟩=some (.int .u8 64)
theorem Trs.below {w w':World} (h:Trs w) {B:Nat} (l:Below B w w') (hB:10≤B):Trs w':=by
 have hb:∀ o,w'.cell? ⟨0,o,none⟩=w.cell? ⟨0,o,none⟩:=fun o=>l.cell (p:=⟨0,o,none⟩) (xnL (show 0<10 by decide) hB)
 exact ⟨by rw [hb]; exact h.a0,by rw [hb]; exact h.k0,by rw [hb]; exact h.s0,by rw [hb]; exact h.a1,by rw [hb]; exact h.k1,by rw [hb]; exact h.s1⟩
def xC (k:Nat→Int):Nat→Int:=fun j=>if j=0 then k 0/8*8 else if j=31 then k 31%64+64 else k j
theorem j7u (k:Nat→Int) (h:In 256 32 k):In 256 32 (xC k):=fun j hj=>by
 have h0:=h 0 JK; have h1:=h 31 JK
 unfold xC
 split
 · omega
 · split
   · omega
   · exact h j hj
theorem j9x:∀ x:Fin 256,bits BinOp.or IntKind.u8 (bits BinOp.and IntKind.u8 (x.val:Int) 248) 0=(x.val:Int)/8*8:=by decide +kernel
theorem j5j:∀ x:Fin 256,bits BinOp.or IntKind.u8 (bits BinOp.and IntKind.u8 (x.val:Int) 127) 64=(x.val:Int)%64+64:=by decide +kernel
theorem q9u:∀ x:Fin 256,bits BinOp.and IntKind.u8 (x.val:Int) 127=(x.val:Int)%128:=by decide +kernel
theorem q2j (x:Int) (h:0≤x∧x<256):bits BinOp.or IntKind.u8 (bits BinOp.and IntKind.u8 x 248) 0=x/8*8:=by
 obtain ⟨n,rfl⟩:=xiN h.1
 exact j9x ⟨n,by omega⟩
theorem aC (x:Int) (h:0≤x∧x<256):bits BinOp.or IntKind.u8 (bits BinOp.and IntKind.u8 x 127) 64=x%64+64:=by
 obtain ⟨n,rfl⟩:=xiN h.1
 exact j5j ⟨n,by omega⟩
theorem aX (x:Int) (h:0≤x∧x<256):bits BinOp.and IntKind.u8 x 127=x%128:=by
 obtain ⟨n,rfl⟩:=xiN h.1
 exact q9u ⟨n,by omega⟩
structure TrInv (w:World) (m:Nat→Int) (w':World):Prop where
 ha:Has w' w.heap.size .u8 32 m
 hr:Has w' (w.heap.size+1) .u8 32 (fun _=>0)
 fr:Fr w 2 w'
theorem TrInv.step {w:World} {m:Nat→Int} {w':World} (h:TrInv w m w') (i:Nat) (hi:i<32) (x:Int):TrInv w (upd m i x) ((w'.setCell ⟨w.heap.size,i,none⟩ (.int .u8 x)).drew) :=
 ⟨(h.ha.set i hi x).drew,(h.hr.set_other _ _ Jf).drew,(h.fr.set _ _ Jf).drew⟩
theorem q2k (k:Nat→Int) (hk:In 256 32 k) (w:World) (ht:Trs w) (hs:10≤w.heap.size) :
 Calls Tryz.prog 49 #[(.agg (row .u8 32 (k)).toArray)] w fun e w'=>e=.returned (.agg (row .u8 32 (xC k)).toArray)∧Below w.heap.size w w':=by
 have b0:TrInv w k ((w.alloc (.cells (row .u8 32 k).toArray 23)).alloc (.cells jY 23)):=⟨(Has.new w _ _ _ _ _ rfl).alloc _ Jf,jK _ _ _ Jf,((Fr.refl w).alloc _).alloc _⟩
 have hE:∀ j,upd (upd k 0 (k 0/8*8)) 31 (k 31%64+64) j=xC k j:=fun j=>by
  unfold xC; by_cases e:j=31
  · subst e; rw [jP]; simp
  rw [jR _ _ _ _ e]; by_cases e0:j=0
  · subst e0; rw [jP]; simp
  rw [jR _ _ _ _ e0]; simp [e0,e]
 have x0:=hk 0 JK; have x1:=hk 31 JK; have HE:=show Hid _ from hE; have H0:=show Hid _ from q2j (k 0) x0; have H1:=show Hid _ from aC (k 31) x1; have HX:=show Hid _ from hk; clear hE x0 x1 hk
 go_enter Tryz.func49,Tryz.ntmps49
 go_wp2
 go_loopw [5] (fun i w'=>∃ (t:Nat) (m:Nat→Int),t≤2∧i=.int .i64 t∧(t=0→m=k)∧(t=1→m=upd k 0 (k 0/8*8))∧(t=2→m=upd (upd k 0 (k 0/8*8)) 31 (k 31%64+64))∧TrInv w m w') (fun i _=>2-(intOf i).toNat)
 case atStart=>exact ⟨0,k,by omega,rfl,fun _=>rfl,fun h=>by omega,fun h=>by omega,b0⟩
 case round =>
  obtain ⟨t,m,hk2,rfl,e0,e1,e2,hI⟩:=hrel; clear b0; have T:=ht.below hI.fr.below hs; obtain ⟨ta0,tk0,ts0,ta1,tk1,ts1⟩:=T; by_cases h0:t=0
  · subst h0; obtain rfl:=e0 rfl; clear e0 e1 e2 hk2; have hS:=hI.step 0 JK (m 0/8*8); rw [← H0.out] at hS; have c1:=hI.ha.cell 0 JK; have f1:=hI.ha.free 0 JK; have HM:=show Hid _ from hS; clear hS hI; generalize hx:m 0=x at *; go_wp2
    go_region; go_wp2; go_roundw
    case rel=>exact ⟨1,_,by omega,rfl,fun h=>by omega,fun _=>by rw [H0.out],fun h=>by omega,HM.out⟩
    case measure=>simp [intOf]
  by_cases h1:t=1
  · subst h1; obtain rfl:=e1 rfl; clear e0 e1 e2 hk2 h0; have hS:=hI.step 31 JK (k 31%64+64); rw [← H1.out] at hS; have c1:=hI.ha.cell 31 JK; rw [jR _ _ _ _ JK] at c1; have f1:=hI.ha.free 31 JK; have HM:=show Hid _ from hS; clear hS hI; generalize hx:k 31=x at *; go_wp2
    go_region; go_wp2; go_roundw
    case rel=>exact ⟨2,_,by omega,rfl,fun h=>by omega,fun h=>by omega,fun _=>by rw [H1.out],HM.out⟩
    case measure=>simp [intOf]
  obtain rfl:t=2:=by omega
  obtain rfl:=e2 rfl; have hA:=hI.ha.congr (g:=xC k) (fun j hj=>HE.out j); have hz:=hI.hr; have hL:=(hI.fr.setAll (w.heap.size+1) JK (row .u8 32 (xC k))).below; clear e0 e1 e2 hk2 h0 h1 hI; go_wp2_with (first | (refine yl (hA) Tryz.underlying23 (jJ _) ?_) | (refine ys .u8 32 (xC k) (yQ (hz)) (jV _) ?_)); exact bRq (v:=(.agg (row .u8 32 (xC k)).toArray)) (jQ Tryz.results49 rfl (Has.all hz.there .u8 (xC k)).range Tryz.underlying23 rfl (jJ (xC k))) rfl ⟨rfl,hL⟩
def gY (k:Nat→Int) (t:Nat):Bool:=decide (k (t/8)/2^(t%8)%2=1)
def uX (u:Nat→Int):Nat→Int:=upd u 31 (u 31%128)
theorem j1p (u:Nat→Int) (h:In 256 32 u):In 256 32 (uX u):=h.upd 31 _ (by have:=h 31 JK; omega) (by have:=h 31 JK; omega)
def tm (k u:Nat→Int):Fin QN:=Ed.out inz (Ed.run cz (kz (uX u)) (gY (xC k)) 255)
theorem j1f (bit:Int) (a b:Nat→Int):kz (sel bit a b)=if bit%2=1 then kz b else kz a:=by unfold sel; split <;> rfl
theorem j2y (bit:Int) (a b c d:Nat→Int):stz (sel bit a c) (sel bit b d) (sel bit c a) (sel bit d b)=Ed.swap (decide (bit%2=1)) (stz a b c d):=by
 unfold stz Ed.swap
 rw [j1f,j1f,j1f,j1f]
 by_cases h:bit%2=1
 · simp [h]
 simp [h]
theorem aW (u:Nat→Int):stz (one 1) (one 0) u (one 1)=⟨1,0,kz u,1⟩:=by
 unfold stz
 have e1:kz (one 1)=1:=by unfold kz; rw [bZ]; decide +kernel
 have e0:kz (one 0)=0:=by unfold kz; rw [bZ]; decide +kernel
 rw [e1,e0]
theorem aE (k u:Nat→Int) (hk:In 256 32 k) (hu:In 256 32 u) (w:World) (hg:kGlob w) (ht:Trs w) :
 Calls Tryz.prog 30 #[(.agg (row .u8 32 (k)).toArray),(.agg (row .u8 32 (u)).toArray)] w fun e w'=>∃ f:Nat→Int,e=.returned (.agg (row .u8 32 (f)).toArray)∧(In 256 32 f∧val 256 f 32=((tm k u).val:Int))∧Below w.heap.size w w':=by
 have K:=Kq.init w; replace K:=K.box 32 k 23 (w.heap.size) rfl; replace K:=K.box 32 u 23 (w.heap.size+1) Jf; replace K:=K.make 32 jY 23 (w.heap.size+1+1) Jf (jK _ _ _ Jf).there
 go_enter Tryz.func30,Tryz.ntmps30
 go_upto_region 1 with fail; refine wR (yrL 32 k (w.heap.size) 0 Tryz.underlying23 (jJ _) (K.whole _ _ (mT _ mS)) ?_); refine clT (q2k k hk _ (ht.below K.below hg.size) (xnT hg.size (xnT K.base K.size))) K ?_; clear K; intro w1 K
 refine qH jY 23 rfl JW (nL ?_); refine ysL .u8 32 (xC k) (w1.heap.size) (yE (jK _ _ _ rfl).there) (jV _) ?_
 have h1:w.heap.size+1+1+1≤w1.heap.size:=K.size
 replace K:=K.fresh 32 (xC k) jY 23 (jK _ _ _ rfl).there; have U:=K.get (w.heap.size+1) 32 u (mT _ mS); replace K:=K.loose [(w1.heap.size,32,xC k)] (w.heap.size+1) 32 u (mT _ mS) (fun p hp=>by rcases xm1 hp with rfl; exact mS) (fun p hp=>by rcases xm1 hp with rfl; simp only; omega) JK
 generalize ((w1.alloc (.cells jY 23)).setCells w1.heap.size 0 (row .u8 32 (xC k)))=w2 at K U ⊢; have c1:=U.cell 31 JK; have f1:=U.free 31 JK; replace K:=K.poke (w.heap.size+1) 32 mS 31 [.int .u8 (bits BinOp.and IntKind.u8 (u 31) 127)]; replace U:=U.set 31 JK (bits BinOp.and IntKind.u8 (u 31) 127)
 rw [aX (u 31) (hu 31 JK)] at U
 replace K:Kq w _ [(w1.heap.size,32,xC k)] [(w.heap.size+1,32),(w.heap.size+1+1,32)] (w2.setCell ⟨w.heap.size+1,31,none⟩ (.int .u8 (bits BinOp.and IntKind.u8 (u 31) 127))):=K
 rw [aX (u 31) (hu 31 JK)] at K
 replace K:=K.settle [(w.heap.size+1+1,32)] (w.heap.size+1) 32 (uX u) mS KZ (fun q hq=>by rcases xm1 hq with rfl; simp) U; have e31:=aX (u 31) (hu 31 JK); show Exit.then _ _ _ _ _; go_upto_region 3 with fail; clear e31 c1 f1; generalize (w2.setCell ⟨w.heap.size+1,31,none⟩ (.int .u8 (u 31%128)))=w3 at K U ⊢; refine wR ?_
 refine yrL 32 (uX u) (w.heap.size+1) 0 Tryz.underlying23 (jJ _) (K.whole _ _ mS) ?_; refine xcL (q0e (uX u) _) ?_; rintro e w4 ⟨rfl,l⟩; replace K:=K.call l; clear l U; refine xeL ?_; refine qH vS 87 rfl JW (nL ?_); have h4:=K.size
 have h1':w1.heap.size<w4.heap.size:=by omega
 replace K:=K.make 128 vS 87 w4.heap.size rfl (sC _ _ _ rfl).there; refine lK .u8 128 (yZ (one 1) (one 0) (uX u) (one 1)) (w4.heap.size) 87 _ _ rfl rfl rfl rfl (K.roomy _ _ _ mS) (gF _) ?_; have V:=Has.all (K.room _ mS).1 .u8 (yZ (one 1) (one 0) (uX u) (one 1)); replace K:=K.fill _ _ mS (row .u8 128 (yZ (one 1) (one 0) (uX u) (one 1)))
 simp only [Act.put]; generalize ((w4.alloc (.cells vS 87)).setCells w4.heap.size 0 (row .u8 128 (yZ (one 1) (one 0) (uX u) (one 1))))=w5 at K V ⊢; generalize hB:w4.heap.size=B at *; generalize hC:w1.heap.size=C at *; have hi:=j1p u hu
 have s5:stz (one 1) (one 0) (uX u) (one 1)=Ed.run cz (kz (uX u)) (gY (xC k)) 0:=aW _
 have S5:=show Hid _ from s5
 have hBB:w.heap.size+1+1+1≤B:=by omega
 clear s5 h1 h1' h4; show Exit.then _ _ _ _ _; go_wp2
 go_loopw [18] (fun i w'=>∃ (t:Nat) (a b c d:Nat→Int),t≤255∧i=.int .i64 t∧(In 256 32 a∧In 256 32 b∧In 256 32 c∧In 256 32 d)∧stz a b c d=Ed.run cz (kz (uX u)) (gY (xC k)) t ∧
  Kq w (B+1) [(w.heap.size+1,32,uX u),(C,32,xC k)] [(B,128),(w.heap.size+1+1,32)] w'∧Has w' B .u8 128 (yZ a b c d)) (fun i _=>255-(intOf i).toNat)
 case atStart=>exact ⟨0,_,_,_,_,by omega,rfl,⟨vY 1 JG JG,vY 0 JG JG,hi,vY 1 JG JG⟩,S5.out,K,V⟩
 case round =>
  obtain ⟨t,a,b,c,d,h255,rfl,⟨ia,ib,ic,id⟩,hst,K,V⟩:=hrel; by_cases hlt:t<255
  · have c1:=(K.get _ _ _ (mT _ mS)).cell ((254-t)/8) JK; obtain ⟨x0,x1⟩:=j7u k hk ((254-t)/8) JK; generalize hx:xC k ((254-t)/8)=x at c1 x0 x1; go_upto_region 9 with fail; have hb:decide (x/2^((254-t)%8)%2=1)=gY (xC k) (254-t):=by unfold gY; rw [hx]
    have hy:0≤x/2^((254-t)%8)∧x/2^((254-t)%8)<256:=⟨Int.ediv_nonneg x0 (Int.le_of_lt (vU 2 JG _)),Int.lt_of_le_of_lt (Int.ediv_le_self _ x0) x1⟩
    clear c1 hx x0 x1; generalize x/2^((254-t)%8)=y at *; refine wD (S:=fun w'=>Kq w (B+1) [(w.heap.size+1,32,uX u),(C,32,xC k)] [(B,128),(w.heap.size+1+1,32)] w') JU K.drew ?_; clear K; intro K; replace V:=V.drew; refine xmH 0 30 K ?_; refine yrH 1 31 32 (uX u) (w.heap.size+1) 0 Tryz.underlying23 (jJ _) K (fun _ h=>h.whole _ _ mS) ?_; refine xmH 2 32 K ?_; refine q7y (i:=3) (some 33) rfl 128 (yZ a b c d) B 0 87 _ _ JU rfl rfl rfl rfl Tryz.underlying87 rfl (kE _) K V.range ?_; simp only [aP,lI,l0,lS]; refine yaH 4 34 (pM y hy a b c d ia ib ic id _) ?_; rintro e w6 ⟨rfl,l⟩; replace K:=K.call l; clear l V; refine ⟨_,rfl,K,nH ?_⟩; refine yaH 5 35 (q1n (uX u) (sel y a c) (sel y b d) (sel y c a) (sel y d b) hi (mP _ _ _ ia ic) (mP _ _ _ ib id) (mP _ _ _ ic ia) (mP _ _ _ id ib) _ (hg.below K.below hg.size)) ?_; rintro e w7 ⟨a',b',c',d',rfl,⟨ja,jb,jc,jd,es⟩,l⟩; replace K:=K.call l; clear l; refine ⟨_,rfl,K,nH ?_⟩; refine yaH 6 36 (pM y hy a' b' c' d' ja jb jc jd _) ?_; rintro e w8 ⟨rfl,l⟩; replace K:=K.call l; clear l; refine ⟨_,rfl,K,nH ?_⟩; refine xX (i:=7) none rfl .u8 128 (yZ (sel y a' c') (sel y b' d') (sel y c' a') (sel y d' b')) B 87 _ _ JU rfl rfl rfl rfl rfl (K.roomy _ _ _ mS) (gF _) (K.fill _ _ mS _) ?_; simp only [Act.put]; refine wE JU ?_ _; have hN:stz (sel y a' c') (sel y b' d') (sel y c' a') (sel y d' b')=Ed.run cz (kz (uX u)) (gY (xC k)) (t+1):=by
     show _=Ed.swap (gY (xC k) (254-t)) (Ed.climb cz (kz (uX u)) (Ed.swap (gY (xC k) (254-t)) (Ed.run cz (kz (uX u)) (gY (xC k)) t)))
     rw [j2y,es,j2y,hst,hb]
    have HN:=show Hid _ from hN; have V:=Has.all (K.room _ mS).1 .u8 (yZ (sel y a' c') (sel y b' d') (sel y c' a') (sel y d' b')); replace K:=K.fill _ _ mS (row .u8 128 (yZ (sel y a' c') (sel y b' d') (sel y c' a') (sel y d' b'))); clear hN es hst hb; generalize (w8.setCells B 0 (row .u8 128 (yZ (sel y a' c') (sel y b' d') (sel y c' a') (sel y d' b'))))=w9 at K V ⊢; go_wp2
    go_roundw
    case rel=>exact ⟨t+1,_,_,_,_,by omega,by go_num,⟨mP _ _ _ ja jc,mP _ _ _ jb jd,mP _ _ _ jc ja,mP _ _ _ jd jb⟩,HN.out,K,V⟩
    case measure=>simp [intOf]; omega
  obtain rfl:t=255:=by omega
  replace K:=K.settle [(w.heap.size+1+1,32)] B 128 (yZ a b c d) mS KZ (fun q hq=>by rcases xm1 hq with rfl; simp only; omega) V; have HS:=show Hid _ from hst; clear V hlt h255 hst; go_upto_region 11 with fail
  refine wD (S:=fun w'=>Kq w (B+1) [(B,128,yZ a b c d),(w.heap.size+1,32,uX u),(C,32,xC k)] [(w.heap.size+1+1,32)] w') JU K.drew ?_; clear K; intro K; refine xpH 0 38 (.pointer (some ⟨B,0,none⟩)) K ?_; refine yrH 1 39 32 a B 0 Tryz.underlying23 (jJ _) K (fun _ h=>h.part0 _ _ _ _ _ mS) ?_; refine xpH 2 40 (.pointer (some ⟨B,32,none⟩)) K ?_; refine yrH 3 41 32 b B 32 Tryz.underlying23 (jJ _) K (fun _ h=>h.part1 _ _ _ _ _ mS) ?_; refine yaH 4 42 (j6x b ib _ (hg.below K.below hg.size)) ?_; rintro e w6 ⟨f1,rfl,s1,l⟩; replace K:=K.call l; clear l; refine ⟨_,rfl,K,nH ?_⟩; refine yaH 5 43 (j8n a f1 ia s1.1 _ (hg.below K.below hg.size)) ?_; rintro e w7 ⟨f2,rfl,s2,l⟩; replace K:=K.call l; clear l; refine ⟨_,rfl,K,nH ?_⟩; refine xX (i:=6) none rfl .u8 32 f2 (w.heap.size+1+1) 23 _ _ JU rfl rfl rfl rfl rfl (K.roomy _ _ _ mS) (jV _) (K.fill _ _ mS _) ?_; simp only [Act.put]; refine wE JU ?_ _; have hv:val 256 f2 32=((tm k u).val:Int):=by
   have e1:kz f1=inz (kz b):=q4n s1.2; have e2:tm k u=kz a*inz (kz b):=by
    unfold tm; rw [← HS.out]; rfl
   rw [e2,← e1,s2.2,← vX,j7e]; rfl
  have HV:=show Hid _ from And.intro s2.1 hv; have hO:=(K.room _ mS).1; have hL:=(K.fill _ _ mS (row .u8 32 f2)).below; clear K hv s1 s2 HS; go_wp2
  exact bRq (v:=(.agg (row .u8 32 (f2)).toArray)) (jQ Tryz.results30 rfl (Has.all hO .u8 f2).range Tryz.underlying23 rfl (jJ _)) rfl ⟨f2,rfl,HV.out,hL⟩
end Go.Proofs.YtknodlefhclijaaGreatDoor
