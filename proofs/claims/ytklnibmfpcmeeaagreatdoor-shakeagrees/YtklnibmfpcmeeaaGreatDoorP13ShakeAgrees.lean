/- Texts of Rung Trim Times Shared Ex Agree, joined. -/
import Derived.Test.YtklnibmfpcmeeaaGreatDoorP12ShakeAgrees
set_option maxRecDepth 20000
set_option maxHeartbeats 64000000
namespace Go.Proofs.YtklnibmfpcmeeaaGreatDoor
open Go.RowKit
def ktri (x y z:Int):Nat→Int
 | 0=>x
 | 1=>y
 | 2=>z
 | _+3=>0
theorem ktri_in:In 256 32 (ktri 65 219 1)
 | 0,_=>by decide
 | 1,_=>by decide
 | 2,_=>by decide
 | _+3,_=>⟨Int.le_refl 0,(by decide:(0:Int)<256)⟩
theorem tri_kz:kz (ktri 65 219 1)=cz:=by unfold kz cz; rw [show val 256 (ktri 65 219 1) 32=121665 by decide +kernel]
def stz (a b c d:Nat→Int):Ed.St QN:=⟨kz a,kz b,kz c,kz d⟩
theorem bent_any (e:Nat→Int) (he:In 256 32 e) (w:World) (hg:kGlob w):Calls Tryz.prog 92 #[(.agg (row .u8 32 (e)).toArray)] w (Ans (cz*kz e) w):=by
 have K:=Kq.init w; have K:=K.box 32 (e) 23 (w.heap.size) rfl; have K:=K.make 32 zu8_32 23 (w.heap.size+1) (by simp) (key_zero _ _ _ (by simp)).there
 go_enter Tryz.func92,Tryz.ntmps92
 go_upto_region 1 with fail; refine wp_region_list ?_; refine xpL (.agg (row .u8 32 (ktri 65 219 1)).toArray) ?_; refine rowAtL 32 (e) (w.heap.size) 0 23 _ _ rfl rfl rfl Tryz.underlying23 rfl (key_info _) (K.whole _ _ mS) ?_; simp only [aP,lI,l0,lS]; refine xcL (mulz (ktri 65 219 1) (e) (ktri_in) (he) _ (hg.below K.below hg.size)) ?_; rintro e w1 ⟨f1,rfl,s1,l⟩; have K:=K.call l; clear l
 refine xeL ?_; refine storesL .u8 32 (f1) (w.heap.size+1) 23 _ _ rfl rfl rfl rfl (K.roomy _ _ _ mS) (key_info' _) ?_; simp only [Act.put]; show Exit.then _ _ _ _ _; have hO:=(K.room _ mS).1; have hL:=(K.fill _ _ mS (row .u8 32 (f1))).below; clear K; go_wp2
 exact bodyPost_ret (v:=.agg (row .u8 32 (f1)).toArray) (results_row Tryz.results92 rfl (Has.all hO .u8 (f1)).range Tryz.underlying23 rfl (key_info _)) rfl ⟨f1,rfl,⟨s1.1,by rw [s1.2,tri_kz]⟩,hL⟩
theorem start_any (u:Nat→Int) (w:World):Calls Tryz.prog 64 #[(.agg (row .u8 32 (u)).toArray)] w fun e w'=>e=.returned (.agg (row .u8 128 (glue (one 1) (one 0) (u) (one 1))).toArray)∧Below w.heap.size w w':=by
 have K:=Kq.init w; have K:=K.box 32 (u) 23 (w.heap.size) rfl; have K:=K.make 128 zu8_128 94 (w.heap.size+1) (by simp) (rung_zero _ _ _ (by simp)).there
 go_enter Tryz.func64,Tryz.ntmps64
 go_upto_region 0 with fail; refine wp_region_list ?_; refine allocL (row .u8 32 (u)).toArray 23 rfl (fun _=>by kernel_rfl) ?_; simp only [aP,lI,l0,lS]; refine allocL zu8_128 94 rfl (fun _=>by kernel_rfl) ?_; simp only [aP,lI,l0,lS]; simp only [size_new]; show Exit.then _ _ _ _ _; go_upto_region 1 with fail; refine wp_region_list ?_; refine xpL (.agg (row .u8 32 (one 1)).toArray) ?_
 refine rowAtL 32 (u) (w.heap.size) 0 23 _ _ rfl rfl rfl Tryz.underlying23 rfl (key_info _) (K.whole _ _ mS) ?_; simp only [aP,lI,l0,lS]; refine xpL (.agg (row .u8 32 (one 1)).toArray) ?_; refine xpL (.agg (row .u8 128 (glue (one 1) (one 0) (u) (one 1))).toArray) ?_
 refine storesL .u8 128 (glue (one 1) (one 0) (u) (one 1)) (w.heap.size+1) 94 _ _ rfl rfl rfl rfl (K.roomy _ _ _ mS) (rung_info' _) ?_; simp only [Act.put]; show Exit.then _ _ _ _ _; have hO:=(K.room _ mS).1; have hL:=(K.fill _ _ mS (row .u8 128 (glue (one 1) (one 0) (u) (one 1)))).below; clear K; go_wp2
 exact bodyPost_ret (v:=.agg (row .u8 128 (glue (one 1) (one 0) (u) (one 1))).toArray) (results_row Tryz.results64 rfl (Has.all hO .u8 (glue (one 1) (one 0) (u) (one 1))).range Tryz.underlying94 rfl (rung_info _)) rfl ⟨rfl,hL⟩
theorem exchange_any (bit:Int) (hbit:0≤bit∧bit<256) (a b c d:Nat→Int) (ha:In 256 32 a) (hb:In 256 32 b) (hc:In 256 32 c) (hd:In 256 32 d) (w:World):Calls Tryz.prog 65 #[.int .u8 bit,.agg (row .u8 128 (glue (a) (b) (c) (d))).toArray] w fun e w'=>e=.returned (.agg (row .u8 128 (glue (sel bit a c) (sel bit b d) (sel bit c a) (sel bit d b))).toArray)∧Below w.heap.size w w':=by
 have K:=Kq.init w; have K:=K.box 128 (glue (a) (b) (c) (d)) 94 (w.heap.size) rfl; have K:=K.make 128 zu8_128 94 (w.heap.size+1) (by simp) (rung_zero _ _ _ (by simp)).there
 go_enter Tryz.func65,Tryz.ntmps65
 go_upto_region 0 with fail; refine wp_region_list ?_; refine allocL (row .u8 128 (glue (a) (b) (c) (d))).toArray 94 rfl (fun _=>by kernel_rfl) ?_; simp only [aP,lI,l0,lS]; refine allocL zu8_128 94 rfl (fun _=>by kernel_rfl) ?_; simp only [aP,lI,l0,lS]; simp only [size_new]; show Exit.then _ _ _ _ _; go_upto_region 1 with fail
 refine wp_region_held_drew (S:=fun w'=>Kq w _ [(w.heap.size,128,glue (a) (b) (c) (d))] [(w.heap.size+1,128)] w') (by kernel_rfl) K.drew ?_; intro K; refine xpH 0 5 (.int .u8 bit) K ?_; refine xpH 1 6 (.pointer (some ⟨w.heap.size,0,none⟩)) K ?_
 refine rowAtH (i:=2) (some 7) rfl 32 (a) (w.heap.size) 0 23 _ _ rfl rfl rfl rfl (by kernel_rfl) (by kernel_rfl) (by kernel_rfl) (fun _ _ _ h=>h) Tryz.underlying23 rfl (key_info _) K (fun _ h=>h.part0 _ _ _ _ _ mS) ?_; simp only [aP,lI,l0,lS]; refine xpH 3 8 (.pointer (some ⟨w.heap.size,64,none⟩)) K ?_
 refine rowAtH (i:=4) (some 9) rfl 32 (c) (w.heap.size) 64 23 _ _ rfl rfl rfl rfl (by kernel_rfl) (by kernel_rfl) (by kernel_rfl) (fun _ _ _ h=>h) Tryz.underlying23 rfl (key_info _) K (fun _ h=>h.part2 _ _ _ _ _ mS) ?_; simp only [aP,lI,l0,lS]; refine xpH 6 11 (.int .u8 bit) K ?_; refine xpH 7 12 (.pointer (some ⟨w.heap.size,32,none⟩)) K ?_
 refine rowAtH (i:=8) (some 13) rfl 32 (b) (w.heap.size) 32 23 _ _ rfl rfl rfl rfl (by kernel_rfl) (by kernel_rfl) (by kernel_rfl) (fun _ _ _ h=>h) Tryz.underlying23 rfl (key_info _) K (fun _ h=>h.part1 _ _ _ _ _ mS) ?_; simp only [aP,lI,l0,lS]; refine xpH 9 14 (.pointer (some ⟨w.heap.size,96,none⟩)) K ?_
 refine rowAtH (i:=10) (some 15) rfl 32 (d) (w.heap.size) 96 23 _ _ rfl rfl rfl rfl (by kernel_rfl) (by kernel_rfl) (by kernel_rfl) (fun _ _ _ h=>h) Tryz.underlying23 rfl (key_info _) K (fun _ h=>h.part3 _ _ _ _ _ mS) ?_; simp only [aP,lI,l0,lS]; refine xpH 12 17 (.int .u8 bit) K ?_; refine xpH 13 18 (.pointer (some ⟨w.heap.size,64,none⟩)) K ?_
 refine rowAtH (i:=14) (some 19) rfl 32 (c) (w.heap.size) 64 23 _ _ rfl rfl rfl rfl (by kernel_rfl) (by kernel_rfl) (by kernel_rfl) (fun _ _ _ h=>h) Tryz.underlying23 rfl (key_info _) K (fun _ h=>h.part2 _ _ _ _ _ mS) ?_; simp only [aP,lI,l0,lS]; refine xpH 15 20 (.pointer (some ⟨w.heap.size,0,none⟩)) K ?_
 refine rowAtH (i:=16) (some 21) rfl 32 (a) (w.heap.size) 0 23 _ _ rfl rfl rfl rfl (by kernel_rfl) (by kernel_rfl) (by kernel_rfl) (fun _ _ _ h=>h) Tryz.underlying23 rfl (key_info _) K (fun _ h=>h.part0 _ _ _ _ _ mS) ?_; simp only [aP,lI,l0,lS]; refine xpH 18 23 (.int .u8 bit) K ?_; refine xpH 19 24 (.pointer (some ⟨w.heap.size,96,none⟩)) K ?_
 refine rowAtH (i:=20) (some 25) rfl 32 (d) (w.heap.size) 96 23 _ _ rfl rfl rfl rfl (by kernel_rfl) (by kernel_rfl) (by kernel_rfl) (fun _ _ _ h=>h) Tryz.underlying23 rfl (key_info _) K (fun _ h=>h.part3 _ _ _ _ _ mS) ?_; simp only [aP,lI,l0,lS]; refine xpH 21 26 (.pointer (some ⟨w.heap.size,32,none⟩)) K ?_
 refine rowAtH (i:=22) (some 27) rfl 32 (b) (w.heap.size) 32 23 _ _ rfl rfl rfl rfl (by kernel_rfl) (by kernel_rfl) (by kernel_rfl) (fun _ _ _ h=>h) Tryz.underlying23 rfl (key_info _) K (fun _ h=>h.part1 _ _ _ _ _ mS) ?_; simp only [aP,lI,l0,lS]; refine callH (i:=5) (some 10) rfl (by kernel_rfl) rfl rfl (fun _=>by kernel_rfl) (pick_any bit hbit (a) (c) (ha) (hc) _) ?_
 rintro e w1 ⟨rfl,l⟩; have K:=K.call l; clear l
 refine ⟨_,rfl,K,?_⟩
 simp only [aP,lI,l0,lS]; refine callH (i:=11) (some 16) rfl (by kernel_rfl) rfl rfl (fun _=>by kernel_rfl) (pick_any bit hbit (b) (d) (hb) (hd) _) ?_; rintro e w2 ⟨rfl,l⟩; have K:=K.call l; clear l
 refine ⟨_,rfl,K,?_⟩
 simp only [aP,lI,l0,lS]; refine callH (i:=17) (some 22) rfl (by kernel_rfl) rfl rfl (fun _=>by kernel_rfl) (pick_any bit hbit (c) (a) (hc) (ha) _) ?_; rintro e w3 ⟨rfl,l⟩; have K:=K.call l; clear l
 refine ⟨_,rfl,K,?_⟩
 simp only [aP,lI,l0,lS]; refine callH (i:=23) (some 28) rfl (by kernel_rfl) rfl rfl (fun _=>by kernel_rfl) (pick_any bit hbit (d) (b) (hd) (hb) _) ?_; rintro e w4 ⟨rfl,l⟩; have K:=K.call l; clear l
 refine ⟨_,rfl,K,?_⟩
 simp only [aP,lI,l0,lS]; refine xpH 24 29 (.agg (row .u8 128 (glue (sel bit a c) (sel bit b d) (sel bit c a) (sel bit d b))).toArray) K ?_; refine storesH (i:=25) (none) rfl .u8 128 (glue (sel bit a c) (sel bit b d) (sel bit c a) (sel bit d b)) (w.heap.size+1) 94 _ _ (by kernel_rfl) rfl rfl rfl rfl rfl (K.roomy _ _ _ mS) (rung_info' _) (K.fill _ _ mS _) ?_; simp only [Act.put]
 refine wpAnyH_done (by kernel_rfl) ?_ _
 have hO:=(K.room _ mS).1; have hL:=(K.fill _ _ mS (row .u8 128 (glue (sel bit a c) (sel bit b d) (sel bit c a) (sel bit d b)))).below; clear K; go_wp2
 exact bodyPost_ret (v:=.agg (row .u8 128 (glue (sel bit a c) (sel bit b d) (sel bit c a) (sel bit d b))).toArray) (results_row Tryz.results65 rfl (Has.all hO .u8 (glue (sel bit a c) (sel bit b d) (sel bit c a) (sel bit d b))).range Tryz.underlying94 rfl (rung_info _)) rfl ⟨rfl,hL⟩
theorem climb_any (u a b c d:Nat→Int) (hu:In 256 32 u) (ha:In 256 32 a) (hb:In 256 32 b) (hc:In 256 32 c) (hd:In 256 32 d) (w:World) (hg:kGlob w):Calls Tryz.prog 66 #[(.agg (row .u8 32 (u)).toArray),.agg (row .u8 128 (glue (a) (b) (c) (d))).toArray] w fun e w'=>∃ a' b' c' d':Nat→Int,e=.returned (.agg (row .u8 128 (glue (a') (b') (c') (d'))).toArray)∧(In 256 32 a'∧In 256 32 b'∧In 256 32 c'∧In 256 32 d'∧stz a' b' c' d'=Ed.climb cz (kz u) (stz a b c d))∧Below w.heap.size w w':=by
 have K:=Kq.init w; have K:=K.box 32 (u) 23 (w.heap.size) rfl; have K:=K.box 128 (glue (a) (b) (c) (d)) 94 (w.heap.size+1) (by simp); have K:=K.make 128 zu8_128 94 (w.heap.size+1+1) (by simp) (rung_zero _ _ _ (by simp)).there
 go_enter Tryz.func66,Tryz.ntmps66
 go_upto_region 0 with fail; refine wp_region_list ?_; refine allocL (row .u8 32 (u)).toArray 23 rfl (fun _=>by kernel_rfl) ?_; simp only [aP,lI,l0,lS]; refine allocL (row .u8 128 (glue (a) (b) (c) (d))).toArray 94 rfl (fun _=>by kernel_rfl) ?_; simp only [aP,lI,l0,lS]; refine allocL zu8_128 94 rfl (fun _=>by kernel_rfl) ?_; simp only [aP,lI,l0,lS]; simp only [size_new]
 show Exit.then _ _ _ _ _; go_upto_region 1 with fail; refine wp_region_held_drew (S:=fun w'=>Kq w _ [(w.heap.size+1,128,glue (a) (b) (c) (d)),(w.heap.size,32,u)] [(w.heap.size+1+1,128)] w') (by kernel_rfl) K.drew ?_; intro K; refine xpH 0 14 (.pointer (some ⟨w.heap.size+1,0,none⟩)) K ?_
 refine rowAtH (i:=1) (some 15) rfl 32 (a) (w.heap.size+1) 0 23 _ _ rfl rfl rfl rfl (by kernel_rfl) (by kernel_rfl) (by kernel_rfl) (fun _ _ _ h=>h) Tryz.underlying23 rfl (key_info _) K (fun _ h=>h.part0 _ _ _ _ _ mS) ?_; simp only [aP,lI,l0,lS]; refine xpH 2 16 (.pointer (some ⟨w.heap.size+1,32,none⟩)) K ?_
 refine rowAtH (i:=3) (some 17) rfl 32 (b) (w.heap.size+1) 32 23 _ _ rfl rfl rfl rfl (by kernel_rfl) (by kernel_rfl) (by kernel_rfl) (fun _ _ _ h=>h) Tryz.underlying23 rfl (key_info _) K (fun _ h=>h.part1 _ _ _ _ _ mS) ?_; simp only [aP,lI,l0,lS]; refine xpH 5 19 (.pointer (some ⟨w.heap.size+1,0,none⟩)) K ?_
 refine rowAtH (i:=6) (some 20) rfl 32 (a) (w.heap.size+1) 0 23 _ _ rfl rfl rfl rfl (by kernel_rfl) (by kernel_rfl) (by kernel_rfl) (fun _ _ _ h=>h) Tryz.underlying23 rfl (key_info _) K (fun _ h=>h.part0 _ _ _ _ _ mS) ?_; simp only [aP,lI,l0,lS]; refine xpH 7 21 (.pointer (some ⟨w.heap.size+1,32,none⟩)) K ?_
 refine rowAtH (i:=8) (some 22) rfl 32 (b) (w.heap.size+1) 32 23 _ _ rfl rfl rfl rfl (by kernel_rfl) (by kernel_rfl) (by kernel_rfl) (fun _ _ _ h=>h) Tryz.underlying23 rfl (key_info _) K (fun _ h=>h.part1 _ _ _ _ _ mS) ?_; simp only [aP,lI,l0,lS]
 refine pairH (c1:=4) (c2:=9) (a1:=10) (a2:=11) 18 23 5 6 zu8_32 23 (Kz (kz (a)+kz (b))) (Kz (kz (a)-kz (b))) rfl rfl rfl rfl (by decide) (by decide) (by decide) (by decide) (by decide) (by decide) (by decide) (by decide) (by decide) (by decide) rfl rfl rfl rfl rfl rfl rfl rfl (fun _ _ h=>by cases h) (fun _ _ h=>by cases h) (by decide +kernel) (by decide +kernel) (by decide +kernel) (by decide +kernel) (by decide +kernel) (by kernel_rfl) (by kernel_rfl) (by kernel_rfl) (by kernel_rfl) (by kernel_rfl) (by kernel_rfl) (by kernel_rfl) (by kernel_rfl) (by kernel_rfl) (by kernel_rfl) (by kernel_rfl) (fun _=>by kernel_rfl) (fun _=>by kernel_rfl) (fun _ _=>by kernel_rfl) (fun _ _=>by kernel_rfl) (fun _=>(key_zero _ _ _ rfl).there) K (fun _ h=>h.size) (fun _ _ h l=>h.call l)
  (fun _ h=>(addz (a) (b) (ha) (hb) _ (hg.below h.below hg.size)).mono fun _ _ q=>q.ks) (fun _ h=>(subz (a) (b) (ha) (hb) _ (hg.below h.below hg.size)).mono fun _ _ q=>q.ks) ?_
 rintro v1 v2 B5 B6 w1 ⟨f1,rfl,s1⟩ ⟨f2,rfl,s2⟩ K b1 b2 ne; simp only [aP,lI,l0,lS]; refine storesH (i:=12) (none) rfl .u8 32 (f1) (B5) 23 _ _ (by kernel_rfl) rfl rfl rfl rfl rfl (kroom_of b1.th) (key_info' _) (K.past _ b1.lo _) ?_; simp only [Act.put]
 refine storesH (i:=13) (none) rfl .u8 32 (f2) (B6) 23 _ _ (by kernel_rfl) rfl rfl rfl rfl rfl (kroom_of (World.there_setCells b2.th _ _ _)) (key_info' _) ((K.past _ b1.lo _).past _ b2.lo _) ?_; simp only [Act.put]
 refine wpAnyH_done (by kernel_rfl) ?_ _
 have K:=K.two b1 b2 ne f1 f2; clear b1 b2 ne; generalize ((w1.setCells B5 0 (row .u8 32 f1)).setCells B6 0 (row .u8 32 f2))=w2 at K ⊢; go_upto_region 2 with fail; refine wp_region_held_drew (S:=fun w'=>Kq w _ [(B6,32,f2),(B5,32,f1),(w.heap.size+1,128,glue (a) (b) (c) (d)),(w.heap.size,32,u)] [(w.heap.size+1+1,128)] w') (by kernel_rfl) K.drew ?_; intro K
 refine xpH 0 24 (.pointer (some ⟨w.heap.size+1,64,none⟩)) K ?_; refine rowAtH (i:=1) (some 25) rfl 32 (c) (w.heap.size+1) 64 23 _ _ rfl rfl rfl rfl (by kernel_rfl) (by kernel_rfl) (by kernel_rfl) (fun _ _ _ h=>h) Tryz.underlying23 rfl (key_info _) K (fun _ h=>h.part2 _ _ _ _ _ (mI 2 rfl)) ?_; simp only [aP,lI,l0,lS]
 refine xpH 2 26 (.pointer (some ⟨w.heap.size+1,96,none⟩)) K ?_; refine rowAtH (i:=3) (some 27) rfl 32 (d) (w.heap.size+1) 96 23 _ _ rfl rfl rfl rfl (by kernel_rfl) (by kernel_rfl) (by kernel_rfl) (fun _ _ _ h=>h) Tryz.underlying23 rfl (key_info _) K (fun _ h=>h.part3 _ _ _ _ _ (mI 2 rfl)) ?_; simp only [aP,lI,l0,lS]
 refine xpH 5 29 (.pointer (some ⟨w.heap.size+1,64,none⟩)) K ?_; refine rowAtH (i:=6) (some 30) rfl 32 (c) (w.heap.size+1) 64 23 _ _ rfl rfl rfl rfl (by kernel_rfl) (by kernel_rfl) (by kernel_rfl) (fun _ _ _ h=>h) Tryz.underlying23 rfl (key_info _) K (fun _ h=>h.part2 _ _ _ _ _ (mI 2 rfl)) ?_; simp only [aP,lI,l0,lS]
 refine xpH 7 31 (.pointer (some ⟨w.heap.size+1,96,none⟩)) K ?_; refine rowAtH (i:=8) (some 32) rfl 32 (d) (w.heap.size+1) 96 23 _ _ rfl rfl rfl rfl (by kernel_rfl) (by kernel_rfl) (by kernel_rfl) (fun _ _ _ h=>h) Tryz.underlying23 rfl (key_info _) K (fun _ h=>h.part3 _ _ _ _ _ (mI 2 rfl)) ?_; simp only [aP,lI,l0,lS]
 refine pairH (c1:=4) (c2:=9) (a1:=10) (a2:=11) 28 33 7 8 zu8_32 23 (Kz (kz (c)+kz (d))) (Kz (kz (c)-kz (d))) rfl rfl rfl rfl (by decide) (by decide) (by decide) (by decide) (by decide) (by decide) (by decide) (by decide) (by decide) (by decide) rfl rfl rfl rfl rfl rfl rfl rfl (fun _ _ h=>by cases h) (fun _ _ h=>by cases h) (by decide +kernel) (by decide +kernel) (by decide +kernel) (by decide +kernel) (by decide +kernel) (by kernel_rfl) (by kernel_rfl) (by kernel_rfl) (by kernel_rfl) (by kernel_rfl) (by kernel_rfl) (by kernel_rfl) (by kernel_rfl) (by kernel_rfl) (by kernel_rfl) (by kernel_rfl) (fun _=>by kernel_rfl) (fun _=>by kernel_rfl) (fun _ _=>by kernel_rfl) (fun _ _=>by kernel_rfl) (fun _=>(key_zero _ _ _ rfl).there) K (fun _ h=>h.size) (fun _ _ h l=>h.call l)
  (fun _ h=>(addz (c) (d) (hc) (hd) _ (hg.below h.below hg.size)).mono fun _ _ q=>q.ks) (fun _ h=>(subz (c) (d) (hc) (hd) _ (hg.below h.below hg.size)).mono fun _ _ q=>q.ks) ?_
 rintro v1 v2 B7 B8 w3 ⟨f3,rfl,s3⟩ ⟨f4,rfl,s4⟩ K b1 b2 ne; simp only [aP,lI,l0,lS]; refine storesH (i:=12) (none) rfl .u8 32 (f3) (B7) 23 _ _ (by kernel_rfl) rfl rfl rfl rfl rfl (kroom_of b1.th) (key_info' _) (K.past _ b1.lo _) ?_; simp only [Act.put]
 refine storesH (i:=13) (none) rfl .u8 32 (f4) (B8) 23 _ _ (by kernel_rfl) rfl rfl rfl rfl rfl (kroom_of (World.there_setCells b2.th _ _ _)) (key_info' _) ((K.past _ b1.lo _).past _ b2.lo _) ?_; simp only [Act.put]
 refine wpAnyH_done (by kernel_rfl) ?_ _
 have K:=K.two b1 b2 ne f3 f4; clear b1 b2 ne; generalize ((w3.setCells B7 0 (row .u8 32 f3)).setCells B8 0 (row .u8 32 f4))=w4 at K ⊢; go_upto_region 3 with fail
 refine wp_region_held_drew (S:=fun w'=>Kq w _ [(B8,32,f4),(B7,32,f3),(B6,32,f2),(B5,32,f1),(w.heap.size+1,128,glue (a) (b) (c) (d)),(w.heap.size,32,u)] [(w.heap.size+1+1,128)] w') (by kernel_rfl) K.drew ?_; intro K
 refine rowAtH (i:=0) (some 34) rfl 32 (f4) (B8) 0 23 _ _ rfl rfl rfl rfl (by kernel_rfl) (by kernel_rfl) (by kernel_rfl) (fun _ _ _ h=>h) Tryz.underlying23 rfl (key_info _) K (fun _ h=>h.whole _ _ mS) ?_; simp only [aP,lI,l0,lS]
 refine rowAtH (i:=1) (some 35) rfl 32 (f1) (B5) 0 23 _ _ rfl rfl rfl rfl (by kernel_rfl) (by kernel_rfl) (by kernel_rfl) (fun _ _ _ h=>h) Tryz.underlying23 rfl (key_info _) K (fun _ h=>h.whole _ _ (mI 3 rfl)) ?_; simp only [aP,lI,l0,lS]
 refine rowAtH (i:=3) (some 37) rfl 32 (f3) (B7) 0 23 _ _ rfl rfl rfl rfl (by kernel_rfl) (by kernel_rfl) (by kernel_rfl) (fun _ _ _ h=>h) Tryz.underlying23 rfl (key_info _) K (fun _ h=>h.whole _ _ (mT _ mS)) ?_; simp only [aP,lI,l0,lS]
 refine rowAtH (i:=4) (some 38) rfl 32 (f2) (B6) 0 23 _ _ rfl rfl rfl rfl (by kernel_rfl) (by kernel_rfl) (by kernel_rfl) (fun _ _ _ h=>h) Tryz.underlying23 rfl (key_info _) K (fun _ h=>h.whole _ _ (mI 2 rfl)) ?_; simp only [aP,lI,l0,lS]
 refine pairH (c1:=2) (c2:=5) (a1:=6) (a2:=7) 36 39 9 10 zu8_32 23 (Kz (kz (f4)*kz (f1))) (Kz (kz (f3)*kz (f2))) rfl rfl rfl rfl (by decide) (by decide) (by decide) (by decide) (by decide) (by decide) (by decide) (by decide) (by decide) (by decide) rfl rfl rfl rfl rfl rfl rfl rfl (fun _ _ h=>by cases h) (fun _ _ h=>by cases h) (by decide +kernel) (by decide +kernel) (by decide +kernel) (by decide +kernel) (by decide +kernel) (by kernel_rfl) (by kernel_rfl) (by kernel_rfl) (by kernel_rfl) (by kernel_rfl) (by kernel_rfl) (by kernel_rfl) (by kernel_rfl) (by kernel_rfl) (by kernel_rfl) (by kernel_rfl) (fun _=>by kernel_rfl) (fun _=>by kernel_rfl) (fun _ _=>by kernel_rfl) (fun _ _=>by kernel_rfl) (fun _=>(key_zero _ _ _ rfl).there) K (fun _ h=>h.size) (fun _ _ h l=>h.call l)
  (fun _ h=>(mulz (f4) (f1) (s4.1) (s1.1) _ (hg.below h.below hg.size)).mono fun _ _ q=>q.ks) (fun _ h=>(mulz (f3) (f2) (s3.1) (s2.1) _ (hg.below h.below hg.size)).mono fun _ _ q=>q.ks) ?_
 rintro v1 v2 B9 B10 w5 ⟨f5,rfl,s5⟩ ⟨f6,rfl,s6⟩ K b1 b2 ne; simp only [aP,lI,l0,lS]; refine storesH (i:=8) (none) rfl .u8 32 (f5) (B9) 23 _ _ (by kernel_rfl) rfl rfl rfl rfl rfl (kroom_of b1.th) (key_info' _) (K.past _ b1.lo _) ?_; simp only [Act.put]
 refine storesH (i:=9) (none) rfl .u8 32 (f6) (B10) 23 _ _ (by kernel_rfl) rfl rfl rfl rfl rfl (kroom_of (World.there_setCells b2.th _ _ _)) (key_info' _) ((K.past _ b1.lo _).past _ b2.lo _) ?_; simp only [Act.put]
 refine wpAnyH_done (by kernel_rfl) ?_ _
 have K:=K.two b1 b2 ne f5 f6; clear b1 b2 ne; generalize ((w5.setCells B9 0 (row .u8 32 f5)).setCells B10 0 (row .u8 32 f6))=w6 at K ⊢; go_upto_region 4 with fail
 refine wp_region_held_drew (S:=fun w'=>Kq w _ [(B10,32,f6),(B9,32,f5),(B8,32,f4),(B7,32,f3),(B6,32,f2),(B5,32,f1),(w.heap.size+1,128,glue (a) (b) (c) (d)),(w.heap.size,32,u)] [(w.heap.size+1+1,128)] w') (by kernel_rfl) K.drew ?_; intro K
 refine rowAtH (i:=0) (some 40) rfl 32 (f1) (B5) 0 23 _ _ rfl rfl rfl rfl (by kernel_rfl) (by kernel_rfl) (by kernel_rfl) (fun _ _ _ h=>h) Tryz.underlying23 rfl (key_info _) K (fun _ h=>h.whole _ _ (mI 5 rfl)) ?_; simp only [aP,lI,l0,lS]
 refine rowAtH (i:=2) (some 42) rfl 32 (f2) (B6) 0 23 _ _ rfl rfl rfl rfl (by kernel_rfl) (by kernel_rfl) (by kernel_rfl) (fun _ _ _ h=>h) Tryz.underlying23 rfl (key_info _) K (fun _ h=>h.whole _ _ (mI 4 rfl)) ?_; simp only [aP,lI,l0,lS]
 refine pairH (c1:=1) (c2:=3) (a1:=4) (a2:=5) 41 43 11 12 zu8_32 23 (Kz (kz (f1)*kz (f1))) (Kz (kz (f2)*kz (f2))) rfl rfl rfl rfl (by decide) (by decide) (by decide) (by decide) (by decide) (by decide) (by decide) (by decide) (by decide) (by decide) rfl rfl rfl rfl rfl rfl rfl rfl (fun _ _ h=>by cases h) (fun _ _ h=>by cases h) (by decide +kernel) (by decide +kernel) (by decide +kernel) (by decide +kernel) (by decide +kernel) (by kernel_rfl) (by kernel_rfl) (by kernel_rfl) (by kernel_rfl) (by kernel_rfl) (by kernel_rfl) (by kernel_rfl) (by kernel_rfl) (by kernel_rfl) (by kernel_rfl) (by kernel_rfl) (fun _=>by kernel_rfl) (fun _=>by kernel_rfl) (fun _ _=>by kernel_rfl) (fun _ _=>by kernel_rfl) (fun _=>(key_zero _ _ _ rfl).there) K (fun _ h=>h.size) (fun _ _ h l=>h.call l)
  (fun _ h=>(sqz (f1) (s1.1) _ (hg.below h.below hg.size)).mono fun _ _ q=>q.ks) (fun _ h=>(sqz (f2) (s2.1) _ (hg.below h.below hg.size)).mono fun _ _ q=>q.ks) ?_
 rintro v1 v2 B11 B12 w7 ⟨f7,rfl,s7⟩ ⟨f8,rfl,s8⟩ K b1 b2 ne; simp only [aP,lI,l0,lS]; refine storesH (i:=6) (none) rfl .u8 32 (f7) (B11) 23 _ _ (by kernel_rfl) rfl rfl rfl rfl rfl (kroom_of b1.th) (key_info' _) (K.past _ b1.lo _) ?_; simp only [Act.put]
 refine storesH (i:=7) (none) rfl .u8 32 (f8) (B12) 23 _ _ (by kernel_rfl) rfl rfl rfl rfl rfl (kroom_of (World.there_setCells b2.th _ _ _)) (key_info' _) ((K.past _ b1.lo _).past _ b2.lo _) ?_; simp only [Act.put]
 refine wpAnyH_done (by kernel_rfl) ?_ _
 have K:=K.two b1 b2 ne f7 f8; clear b1 b2 ne; generalize ((w7.setCells B11 0 (row .u8 32 f7)).setCells B12 0 (row .u8 32 f8))=w8 at K ⊢; go_upto_region 5 with fail; refine wp_region_list ?_; refine rowAtL 32 (f7) (B11) 0 23 _ _ rfl rfl rfl Tryz.underlying23 rfl (key_info _) (K.whole _ _ (mT _ mS)) ?_; simp only [aP,lI,l0,lS]
 refine rowAtL 32 (f8) (B12) 0 23 _ _ rfl rfl rfl Tryz.underlying23 rfl (key_info _) (K.whole _ _ mS) ?_; simp only [aP,lI,l0,lS]; refine xcL (subz (f7) (f8) (s7.1) (s8.1) _ (hg.below K.below hg.size)) ?_; rintro e w9 ⟨f9,rfl,s9,l⟩; have K:=K.call l; clear l; refine xeL ?_; refine allocL zu8_32 23 rfl (fun _=>by kernel_rfl) ?_; simp only [aP,lI,l0,lS]
 refine storesL .u8 32 (f9) (w9.heap.size) 23 _ _ rfl rfl rfl rfl (kroom_of (key_zero _ _ _ rfl).there) (key_info' _) ?_; have K:=K.fresh 32 (f9) zu8_32 23 (key_zero _ _ _ rfl).there; simp only [Act.put]; show Exit.then _ _ _ _ _; go_upto_region 6 with fail
 refine wp_region_held_drew (S:=fun w'=>Kq w _ [(w9.heap.size,32,f9),(B12,32,f8),(B11,32,f7),(B10,32,f6),(B9,32,f5),(B8,32,f4),(B7,32,f3),(B6,32,f2),(B5,32,f1),(w.heap.size+1,128,glue (a) (b) (c) (d)),(w.heap.size,32,u)] [(w.heap.size+1+1,128)] w') (by kernel_rfl) K.drew ?_; intro K
 refine rowAtH (i:=0) (some 47) rfl 32 (f7) (B11) 0 23 _ _ rfl rfl rfl rfl (by kernel_rfl) (by kernel_rfl) (by kernel_rfl) (fun _ _ _ h=>h) Tryz.underlying23 rfl (key_info _) K (fun _ h=>h.whole _ _ (mI 2 rfl)) ?_; simp only [aP,lI,l0,lS]
 refine rowAtH (i:=1) (some 48) rfl 32 (f8) (B12) 0 23 _ _ rfl rfl rfl rfl (by kernel_rfl) (by kernel_rfl) (by kernel_rfl) (fun _ _ _ h=>h) Tryz.underlying23 rfl (key_info _) K (fun _ h=>h.whole _ _ (mT _ mS)) ?_; simp only [aP,lI,l0,lS]
 refine rowAtH (i:=3) (some 50) rfl 32 (f9) (w9.heap.size) 0 23 _ _ rfl rfl rfl rfl (by kernel_rfl) (by kernel_rfl) (by kernel_rfl) (fun _ _ _ h=>h) Tryz.underlying23 rfl (key_info _) K (fun _ h=>h.whole _ _ mS) ?_; simp only [aP,lI,l0,lS]
 refine rowAtH (i:=4) (some 51) rfl 32 (f7) (B11) 0 23 _ _ rfl rfl rfl rfl (by kernel_rfl) (by kernel_rfl) (by kernel_rfl) (fun _ _ _ h=>h) Tryz.underlying23 rfl (key_info _) K (fun _ h=>h.whole _ _ (mI 2 rfl)) ?_; simp only [aP,lI,l0,lS]
 refine rowAtH (i:=5) (some 52) rfl 32 (f9) (w9.heap.size) 0 23 _ _ rfl rfl rfl rfl (by kernel_rfl) (by kernel_rfl) (by kernel_rfl) (fun _ _ _ h=>h) Tryz.underlying23 rfl (key_info _) K (fun _ h=>h.whole _ _ mS) ?_; simp only [aP,lI,l0,lS]
 refine rowAtH (i:=9) (some 56) rfl 32 (f5) (B9) 0 23 _ _ rfl rfl rfl rfl (by kernel_rfl) (by kernel_rfl) (by kernel_rfl) (fun _ _ _ h=>h) Tryz.underlying23 rfl (key_info _) K (fun _ h=>h.whole _ _ (mI 4 rfl)) ?_; simp only [aP,lI,l0,lS]
 refine rowAtH (i:=10) (some 57) rfl 32 (f6) (B10) 0 23 _ _ rfl rfl rfl rfl (by kernel_rfl) (by kernel_rfl) (by kernel_rfl) (fun _ _ _ h=>h) Tryz.underlying23 rfl (key_info _) K (fun _ h=>h.whole _ _ (mI 3 rfl)) ?_; simp only [aP,lI,l0,lS]
 refine rowAtH (i:=13) (some 60) rfl 32 (u) (w.heap.size) 0 23 _ _ rfl rfl rfl rfl (by kernel_rfl) (by kernel_rfl) (by kernel_rfl) (fun _ _ _ h=>h) Tryz.underlying23 rfl (key_info _) K (fun _ h=>h.whole _ _ (mI 10 rfl)) ?_; simp only [aP,lI,l0,lS]
 refine rowAtH (i:=14) (some 61) rfl 32 (f5) (B9) 0 23 _ _ rfl rfl rfl rfl (by kernel_rfl) (by kernel_rfl) (by kernel_rfl) (fun _ _ _ h=>h) Tryz.underlying23 rfl (key_info _) K (fun _ h=>h.whole _ _ (mI 4 rfl)) ?_; simp only [aP,lI,l0,lS]
 refine rowAtH (i:=15) (some 62) rfl 32 (f6) (B10) 0 23 _ _ rfl rfl rfl rfl (by kernel_rfl) (by kernel_rfl) (by kernel_rfl) (fun _ _ _ h=>h) Tryz.underlying23 rfl (key_info _) K (fun _ h=>h.whole _ _ (mI 3 rfl)) ?_; simp only [aP,lI,l0,lS]; refine callH (i:=2) (some 49) rfl (by kernel_rfl) rfl rfl (fun _=>by kernel_rfl) (mulz (f7) (f8) (s7.1) (s8.1) _ (hg.below K.below hg.size)) ?_
 rintro e w10 ⟨f10,rfl,s10,l⟩; have K:=K.call l; clear l
 refine ⟨_,rfl,K,?_⟩
 simp only [aP,lI,l0,lS]; refine callH (i:=6) (some 53) rfl (by kernel_rfl) rfl rfl (fun _=>by kernel_rfl) (bent_any (f9) (s9.1) _ (hg.below K.below hg.size)) ?_; rintro e w11 ⟨f11,rfl,s11,l⟩; have K:=K.call l; clear l
 refine ⟨_,rfl,K,?_⟩
 simp only [aP,lI,l0,lS]; refine callH (i:=7) (some 54) rfl (by kernel_rfl) rfl rfl (fun _=>by kernel_rfl) (addz (f7) (f11) (s7.1) (s11.1) _ (hg.below K.below hg.size)) ?_; rintro e w12 ⟨f12,rfl,s12,l⟩; have K:=K.call l; clear l
 refine ⟨_,rfl,K,?_⟩
 simp only [aP,lI,l0,lS]; refine callH (i:=8) (some 55) rfl (by kernel_rfl) rfl rfl (fun _=>by kernel_rfl) (mulz (f9) (f12) (s9.1) (s12.1) _ (hg.below K.below hg.size)) ?_; rintro e w13 ⟨f13,rfl,s13,l⟩; have K:=K.call l; clear l
 refine ⟨_,rfl,K,?_⟩
 simp only [aP,lI,l0,lS]; refine callH (i:=11) (some 58) rfl (by kernel_rfl) rfl rfl (fun _=>by kernel_rfl) (addz (f5) (f6) (s5.1) (s6.1) _ (hg.below K.below hg.size)) ?_; rintro e w14 ⟨f14,rfl,s14,l⟩; have K:=K.call l; clear l
 refine ⟨_,rfl,K,?_⟩
 simp only [aP,lI,l0,lS]; refine callH (i:=12) (some 59) rfl (by kernel_rfl) rfl rfl (fun _=>by kernel_rfl) (sqz (f14) (s14.1) _ (hg.below K.below hg.size)) ?_; rintro e w15 ⟨f15,rfl,s15,l⟩; have K:=K.call l; clear l
 refine ⟨_,rfl,K,?_⟩
 simp only [aP,lI,l0,lS]; refine callH (i:=16) (some 63) rfl (by kernel_rfl) rfl rfl (fun _=>by kernel_rfl) (subz (f5) (f6) (s5.1) (s6.1) _ (hg.below K.below hg.size)) ?_; rintro e w16 ⟨f16,rfl,s16,l⟩; have K:=K.call l; clear l
 refine ⟨_,rfl,K,?_⟩
 simp only [aP,lI,l0,lS]; refine callH (i:=17) (some 64) rfl (by kernel_rfl) rfl rfl (fun _=>by kernel_rfl) (sqz (f16) (s16.1) _ (hg.below K.below hg.size)) ?_; rintro e w17 ⟨f17,rfl,s17,l⟩; have K:=K.call l; clear l
 refine ⟨_,rfl,K,?_⟩
 simp only [aP,lI,l0,lS]; refine callH (i:=18) (some 65) rfl (by kernel_rfl) rfl rfl (fun _=>by kernel_rfl) (mulz (u) (f17) (hu) (s17.1) _ (hg.below K.below hg.size)) ?_; rintro e w18 ⟨f18,rfl,s18,l⟩; have K:=K.call l; clear l
 refine ⟨_,rfl,K,?_⟩
 simp only [aP,lI,l0,lS]; refine xpH 19 66 (.agg (row .u8 128 (glue (f10) (f13) (f15) (f18))).toArray) K ?_; refine storesH (i:=20) (none) rfl .u8 128 (glue (f10) (f13) (f15) (f18)) (w.heap.size+1+1) 94 _ _ (by kernel_rfl) rfl rfl rfl rfl rfl (K.roomy _ _ _ mS) (rung_info' _) (K.fill _ _ mS _) ?_; simp only [Act.put]
 refine wpAnyH_done (by kernel_rfl) ?_ _
 have hO:=(K.room _ mS).1; have hL:=(K.fill _ _ mS (row .u8 128 (glue (f10) (f13) (f15) (f18)))).below; clear K; go_wp2
 exact bodyPost_ret (v:=.agg (row .u8 128 (glue (f10) (f13) (f15) (f18))).toArray) (results_row Tryz.results66 rfl (Has.all hO .u8 (glue (f10) (f13) (f15) (f18))).range Tryz.underlying94 rfl (rung_info _)) rfl ⟨f10,f13,f15,f18,rfl,⟨s10.1,s13.1,s15.1,s18.1,by unfold stz Ed.climb; simp only; rw [s18.2,s17.2,s16.2,s15.2,s14.2,s13.2,s12.2,s11.2,s10.2,s9.2,s8.2,s7.2,s6.2,s5.2,s4.2,s3.2,s2.2,s1.2]⟩,hL⟩
structure Trs (w:World):Prop where
 a0:w.cell? ⟨0,0,none⟩=some (.int .i64 0)
 k0:w.cell? ⟨0,1,none⟩=some (.int .u8 248)
 s0:w.cell? ⟨0,2,none⟩=some (.int .u8 0)
 a1:w.cell? ⟨0,3,none⟩=some (.int .i64 31)
 k1:w.cell? ⟨0,4,none⟩=some (.int .u8 127)
 s1:w.cell? ⟨0,5,none⟩=some (.int .u8 64)
theorem Trs.below {w w':World} (h:Trs w) {B:Nat} (l:Below B w w') (hB:10≤B):Trs w':=by
 have hb:∀ o,w'.cell? ⟨0,o,none⟩=w.cell? ⟨0,o,none⟩:=fun o=>l.cell (p:=⟨0,o,none⟩) (xnL (show 0<10 by decide) hB)
 exact ⟨by rw [hb]; exact h.a0,by rw [hb]; exact h.k0,by rw [hb]; exact h.s0,by rw [hb]; exact h.a1,by rw [hb]; exact h.k1,by rw [hb]; exact h.s1⟩
def trim (k:Nat→Int):Nat→Int:=fun j=>if j=0 then k 0/8*8 else if j=31 then k 31%64+64 else k j
theorem trim_in (k:Nat→Int) (h:In 256 32 k):In 256 32 (trim k):=fun j hj=>by
 have h0:=h 0 (by omega); have h1:=h 31 (by omega)
 unfold trim
 split
 · omega
 · split
   · omega
   · exact h j hj
theorem trim_low8:∀ x:Fin 256,bits BinOp.or IntKind.u8 (bits BinOp.and IntKind.u8 (x.val:Int) 248) 0=(x.val:Int)/8*8:=by decide +kernel
theorem trim_high8:∀ x:Fin 256,bits BinOp.or IntKind.u8 (bits BinOp.and IntKind.u8 (x.val:Int) 127) 64=(x.val:Int)%64+64:=by decide +kernel
theorem and_127:∀ x:Fin 256,bits BinOp.and IntKind.u8 (x.val:Int) 127=(x.val:Int)%128:=by decide +kernel
theorem trim_low (x:Int) (h:0≤x∧x<256):bits BinOp.or IntKind.u8 (bits BinOp.and IntKind.u8 x 248) 0=x/8*8:=by
 obtain ⟨n,rfl⟩:=xiN h.1
 exact trim_low8 ⟨n,by omega⟩
theorem trim_high (x:Int) (h:0≤x∧x<256):bits BinOp.or IntKind.u8 (bits BinOp.and IntKind.u8 x 127) 64=x%64+64:=by
 obtain ⟨n,rfl⟩:=xiN h.1
 exact trim_high8 ⟨n,by omega⟩
theorem and127 (x:Int) (h:0≤x∧x<256):bits BinOp.and IntKind.u8 x 127=x%128:=by
 obtain ⟨n,rfl⟩:=xiN h.1
 exact and_127 ⟨n,by omega⟩
structure TrInv (w:World) (m:Nat→Int) (w':World):Prop where
 ha:Has w' w.heap.size .u8 32 m
 hr:Has w' (w.heap.size+1) .u8 32 (fun _=>0)
 fr:Fr w 2 w'
theorem TrInv.step {w:World} {m:Nat→Int} {w':World} (h:TrInv w m w') (i:Nat) (hi:i<32) (x:Int):TrInv w (upd m i x) ((w'.setCell ⟨w.heap.size,i,none⟩ (.int .u8 x)).drew) :=
 ⟨(h.ha.set i hi x).drew,(h.hr.set_other _ _ (by simp)).drew,(h.fr.set _ _ (by simp)).drew⟩
theorem trim_any (k:Nat→Int) (hk:In 256 32 k) (w:World) (ht:Trs w) (hs:10≤w.heap.size) :
 Calls Tryz.prog 63 #[(.agg (row .u8 32 (k)).toArray)] w fun e w'=>e=.returned (.agg (row .u8 32 (trim k)).toArray)∧Below w.heap.size w w':=by
 have b0:TrInv w k ((w.alloc (.cells (row .u8 32 k).toArray 23)).alloc (.cells zu8_32 23)):=⟨(Has.new w _ _ _ _ _ rfl).alloc _ (by simp),key_zero _ _ _ (by simp),((Fr.refl w).alloc _).alloc _⟩
 have hE:∀ j,upd (upd k 0 (k 0/8*8)) 31 (k 31%64+64) j=trim k j:=fun j=>by
  unfold trim
  by_cases e:j=31
  · subst e; rw [upd_same]; simp
  · rw [upd_other _ _ _ _ e]
    by_cases e0:j=0
    · subst e0; rw [upd_same]; simp
    · rw [upd_other _ _ _ _ e0]; simp [e0,e]
 have x0:=hk 0 (by omega); have x1:=hk 31 (by omega); have HE:=show Hid _ from hE; have H0:=show Hid _ from trim_low (k 0) x0; have H1:=show Hid _ from trim_high (k 31) x1; have HX:=show Hid _ from hk; clear hE x0 x1 hk
 go_enter Tryz.func63,Tryz.ntmps63
 go_wp2
 go_loopw [5] (fun i w'=>∃ (t:Nat) (m:Nat→Int),t≤2∧i=.int .i64 t∧(t=0→m=k)∧(t=1→m=upd k 0 (k 0/8*8))∧(t=2→m=upd (upd k 0 (k 0/8*8)) 31 (k 31%64+64))∧TrInv w m w') (fun i _=>2-(intOf i).toNat)
 case atStart=>exact ⟨0,k,by omega,rfl,fun _=>rfl,fun h=>by omega,fun h=>by omega,b0⟩
 case round =>
  obtain ⟨t,m,hk2,rfl,e0,e1,e2,hI⟩:=hrel
  clear b0; have T:=ht.below hI.fr.below hs
  obtain ⟨ta0,tk0,ts0,ta1,tk1,ts1⟩:=T
  by_cases h0:t=0
  · subst h0
    obtain rfl:=e0 rfl
    clear e0 e1 e2 hk2; have hS:=hI.step 0 (by omega) (m 0/8*8)
    rw [← H0.out] at hS
    have c1:=hI.ha.cell 0 (by omega); have f1:=hI.ha.free 0 (by omega); have HM:=show Hid _ from hS; clear hS hI; generalize hx:m 0=x at *; go_wp2
    go_region
    go_wp2
    go_roundw
    case rel=>exact ⟨1,_,by omega,rfl,fun h=>by omega,fun _=>by rw [H0.out],fun h=>by omega,HM.out⟩
    case measure=>simp [intOf]
  · by_cases h1:t=1
    · subst h1
      obtain rfl:=e1 rfl
      clear e0 e1 e2 hk2 h0; have hS:=hI.step 31 (by omega) (k 31%64+64)
      rw [← H1.out] at hS
      have c1:=hI.ha.cell 31 (by omega)
      rw [upd_other _ _ _ _ (by omega)] at c1
      have f1:=hI.ha.free 31 (by omega); have HM:=show Hid _ from hS; clear hS hI; generalize hx:k 31=x at *; go_wp2
      go_region
      go_wp2
      go_roundw
      case rel=>exact ⟨2,_,by omega,rfl,fun h=>by omega,fun h=>by omega,fun _=>by rw [H1.out],HM.out⟩
      case measure=>simp [intOf]
    · obtain rfl:t=2:=by omega
      obtain rfl:=e2 rfl
      have hA:=hI.ha.congr (g:=trim k) (fun j hj=>HE.out j); have hz:=hI.hr; have hL:=(hI.fr.setAll (w.heap.size+1) (by omega) (row .u8 32 (trim k))).below; clear e0 e1 e2 hk2 h0 h1 hI
      go_wp2_with (first | (refine wpList_load_mid rfl 23 _ rfl (w.heap.size) 0 rfl (row .u8 32 (trim k)) _ (Has.range (hA)) Tryz.underlying23 rfl (key_info _) ?_) | (refine wpList_store_mid rfl 23 _ _ rfl (w.heap.size+1) 0 (row .u8 32 (trim k)).toArray rfl rfl (key_there (hz)) (key_info' _) (all_oneCell_toArray (row_one _ _ _)) ?_))
      exact bodyPost_ret (v:=(.agg (row .u8 32 (trim k)).toArray)) (results_row Tryz.results63 rfl (Has.all hz.there .u8 (trim k)).range Tryz.underlying23 rfl (key_info (trim k))) rfl ⟨rfl,hL⟩
def kbit (k:Nat→Int) (t:Nat):Bool:=decide (k (t/8)/2^(t%8)%2=1)
def mask (u:Nat→Int):Nat→Int:=upd u 31 (u 31%128)
theorem mask_in (u:Nat→Int) (h:In 256 32 u):In 256 32 (mask u):=h.upd 31 _ (by have:=h 31 (by omega); omega) (by have:=h 31 (by omega); omega)
def tm (k u:Nat→Int):Fin QN:=Ed.out inz (Ed.run cz (kz (mask u)) (kbit (trim k)) 255)
theorem sel_kz (bit:Int) (a b:Nat→Int):kz (sel bit a b)=if bit%2=1 then kz b else kz a:=by unfold sel; split <;> rfl
theorem sel_swap (bit:Int) (a b c d:Nat→Int):stz (sel bit a c) (sel bit b d) (sel bit c a) (sel bit d b)=Ed.swap (decide (bit%2=1)) (stz a b c d):=by
 unfold stz Ed.swap
 rw [sel_kz,sel_kz,sel_kz,sel_kz]
 by_cases h:bit%2=1
 · simp [h]
 · simp [h]
theorem start_stz (u:Nat→Int):stz (one 1) (one 0) u (one 1)=⟨1,0,kz u,1⟩:=by
 unfold stz
 have e1:kz (one 1)=1:=by unfold kz; rw [val_byte]; decide +kernel
 have e0:kz (one 0)=0:=by unfold kz; rw [val_byte]; decide +kernel
 rw [e1,e0]
theorem times_any (k u:Nat→Int) (hk:In 256 32 k) (hu:In 256 32 u) (w:World) (hg:kGlob w) (ht:Trs w) :
 Calls Tryz.prog 38 #[(.agg (row .u8 32 (k)).toArray),(.agg (row .u8 32 (u)).toArray)] w fun e w'=>∃ f:Nat→Int,e=.returned (.agg (row .u8 32 (f)).toArray)∧(In 256 32 f∧val 256 f 32=((tm k u).val:Int))∧Below w.heap.size w w':=by
 have K:=Kq.init w; replace K:=K.box 32 k 23 (w.heap.size) rfl; replace K:=K.box 32 u 23 (w.heap.size+1) (by simp); replace K:=K.make 32 zu8_32 23 (w.heap.size+1+1) (by simp) (key_zero _ _ _ (by simp)).there
 go_enter Tryz.func38,Tryz.ntmps38
 go_upto_region 1 with fail; refine wp_region_list ?_; refine rowAtL 32 k (w.heap.size) 0 23 _ _ rfl rfl rfl Tryz.underlying23 rfl (key_info _) (K.whole _ _ (mT _ mS)) ?_; simp only [aP,lI,l0,lS]; refine xcL (trim_any k hk _ (ht.below K.below hg.size) (xnT hg.size (xnT K.base K.size))) ?_; rintro e w1 ⟨rfl,l⟩; replace K:=K.call l; clear l; refine xeL ?_
 refine allocL zu8_32 23 rfl (fun _=>by kernel_rfl) ?_; simp only [aP,lI,l0,lS]; refine storesL .u8 32 (trim k) (w1.heap.size) 23 _ _ rfl rfl rfl rfl (kroom_of (key_zero _ _ _ rfl).there) (key_info' _) ?_; simp only [Act.put]
 have h1:w.heap.size+1+1+1≤w1.heap.size:=K.size
 replace K:=K.fresh 32 (trim k) zu8_32 23 (key_zero _ _ _ rfl).there; have U:=K.get (w.heap.size+1) 32 u (mT _ mS); replace K:=K.loose [(w1.heap.size,32,trim k)] (w.heap.size+1) 32 u (mT _ mS) (fun p hp=>by rcases xm1 hp with rfl; exact mS) (fun p hp=>by rcases xm1 hp with rfl; simp only; omega) (by omega)
 generalize ((w1.alloc (.cells zu8_32 23)).setCells w1.heap.size 0 (row .u8 32 (trim k)))=w2 at K U ⊢; have c1:=U.cell 31 (by omega); have f1:=U.free 31 (by omega); replace K:=K.poke (w.heap.size+1) 32 mS 31 [.int .u8 (bits BinOp.and IntKind.u8 (u 31) 127)]; replace U:=U.set 31 (by omega) (bits BinOp.and IntKind.u8 (u 31) 127)
 rw [and127 (u 31) (hu 31 (by omega))] at U
 replace K:Kq w _ [(w1.heap.size,32,trim k)] [(w.heap.size+1,32),(w.heap.size+1+1,32)] (w2.setCell ⟨w.heap.size+1,31,none⟩ (.int .u8 (bits BinOp.and IntKind.u8 (u 31) 127))):=K
 rw [and127 (u 31) (hu 31 (by omega))] at K
 replace K:=K.settle [(w.heap.size+1+1,32)] (w.heap.size+1) 32 (mask u) mS (fun q hq=>mT _ hq) (fun q hq=>by rcases xm1 hq with rfl; simp) U; have e31:=and127 (u 31) (hu 31 (by omega)); show Exit.then _ _ _ _ _; go_upto_region 3 with fail; clear e31 c1 f1; generalize (w2.setCell ⟨w.heap.size+1,31,none⟩ (.int .u8 (u 31%128)))=w3 at K U ⊢; refine wp_region_list ?_
 refine rowAtL 32 (mask u) (w.heap.size+1) 0 23 _ _ rfl rfl rfl Tryz.underlying23 rfl (key_info _) (K.whole _ _ mS) ?_; simp only [aP,lI,l0,lS]; refine xcL (start_any (mask u) _) ?_; rintro e w4 ⟨rfl,l⟩; replace K:=K.call l; clear l U; refine xeL ?_; refine allocL zu8_128 94 rfl (fun _=>by kernel_rfl) ?_; simp only [aP,lI,l0,lS]; have h4:=K.size
 have h1':w1.heap.size<w4.heap.size:=by omega
 replace K:=K.make 128 zu8_128 94 w4.heap.size rfl (rung_zero _ _ _ rfl).there; refine storesL .u8 128 (glue (one 1) (one 0) (mask u) (one 1)) (w4.heap.size) 94 _ _ rfl rfl rfl rfl (K.roomy _ _ _ mS) (rung_info' _) ?_; have V:=Has.all (K.room _ mS).1 .u8 (glue (one 1) (one 0) (mask u) (one 1)); replace K:=K.fill _ _ mS (row .u8 128 (glue (one 1) (one 0) (mask u) (one 1)))
 simp only [Act.put]; generalize ((w4.alloc (.cells zu8_128 94)).setCells w4.heap.size 0 (row .u8 128 (glue (one 1) (one 0) (mask u) (one 1))))=w5 at K V ⊢; generalize hB:w4.heap.size=B at *; generalize hC:w1.heap.size=C at *; have hi:=mask_in u hu
 have s5:stz (one 1) (one 0) (mask u) (one 1)=Ed.run cz (kz (mask u)) (kbit (trim k)) 0:=start_stz _
 have S5:=show Hid _ from s5
 have hBB:w.heap.size+1+1+1≤B:=by omega
 clear s5 h1 h1' h4; show Exit.then _ _ _ _ _; go_wp2
 go_loopw [18] (fun i w'=>∃ (t:Nat) (a b c d:Nat→Int),t≤255∧i=.int .i64 t∧(In 256 32 a∧In 256 32 b∧In 256 32 c∧In 256 32 d)∧stz a b c d=Ed.run cz (kz (mask u)) (kbit (trim k)) t ∧
  Kq w (B+1) [(w.heap.size+1,32,mask u),(C,32,trim k)] [(B,128),(w.heap.size+1+1,32)] w'∧Has w' B .u8 128 (glue a b c d)) (fun i _=>255-(intOf i).toNat)
 case atStart=>exact ⟨0,_,_,_,_,by omega,rfl,⟨byte_in' 1 (by decide) (by decide),byte_in' 0 (by decide) (by decide),hi,byte_in' 1 (by decide) (by decide)⟩,S5.out,K,V⟩
 case round =>
  obtain ⟨t,a,b,c,d,h255,rfl,⟨ia,ib,ic,id⟩,hst,K,V⟩:=hrel
  by_cases hlt:t<255
  · have c1:=(K.get _ _ _ (mT _ mS)).cell ((254-t)/8) (by omega)
    obtain ⟨x0,x1⟩:=trim_in k hk ((254-t)/8) (by omega)
    generalize hx:trim k ((254-t)/8)=x at c1 x0 x1; go_upto_region 9 with fail
    have hb:decide (x/2^((254-t)%8)%2=1)=kbit (trim k) (254-t):=by unfold kbit; rw [hx]
    have hy:0≤x/2^((254-t)%8)∧x/2^((254-t)%8)<256:=⟨Int.ediv_nonneg x0 (Int.le_of_lt (pow_nonneg 2 (by decide) _)),Int.lt_of_le_of_lt (Int.ediv_le_self _ x0) x1⟩
    clear c1 hx x0 x1; generalize x/2^((254-t)%8)=y at *; refine wp_region_held_drew (S:=fun w'=>Kq w (B+1) [(w.heap.size+1,32,mask u),(C,32,trim k)] [(B,128),(w.heap.size+1+1,32)] w') (by kernel_rfl) K.drew ?_; clear K; intro K; replace V:=V.drew; refine xpH 0 30 (.int .u8 y) K ?_
    refine rowAtH (i:=1) (some 31) rfl 32 (mask u) (w.heap.size+1) 0 23 _ _ rfl rfl rfl rfl (by kernel_rfl) (by kernel_rfl) (by kernel_rfl) (fun _ _ _ h=>h) Tryz.underlying23 rfl (key_info _) K (fun _ h=>h.whole _ _ mS) ?_; simp only [aP,lI,l0,lS]; refine xpH 2 32 (.int .u8 y) K ?_
    refine rowOneH (i:=3) (some 33) rfl 128 (glue a b c d) B 0 94 _ _ (by kernel_rfl) rfl rfl rfl rfl Tryz.underlying94 rfl (rung_info _) K V.range ?_; simp only [aP,lI,l0,lS]; refine callH (i:=4) (some 34) rfl (by kernel_rfl) rfl rfl (fun _=>by kernel_rfl) (exchange_any y hy a b c d ia ib ic id _) ?_; rintro e w6 ⟨rfl,l⟩; replace K:=K.call l; clear l V
    refine ⟨_,rfl,K,?_⟩
    simp only [aP,lI,l0,lS]; refine callH (i:=5) (some 35) rfl (by kernel_rfl) rfl rfl (fun _=>by kernel_rfl) (climb_any (mask u) (sel y a c) (sel y b d) (sel y c a) (sel y d b) hi (sel_in _ _ _ ia ic) (sel_in _ _ _ ib id) (sel_in _ _ _ ic ia) (sel_in _ _ _ id ib) _ (hg.below K.below hg.size)) ?_; rintro e w7 ⟨a',b',c',d',rfl,⟨ja,jb,jc,jd,es⟩,l⟩; replace K:=K.call l; clear l
    refine ⟨_,rfl,K,?_⟩
    simp only [aP,lI,l0,lS]; refine callH (i:=6) (some 36) rfl (by kernel_rfl) rfl rfl (fun _=>by kernel_rfl) (exchange_any y hy a' b' c' d' ja jb jc jd _) ?_; rintro e w8 ⟨rfl,l⟩; replace K:=K.call l; clear l
    refine ⟨_,rfl,K,?_⟩
    simp only [aP,lI,l0,lS]; refine storesH (i:=7) none rfl .u8 128 (glue (sel y a' c') (sel y b' d') (sel y c' a') (sel y d' b')) B 94 _ _ (by kernel_rfl) rfl rfl rfl rfl rfl (K.roomy _ _ _ mS) (rung_info' _) (K.fill _ _ mS _) ?_; simp only [Act.put]
    refine wpAnyH_done (by kernel_rfl) ?_ _
    have hN:stz (sel y a' c') (sel y b' d') (sel y c' a') (sel y d' b')=Ed.run cz (kz (mask u)) (kbit (trim k)) (t+1):=by
     show _=Ed.swap (kbit (trim k) (254-t)) (Ed.climb cz (kz (mask u)) (Ed.swap (kbit (trim k) (254-t)) (Ed.run cz (kz (mask u)) (kbit (trim k)) t)))
     rw [sel_swap,es,sel_swap,hst,hb]
    have HN:=show Hid _ from hN; have V:=Has.all (K.room _ mS).1 .u8 (glue (sel y a' c') (sel y b' d') (sel y c' a') (sel y d' b')); replace K:=K.fill _ _ mS (row .u8 128 (glue (sel y a' c') (sel y b' d') (sel y c' a') (sel y d' b'))); clear hN es hst hb; generalize (w8.setCells B 0 (row .u8 128 (glue (sel y a' c') (sel y b' d') (sel y c' a') (sel y d' b'))))=w9 at K V ⊢; go_wp2
    go_roundw
    case rel=>exact ⟨t+1,_,_,_,_,by omega,by go_num,⟨sel_in _ _ _ ja jc,sel_in _ _ _ jb jd,sel_in _ _ _ jc ja,sel_in _ _ _ jd jb⟩,HN.out,K,V⟩
    case measure=>simp [intOf]; omega
  · obtain rfl:t=255:=by omega
    replace K:=K.settle [(w.heap.size+1+1,32)] B 128 (glue a b c d) mS (fun q hq=>mT _ hq) (fun q hq=>by rcases xm1 hq with rfl; simp only; omega) V; have HS:=show Hid _ from hst; clear V hlt h255 hst; go_upto_region 11 with fail
    refine wp_region_held_drew (S:=fun w'=>Kq w (B+1) [(B,128,glue a b c d),(w.heap.size+1,32,mask u),(C,32,trim k)] [(w.heap.size+1+1,32)] w') (by kernel_rfl) K.drew ?_; clear K; intro K; refine xpH 0 38 (.pointer (some ⟨B,0,none⟩)) K ?_
    refine rowAtH (i:=1) (some 39) rfl 32 a B 0 23 _ _ rfl rfl rfl rfl (by kernel_rfl) (by kernel_rfl) (by kernel_rfl) (fun _ _ _ h=>h) Tryz.underlying23 rfl (key_info _) K (fun _ h=>h.part0 _ _ _ _ _ mS) ?_; simp only [aP,lI,l0,lS]; refine xpH 2 40 (.pointer (some ⟨B,32,none⟩)) K ?_
    refine rowAtH (i:=3) (some 41) rfl 32 b B 32 23 _ _ rfl rfl rfl rfl (by kernel_rfl) (by kernel_rfl) (by kernel_rfl) (fun _ _ _ h=>h) Tryz.underlying23 rfl (key_info _) K (fun _ h=>h.part1 _ _ _ _ _ mS) ?_; simp only [aP,lI,l0,lS]; refine callH (i:=4) (some 42) rfl (by kernel_rfl) rfl rfl (fun _=>by kernel_rfl) (invert_any b ib _ (hg.below K.below hg.size)) ?_
    rintro e w6 ⟨f1,rfl,s1,l⟩; replace K:=K.call l; clear l
    refine ⟨_,rfl,K,?_⟩
    simp only [aP,lI,l0,lS]; refine callH (i:=5) (some 43) rfl (by kernel_rfl) rfl rfl (fun _=>by kernel_rfl) (mul_any a f1 ia s1.1 _ (hg.below K.below hg.size)) ?_; rintro e w7 ⟨f2,rfl,s2,l⟩; replace K:=K.call l; clear l
    refine ⟨_,rfl,K,?_⟩
    simp only [aP,lI,l0,lS]; refine storesH (i:=6) none rfl .u8 32 f2 (w.heap.size+1+1) 23 _ _ (by kernel_rfl) rfl rfl rfl rfl rfl (K.roomy _ _ _ mS) (key_info' _) (K.fill _ _ mS _) ?_; simp only [Act.put]
    refine wpAnyH_done (by kernel_rfl) ?_ _
    have hv:val 256 f2 32=((tm k u).val:Int):=by
     have e1:kz f1=inz (kz b):=kz_inv s1.2
     have e2:tm k u=kz a*inz (kz b):=by
      unfold tm
      rw [← HS.out]
      rfl
     rw [e2,← e1,s2.2,← fz_val,fz_mul]
     rfl
    have HV:=show Hid _ from And.intro s2.1 hv; have hO:=(K.room _ mS).1; have hL:=(K.fill _ _ mS (row .u8 32 f2)).below; clear K hv s1 s2 HS; go_wp2
    exact bodyPost_ret (v:=(.agg (row .u8 32 (f2)).toArray)) (results_row Tryz.results38 rfl (Has.all hO .u8 f2).range Tryz.underlying23 rfl (key_info _)) rfl ⟨f2,rfl,HV.out,hL⟩
theorem public_any (k:Nat→Int) (hk:In 256 32 k) (w:World) (hg:kGlob w) (ht:Trs w) :
 Calls Tryz.prog 21 #[(.agg (row .u8 32 (k)).toArray)] w fun e w'=>∃ f:Nat→Int,e=.returned (.agg (row .u8 32 (f)).toArray)∧(In 256 32 f∧val 256 f 32=((tm k (one 9)).val:Int))∧Below w.heap.size w w':=by
 have K:=Kq.init w; replace K:=K.box 32 k 23 (w.heap.size) rfl; replace K:=K.make 32 zu8_32 23 (w.heap.size+1) (by simp) (key_zero _ _ _ (by simp)).there
 go_enter Tryz.func21,Tryz.ntmps21
 go_upto_region 1 with fail; refine wp_region_list ?_; refine rowAtL 32 k (w.heap.size) 0 23 _ _ rfl rfl rfl Tryz.underlying23 rfl (key_info _) (K.whole _ _ mS) ?_; simp only [aP,lI,l0,lS]; refine xpL (.agg (row .u8 32 (one 9)).toArray) ?_; refine xcL (times_any k (one 9) hk (byte_in' 9 (by decide) (by decide)) _ (hg.below K.below hg.size) (ht.below K.below hg.size)) ?_
 rintro e w1 ⟨f,rfl,s,l⟩; replace K:=K.call l; clear l; refine xeL ?_; refine storesL .u8 32 f (w.heap.size+1) 23 _ _ rfl rfl rfl rfl (K.roomy _ _ _ mS) (key_info' _) ?_; simp only [Act.put]; have HS:=show Hid _ from s; have hO:=(K.room _ mS).1; have hL:=(K.fill _ _ mS (row .u8 32 f)).below; clear K s; show Exit.then _ _ _ _ _; go_wp2
 exact bodyPost_ret (v:=(.agg (row .u8 32 (f)).toArray)) (results_row Tryz.results21 rfl (Has.all hO .u8 f).range Tryz.underlying23 rfl (key_info _)) rfl ⟨f,rfl,HS.out,hL⟩
theorem kor_byte (x y:Int) (hx:0≤x∧x<256) (hy:0≤y∧y<256):(0≤bits BinOp.or IntKind.u8 x y∧bits BinOp.or IntKind.u8 x y<256)∧(bits BinOp.or IntKind.u8 x y=0↔(x=0∧y=0)):=by
 obtain ⟨x,rfl⟩:=xiN hx.1
 obtain ⟨y,rfl⟩:=xiN hy.1
 rw [u8_or_nat x y (by omega) (by omega)]
 have hb:x ||| y<2^8:=Nat.or_lt_two_pow (by omega) (by omega)
 have hz:=@Nat.or_eq_zero_iff x y
 refine ⟨⟨by omega,by omega⟩,⟨fun h=>?_,fun h=>?_⟩⟩
 · have:=hz.1 (by omega); omega
 · have:=hz.2 ⟨by omega,by omega⟩; omega
theorem index_key (f:Nat→Int) (t:Nat) (h:t<32) (w:World):(Instr.index 23 (.agg (row .u8 32 f).toArray) (.int .i64 (t:Int))).run Tryz.prog w=.ok (.int .u8 (f t)) w:=by
 have hs:∀ w,(sizeOf 5).run Tryz.prog w=.ok 1 w:=fun w=>by kernel_rfl
 have ha:∀ w,(isAgg 5).run Tryz.prog w=.ok false w:=fun w=>by kernel_rfl
 have hg:=row_get .u8 32 f t h
 simp [Instr.index,run_underlying Tryz.underlying23,asIntOf,hs,ha,part,hg,h,go_sem]
theorem val_nought (f:Nat→Int) (hf:In 256 32 f):val 256 f 32=0↔∀ j,j<32→f j=0:=by
 constructor
 · intro h
   exact val_inj 256 (by decide) f (fun _=>0) 32 hf (fun _ _=>⟨Int.le_refl 0,(by decide:(0:Int)<256)⟩) (by rw [h]; decide +kernel)
 · intro h
   rw [val_congr 256 32 (g:=fun _=>0) h]
   decide +kernel
theorem shared_any (k u:Nat→Int) (hk:In 256 32 k) (hu:In 256 32 u) (w:World) (hg:kGlob w) (ht:Trs w) :
 Calls Tryz.prog 62 #[(.agg (row .u8 32 (k)).toArray),(.agg (row .u8 32 (u)).toArray)] w fun e w'=>∃ f:Nat→Int,e=.returned (.tuple #[(.agg (row .u8 32 (f)).toArray),.int .i64 (if tm k u=0 then 20 else 0)])∧(In 256 32 f∧val 256 f 32=((tm k u).val:Int))∧Below w.heap.size w w':=by
 have K:=Kq.init w; replace K:=K.box 32 k 23 (w.heap.size) rfl; replace K:=K.box 32 u 23 (w.heap.size+1) (by simp); replace K:=K.make 32 zu8_32 23 (w.heap.size+1+1) (by simp) (key_zero _ _ _ (by simp)).there
 go_enter Tryz.func62,Tryz.ntmps62
 go_upto_region 1 with fail; refine wp_region_list ?_; refine rowAtL 32 k (w.heap.size) 0 23 _ _ rfl rfl rfl Tryz.underlying23 rfl (key_info _) (K.whole _ _ (mT _ mS)) ?_; simp only [aP,lI,l0,lS]; refine rowAtL 32 u (w.heap.size+1) 0 23 _ _ rfl rfl rfl Tryz.underlying23 rfl (key_info _) (K.whole _ _ mS) ?_; simp only [aP,lI,l0,lS]
 refine xcL (times_any k u hk hu _ (hg.below K.below hg.size) (ht.below K.below hg.size)) ?_; rintro e w1 ⟨f,rfl,s,l⟩; replace K:=K.call l; clear l; refine xeL ?_; refine allocL zu8_32 23 rfl (fun _=>by kernel_rfl) ?_; simp only [aP,lI,l0,lS]; refine storesL .u8 32 f (w1.heap.size) 23 _ _ rfl rfl rfl rfl (kroom_of (key_zero _ _ _ rfl).there) (key_info' _) ?_; simp only [Act.put]
 replace K:=K.fresh 32 f zu8_32 23 (key_zero _ _ _ rfl).there; generalize ((w1.alloc (.cells zu8_32 23)).setCells w1.heap.size 0 (row .u8 32 f))=w2 at K ⊢; generalize w1.heap.size=B at *; have hF:=K.get B 32 f mS; have HS:=show Hid _ from s; have hO:=(K.room _ mS).1; have hL:=K.below; have hL1:=(K.fill _ _ mS (row .u8 32 f)).below
 have hL2:=(K.fill _ _ mS (row .u8 32 (fun _=>0))).below; clear K s; show Exit.then _ _ _ _ _
 go_wp2_with (refine wpList_load_mid rfl 23 _ rfl (B) 0 rfl (row .u8 32 (f)) _ (Has.range (hF)) Tryz.underlying23 rfl (key_info _) ?_)
 go_loopw [7,14] (fun so i w'=>∃ (t:Nat) (x:Int),t≤32∧i=.int .i64 t∧so=.int .u8 x∧(0≤x∧x<256)∧(x=0↔∀ j,j<t→f j=0)∧w'=w2) (fun _ i _=>32-(intOf i).toNat)
 case atStart=>exact ⟨0,0,by omega,rfl,rfl,by omega,by simp,rfl⟩
 case round =>
  obtain ⟨t,x,h32,rfl,rfl,hx,hz,rfl⟩:=hrel
  by_cases hlt:t<32
  · have hy:=HS.out.1 t hlt
    have ho:=kor_byte x (f t) hx hy; have HZ:=show Hid _ from hz; have hi:=index_key f t hlt; clear hz; go_wp2
    refine ⟨⟨t+1,_,by omega,by go_num,rfl,ho.1,?_,trivial⟩,by simp [intOf]; omega⟩
    rw [ho.2,HZ.out]
    constructor
    · intro h j hj
      by_cases e:j=t
      · subst e; exact h.2
      · exact h.1 j (by omega)
    · intro h
      exact ⟨fun j hj=>h j (by omega),h t (by omega)⟩
  · obtain rfl:t=32:=by omega
    have hv:=(val_nought f HS.out.1).trans hz.symm
    have hT:tm k u=0↔x=0:=by
     rw [← hv,HS.out.2]
     constructor
     · intro h; rw [h]; rfl
     · intro h
       apply Fin.ext
       show (tm k u).val=0
       omega
    by_cases h0:x=0
    · have hN:In 256 32 (fun _=>(0:Int))∧val 256 (fun _=>0) 32=((tm k u).val:Int):=⟨fun _ _=>⟨Int.le_refl 0,(by decide:(0:Int)<256)⟩,by rw [hT.2 h0]; decide +kernel⟩
      have HT:=show Hid (tm k u=0) from hT.2 h0; have HN:=show Hid _ from hN; clear hN hT hv hz hlt h32 hx; subst h0
      go_wp2_with (refine wpList_store_mid rfl 23 _ _ rfl (w.heap.size+1+1) 0 (row .u8 32 (fun _=>0)).toArray rfl rfl (kroom_of hO) (key_info' _) (all_oneCell_toArray (row_one _ _ _)) ?_)
      exact bodyPost_ret (v:=.tuple #[(.agg (row .u8 32 (fun _=>0)).toArray),.int .i64 20]) (results_row_tmp Tryz.results62 rfl rfl (Has.all hO .u8 (fun _=>0)).range Tryz.underlying23 rfl (key_info _)) rfl ⟨_,by first | rfl | rw [if_pos HT.out],by first | exact HN.out | (have h:=HN.out; rw [HT.out] at h; exact h),hL2⟩
    · have he:(x == 0)=false:=by simp [h0]
      have HT:=show Hid (¬ tm k u=0) from fun h=>h0 (hT.1 h); clear hT hv hz hlt h32 hx h0
      go_wp2_with (first | (refine wpList_load_mid rfl 23 _ rfl (B) 0 rfl (row .u8 32 (f)) _ (Has.range (hF)) Tryz.underlying23 rfl (key_info _) ?_) | (refine wpList_store_mid rfl 23 _ _ rfl (w.heap.size+1+1) 0 (row .u8 32 f).toArray rfl rfl (kroom_of hO) (key_info' _) (all_oneCell_toArray (row_one _ _ _)) ?_))
      exact bodyPost_ret (v:=.tuple #[(.agg (row .u8 32 (f)).toArray),.int .i64 0]) (results_row_tmp Tryz.results62 rfl rfl (Has.all hO .u8 f).range Tryz.underlying23 rfl (key_info _)) rfl ⟨_,by first | rfl | rw [if_neg HT.out],HS.out,hL1⟩
theorem trim_bit0 (k:Nat→Int):kbit (trim k) 0=false:=by
 unfold kbit
 show decide (k 0/8*8/2^0%2=1)=false
 refine decide_eq_false ?_
 omega
theorem trim_bit1 (k:Nat→Int):kbit (trim k) 1=false:=by
 unfold kbit
 show decide (k 0/8*8/2^1%2=1)=false
 refine decide_eq_false ?_
 omega
theorem trim_bit2 (k:Nat→Int):kbit (trim k) 2=false:=by
 unfold kbit
 show decide (k 0/8*8/2^2%2=1)=false
 refine decide_eq_false ?_
 omega
theorem trim_bit254 (k:Nat→Int):kbit (trim k) 254=true:=by
 unfold kbit
 show decide ((k 31%64+64)/2^6%2=1)=true
 refine decide_eq_true ?_
 omega
theorem kz_of (f:Nat→Int) (x:Int) (y:Fin QN) (h:val 256 f 32=x) (e:fz x=y):kz f=y:=by unfold kz; rw [h,e]
theorem mask_small (f:Nat→Int) (hf:In 256 32 f) (h:val 256 f 32<57896044618658097711785492504343953926634992332820282019728792003956564819968):∀ j,j<32→mask f j=f j:=by
 have h31:f 31<128:=by
  have e:val 256 f 32=val 256 f 31+256^31*f 31:=rfl
  have b:=val_in 256 (by decide) f 31 (fun j hj=>hf j (by omega))
  rw [e,show (256:Int)^31=452312848583266388373324160190187140051835877600158453279131187530910662656 by decide] at h
  omega
 intro j hj
 unfold mask
 by_cases e:j=31
 · subst e
   have:=(hf 31 (by omega)).1
   rw [upd_same]
   omega
 · rw [upd_other _ _ _ _ e]
theorem mask_kz (f:Nat→Int) (x:Fin QN) (hf:In 256 32 f) (h:val 256 f 32=(x.val:Int)):kz (mask f)=x:=by
 have hx:=x.isLt
 unfold kz
 rw [val_congr 256 32 (mask_small f hf (by rw [h]; simp only [QN] at hx; omega)),h,fz_of]
theorem nine_kz:kz (mask (one 9))=Ed.aff inz base:=by
 rw [base_aff]
 exact kz_of _ 9 _ (by decide +kernel) rfl
theorem tm_nine (k:Nat→Int):tm k (one 9)=Ed.out inz (Ed.run cz (Ed.aff inz base) (kbit (trim k)) 255):=by
 unfold tm
 rw [nine_kz]
theorem tm_of (k f:Nat→Int) (x:Fin QN) (hf:In 256 32 f) (h:val 256 f 32=(x.val:Int)):tm k f=Ed.out inz (Ed.run cz x (kbit (trim k)) 255):=by
 unfold tm
 rw [mask_kz f x hf h]
theorem tm_agrees (a b f g:Nat→Int) (hf:In 256 32 f) (ef:val 256 f 32=((tm b (one 9)).val:Int)) (hg:In 256 32 g) (eg:val 256 g 32=((tm a (one 9)).val:Int)):tm a f=tm b g:=by
 rw [tm_of a f _ hf ef,tm_of b g _ hg eg,tm_nine,tm_nine]
 exact fld.agrees inz_zero cz_con base_on _ _ (trim_bit0 a) (trim_bit0 b)
end Go.Proofs.YtklnibmfpcmeeaaGreatDoor
