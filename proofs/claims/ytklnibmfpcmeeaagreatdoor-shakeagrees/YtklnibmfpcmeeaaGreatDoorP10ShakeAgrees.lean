/- Texts of Nums Least Load Save Fold Prod Inv, joined. -/
import Derived.Test.YtklnibmfpcmeeaaGreatDoorP9ShakeAgrees
set_option maxRecDepth 20000
set_option maxHeartbeats 64000000
namespace Go.Proofs.YtklnibmfpcmeeaaGreatDoor
open Go.RowKit
abbrev kQ:Int:=57896044618658097711785492504343953926634992332820282019728792003956564819949
def one (x:Int):Nat→Int
 | 0=>x
 | _+1=>0
theorem one_in (x:Int) (h0:0≤x) (h1:x<W):In W 4 (one x)
 | 0,_=>⟨h0,h1⟩
 | _+1,_=>⟨Int.le_refl 0,(by decide:(0:Int)<W)⟩
theorem val_one (x:Int):val W (one x) 4=x:=by simp [val,one]
theorem W4:W^4=115792089237316195423570985008687907853269984665640564039457584007913129639936:=by decide
theorem has_zero (w:World) (t:TypeId) (b:Nat) (hb:b=w.heap.size):Has (w.alloc (.cells zu64_4 t)) b .u64 4 (fun _=>0):=Has.new w .u64 4 (fun _=>0) t b hb
theorem wrap_math {n n1 n2:Nat→Int} {o c1 c2:Int} (hn:In W 4 n) (h0:0≤o) (h1:o≤38) (h:Sums n (one (o*38)) n1 c1) (h':Sums n1 (one (c1*38)) n2 c2) :
 In W 4 n2∧val W n2 4%kQ=(val W n 4+W^4*o)%kQ:=by
 obtain ⟨a0,a1,a2,a3⟩:=h
 obtain ⟨b0,b1,b2,b3⟩:=h'
 rw [val_one,W4] at a3 b3
 have i0:=val_in W (by decide) n 4 hn; have i1:=val_in W (by decide) n1 4 a2; have i2:=val_in W (by decide) n2 4 b2
 rw [W4] at i0 i1 i2 ⊢
 refine ⟨b2,?_⟩
 simp only [kQ]
 have hc2:c2=0:=by omega
 subst hc2
 omega
theorem one_row (x:Int):(row .u64 4 (one x)).toArray=#[.int .u64 x,.int .u64 0,.int .u64 0,.int .u64 0]:=rfl
theorem plus_one (a:Nat→Int) (x:Int) (ha:In W 4 a) (h0:0≤x) (h1:x<W) (w:World) :
 Calls Tryz.prog 128 #[(.agg (row .u64 4 (a)).toArray),.agg #[.int .u64 x,.int .u64 0,.int .u64 0,.int .u64 0]] w fun e w'=>∃ (n:Nat→Int) (cv:Int),e=.returned (.tuple #[(.agg (row .u64 4 (n)).toArray),.int .u64 cv]) ∧
  Sums a (one x) n cv∧Below w.heap.size w w':=by
 have h:=kplus_any a (one x) ha (one_in x h0 h1) w
 rw [one_row] at h
 exact h
theorem minus_one (a:Nat→Int) (x:Int) (ha:In W 4 a) (h0:0≤x) (h1:x<W) (w:World) :
 Calls Tryz.prog 130 #[(.agg (row .u64 4 (a)).toArray),.agg #[.int .u64 x,.int .u64 0,.int .u64 0,.int .u64 0]] w fun e w'=>∃ (n:Nat→Int) (cv:Int),e=.returned (.tuple #[(.agg (row .u64 4 (n)).toArray),.int .u64 cv]) ∧
  Differs a (one x) n cv∧Below w.heap.size w w':=by
 have h:=minus_any a (one x) ha (one_in x h0 h1) w
 rw [one_row] at h
 exact h
theorem mul38 (x:Int) (h0:0≤x) (h1:x≤38):IntKind.u64.wrap (x*38)=x*38:=by rw [IntKind.wrap_u64]; omega
theorem wrap_any (n:Nat→Int) (hn:In W 4 n) (o:Int) (h0:0≤o) (h1:o≤38) (w:World) :
 Calls Tryz.prog 129 #[(.agg (row .u64 4 (n)).toArray),.int .u64 o] w fun e w'=>∃ m:Nat→Int,e=.returned (.agg (row .u64 4 (m)).toArray)∧(In W 4 m∧val W m 4%kQ=(val W n 4+W^4*o)%kQ)∧Below w.heap.size w w':=by
 have a0:Has ((w.alloc (.cells (row .u64 4 n).toArray 116)).alloc (.cells zu64_4 116)) w.heap.size .u64 4 n:=(Has.new w _ _ _ _ _ rfl).alloc _ (by simp)
 have z0:Has ((w.alloc (.cells (row .u64 4 n).toArray 116)).alloc (.cells zu64_4 116)) (w.heap.size+1) .u64 4 (fun _=>0):=has_zero _ _ _ (by simp)
 have g0:Fr w 2 ((w.alloc (.cells (row .u64 4 n).toArray 116)).alloc (.cells zu64_4 116)):=((Fr.refl w).alloc _).alloc _
 have e38:=mul38 o h0 h1
 go_enter Tryz.func129,Tryz.ntmps129
 go_wp2_with (refine wpList_load_mid rfl 116 _ rfl (w.heap.size) 0 rfl (row .u64 4 (n)) _ (Has.range (a0)) Tryz.underlying116 rfl (num_info _) ?_)
 refine (plus_one n (o*38) hn (by omega) (by simp only [W]; omega) _).mono ?_; rintro e w1 ⟨n1,c1,rfl,s1,l1⟩; have a1:=Has.all (a0.call g0 l1 (by omega)).there .u64 n1
 have a1':=a0.call g0 l1 (by omega)
 have z1:=(z0.call g0 l1 (by omega)).setAll_other w.heap.size (by omega) 0 (row .u64 4 n1); have g1:=(g0.call l1).setAll w.heap.size (xnR _) (row .u64 4 n1); have i1:=s1.2.2.1; have c0:=s1.1
 have c1':=s1.2.1
 have e1:=mul38 c1 c0 (by omega); clear a0 z0 g0 l1
 go_wp2_with (first | (refine wpList_store_mid rfl 116 _ _ rfl (w.heap.size) 0 (row .u64 4 (n1)).toArray rfl rfl (num_there (a1')) (num_info' _) (all_oneCell_toArray (row_one _ _ _)) ?_) | (refine wpList_load_mid rfl 116 _ rfl (w.heap.size) 0 rfl (row .u64 4 (n1)) _ (Has.range (a1)) Tryz.underlying116 rfl (num_info _) ?_))
 refine (plus_one n1 (c1*38) i1 (by omega) (by simp only [W]; omega) _).mono ?_; rintro e w2 ⟨n2,c2,rfl,s2,l2⟩
 have a2':=a1.call g1 l2 (by omega)
 have a2:=Has.all a2'.there .u64 n2; have z2:=(z1.call g1 l2 (by omega)).setAll_other w.heap.size (by omega) 0 (row .u64 4 n2); have z3:=Has.all z2.there .u64 n2; have g2:=((g1.call l2).setAll w.heap.size (xnR _) (row .u64 4 n2)).setAll (w.heap.size+1) (by omega) (row .u64 4 n2); have hm:=wrap_math hn h0 h1 s1 s2; clear a1 z1 g1 l2
 go_wp2_with (first | (refine wpList_store_mid rfl 116 _ _ rfl (w.heap.size) 0 (row .u64 4 (n2)).toArray rfl rfl (num_there (a2')) (num_info' _) (all_oneCell_toArray (row_one _ _ _)) ?_) | (refine wpList_load_mid rfl 116 _ rfl (w.heap.size) 0 rfl (row .u64 4 (n2)) _ (Has.range (a2)) Tryz.underlying116 rfl (num_info _) ?_) | (refine wpList_store_mid rfl 116 _ _ rfl (w.heap.size+1) 0 (row .u64 4 (n2)).toArray rfl rfl (num_there (z2)) (num_info' _) (all_oneCell_toArray (row_one _ _ _)) ?_))
 exact bodyPost_ret (v:=(.agg (row .u64 4 (n2)).toArray)) (results_row Tryz.results129 rfl z3.range Tryz.underlying116 rfl (num_info n2)) rfl ⟨n2,rfl,hm,g2.below⟩
theorem sum_math {a b n m:Nat→Int} {c:Int} (s:Sums a b n c) (h:val W m 4%kQ=(val W n 4+W^4*c)%kQ):val W m 4%kQ=(val W a 4+val W b 4)%kQ:=by rw [h,s.2.2.2]
theorem two_boxes (a b:Nat→Int) (w:World):Has (((w.alloc (.cells (row .u64 4 a).toArray 116)).alloc (.cells (row .u64 4 b).toArray 116)).alloc (.cells zu64_4 116)) w.heap.size .u64 4 a∧Has (((w.alloc (.cells (row .u64 4 a).toArray 116)).alloc (.cells (row .u64 4 b).toArray 116)).alloc (.cells zu64_4 116)) (w.heap.size+1) .u64 4 b∧Has (((w.alloc (.cells (row .u64 4 a).toArray 116)).alloc (.cells (row .u64 4 b).toArray 116)).alloc (.cells zu64_4 116)) (w.heap.size+1+1) .u64 4 (fun _=>0)∧Fr w 3 (((w.alloc (.cells (row .u64 4 a).toArray 116)).alloc (.cells (row .u64 4 b).toArray 116)).alloc (.cells zu64_4 116)) :=
 ⟨((Has.new w _ _ _ _ _ rfl).alloc _ (by simp)).alloc _ (by simp; omega),(Has.new _ _ _ _ _ _ (by simp)).alloc _ (by simp),has_zero _ _ _ (by simp),(((Fr.refl w).alloc _).alloc _).alloc _⟩
theorem sum_any (a b:Nat→Int) (ha:In W 4 a) (hb:In W 4 b) (w:World) :
 Calls Tryz.prog 106 #[(.agg (row .u64 4 (a)).toArray),(.agg (row .u64 4 (b)).toArray)] w fun e w'=>∃ m:Nat→Int,e=.returned (.agg (row .u64 4 (m)).toArray)∧(In W 4 m∧val W m 4%kQ=(val W a 4+val W b 4)%kQ)∧Below w.heap.size w w':=by
 obtain ⟨a0,b0,z0,g0⟩:=two_boxes a b w
 go_enter Tryz.func106,Tryz.ntmps106
 go_wp2_with (first | (refine wpList_load_mid rfl 116 _ rfl (w.heap.size) 0 rfl (row .u64 4 (a)) _ (Has.range (a0)) Tryz.underlying116 rfl (num_info _) ?_) | (refine wpList_load_mid rfl 116 _ rfl (w.heap.size+1) 0 rfl (row .u64 4 (b)) _ (Has.range (b0)) Tryz.underlying116 rfl (num_info _) ?_))
 refine (kplus_any a b ha hb _).mono ?_; rintro e w1 ⟨n1,c1,rfl,s1,l1⟩; have n0:=has_zero w1 116 w1.heap.size rfl
 have n1':=Has.all n0.there .u64 n1
 have g1:=g0.call l1; have z1:=(z0.call g0 l1 (by omega)); have z2:=(z1.alloc (.cells zu64_4 116) (by have:=g1.size; omega)).setAll_other w1.heap.size (by have:=g1.size; omega) 0 (row .u64 4 n1); have g2:=(g1.alloc (.cells zu64_4 116)).setAll w1.heap.size (by have:=g1.size; omega) (row .u64 4 n1); have i1:=s1.2.2.1; have c0:=s1.1
 have c1':=s1.2.1
 clear a0 b0 z0 g0 l1
 go_wp2_with (first | (refine wpList_store_mid rfl 116 _ _ rfl (w1.heap.size) 0 (row .u64 4 (n1)).toArray rfl rfl (num_there (n0)) (num_info' _) (all_oneCell_toArray (row_one _ _ _)) ?_) | (refine wpList_load_mid rfl 116 _ rfl (w1.heap.size) 0 rfl (row .u64 4 (n1)) _ (Has.range (n1')) Tryz.underlying116 rfl (num_info _) ?_))
 refine (wrap_any n1 i1 c1 c0 (by omega) _).mono ?_; rintro e w2 ⟨m,rfl,s2,l2⟩; have z3:=z2.call g2 l2 (by omega); have z4:=Has.all z3.there .u64 m; have g3:=(g2.call l2).setAll (w.heap.size+1+1) (by omega) (row .u64 4 m)
 go_wp2_with (refine wpList_store_mid rfl 116 _ _ rfl (w.heap.size+1+1) 0 (row .u64 4 (m)).toArray rfl rfl (num_there (z3)) (num_info' _) (all_oneCell_toArray (row_one _ _ _)) ?_)
 exact bodyPost_ret (v:=(.agg (row .u64 4 (m)).toArray)) (results_row Tryz.results106 rfl z4.range Tryz.underlying116 rfl (num_info m)) rfl ⟨m,rfl,⟨s2.1,sum_math s1 s2.2⟩,g3.below⟩
theorem diff_math {a b n1 n2 n3:Nat→Int} {c1 c2 c3:Int} (ha:In W 4 a) (hb:In W 4 b) (h1:Differs a b n1 c1) (h2:Differs n1 (one (c1*38)) n2 c2) (h3:Differs n2 (one (c2*38)) n3 c3) :
 In W 4 n3∧val W n3 4%kQ=(val W a 4-val W b 4)%kQ:=by
 obtain ⟨a0,a1,a2,a3⟩:=h1
 obtain ⟨b0,b1,b2,b3⟩:=h2
 obtain ⟨d0,d1,d2,d3⟩:=h3
 rw [val_one,W4] at b3 d3
 rw [W4] at a3
 have i0:=val_in W (by decide) a 4 ha
 have i0':=val_in W (by decide) b 4 hb
 have i1:=val_in W (by decide) n1 4 a2; have i2:=val_in W (by decide) n2 4 b2; have i3:=val_in W (by decide) n3 4 d2
 rw [W4] at i0 i0' i1 i2 i3
 refine ⟨d2,?_⟩
 simp only [kQ]
 have hc3:c3=0:=by omega
 subst hc3
 omega
theorem difference_any (a b:Nat→Int) (ha:In W 4 a) (hb:In W 4 b) (w:World) :
 Calls Tryz.prog 107 #[(.agg (row .u64 4 (a)).toArray),(.agg (row .u64 4 (b)).toArray)] w fun e w'=>∃ m:Nat→Int,e=.returned (.agg (row .u64 4 (m)).toArray)∧(In W 4 m∧val W m 4%kQ=(val W a 4-val W b 4)%kQ)∧Below w.heap.size w w':=by
 obtain ⟨a0,b0,z0,g0⟩:=two_boxes a b w
 go_enter Tryz.func107,Tryz.ntmps107
 go_wp2_with (first | (refine wpList_load_mid rfl 116 _ rfl (w.heap.size) 0 rfl (row .u64 4 (a)) _ (Has.range (a0)) Tryz.underlying116 rfl (num_info _) ?_) | (refine wpList_load_mid rfl 116 _ rfl (w.heap.size+1) 0 rfl (row .u64 4 (b)) _ (Has.range (b0)) Tryz.underlying116 rfl (num_info _) ?_))
 refine (minus_any a b ha hb _).mono ?_; rintro e w1 ⟨n1,c1,rfl,s1,l1⟩; have n0:=has_zero w1 116 w1.heap.size rfl
 have n1':=Has.all n0.there .u64 n1
 have g1:=g0.call l1
 have hN:w.heap.size+3≤w1.heap.size:=g1.size
 have z1:=(z0.call g0 l1 (by omega)); have z2:=(z1.alloc (.cells #[.int .u64 0,.int .u64 0,.int .u64 0,.int .u64 0] 116) (by omega)).setAll_other w1.heap.size (by omega) 0 (row .u64 4 n1); have g2:=(g1.alloc (.cells #[.int .u64 0,.int .u64 0,.int .u64 0,.int .u64 0] 116)).setAll w1.heap.size (by omega) (row .u64 4 n1)
 have k2:w1.heap.size<((w1.alloc (.cells #[.int .u64 0,.int .u64 0,.int .u64 0,.int .u64 0] 116)).setCells w1.heap.size 0 (row .u64 4 n1)).heap.size:=by rw [size_setAll]; simp
 have i1:=s1.2.2.1; have c0:=s1.1
 have c1':=s1.2.1
 have e1:=mul38 c1 c0 (by omega); clear a0 b0 z0 g0 l1
 go_wp2_with (first | (refine wpList_store_mid rfl 116 _ _ rfl (w1.heap.size) 0 (row .u64 4 (n1)).toArray rfl rfl (num_there (n0)) (num_info' _) (all_oneCell_toArray (row_one _ _ _)) ?_) | (refine wpList_load_mid rfl 116 _ rfl (w1.heap.size) 0 rfl (row .u64 4 (n1)) _ (Has.range (n1')) Tryz.underlying116 rfl (num_info _) ?_))
 refine (minus_one n1 (c1*38) i1 (by omega) (by simp only [W]; omega) _).mono ?_; rintro e w2 ⟨n2,c2,rfl,s2,l2⟩
 have n2':=n1'.below l2 k2
 have n2'':=Has.all n2'.there .u64 n2
 have z3:=(z2.call g2 l2 (by omega)).setAll_other w1.heap.size (by omega) 0 (row .u64 4 n2); have g3:=(g2.call l2).setAll w1.heap.size (by omega) (row .u64 4 n2)
 have k3:w1.heap.size<(w2.setCells w1.heap.size 0 (row .u64 4 n2)).heap.size:=by rw [size_setAll]; have:=l2.size; omega
 have i2:=s2.2.2.1; have d0:=s2.1; have d1:=s2.2.1; have e2:=mul38 c2 d0 (by omega); clear n0 n1' z1 z2 g1 g2 k2 l2
 go_wp2_with (first | (refine wpList_store_mid rfl 116 _ _ rfl (w1.heap.size) 0 (row .u64 4 (n2)).toArray rfl rfl (num_there (n2')) (num_info' _) (all_oneCell_toArray (row_one _ _ _)) ?_) | (refine wpList_load_mid rfl 116 _ rfl (w1.heap.size) 0 rfl (row .u64 4 (n2)) _ (Has.range (n2'')) Tryz.underlying116 rfl (num_info _) ?_))
 refine (minus_one n2 (c2*38) i2 (by omega) (by simp only [W]; omega) _).mono ?_; rintro e w3 ⟨n3,c3,rfl,s3,l3⟩
 have n3':=n2''.below l3 k3
 have n3'':=Has.all n3'.there .u64 n3
 have z4:=(z3.call g3 l3 (by omega)).setAll_other w1.heap.size (by omega) 0 (row .u64 4 n3); have z5:=Has.all z4.there .u64 n3; have g4:=((g3.call l3).setAll w1.heap.size (by omega) (row .u64 4 n3)).setAll (w.heap.size+1+1) (by omega) (row .u64 4 n3); have hm:=diff_math ha hb s1 s2 s3; clear n2' n2'' z3 g3 k3 l3
 go_wp2_with (first | (refine wpList_store_mid rfl 116 _ _ rfl (w1.heap.size) 0 (row .u64 4 (n3)).toArray rfl rfl (num_there (n3')) (num_info' _) (all_oneCell_toArray (row_one _ _ _)) ?_) | (refine wpList_load_mid rfl 116 _ rfl (w1.heap.size) 0 rfl (row .u64 4 (n3)) _ (Has.range (n3'')) Tryz.underlying116 rfl (num_info _) ?_) | (refine wpList_store_mid rfl 116 _ _ rfl (w.heap.size+1+1) 0 (row .u64 4 (n3)).toArray rfl rfl (num_there (z4)) (num_info' _) (all_oneCell_toArray (row_one _ _ _)) ?_))
 exact bodyPost_ret (v:=(.agg (row .u64 4 (n3)).toArray)) (results_row Tryz.results107 rfl z5.range Tryz.underlying116 rfl (num_info n3)) rfl ⟨n3,rfl,hm,g4.below⟩
def pW:Nat→Int
 | 0=>18446744073709551597
 | 1=>18446744073709551615
 | 2=>18446744073709551615
 | 3=>9223372036854775807
 | _+4=>0
def eW:Nat→Int
 | 0=>18446744073709551595
 | 1=>18446744073709551615
 | 2=>18446744073709551615
 | 3=>9223372036854775807
 | _+4=>0
theorem pW_in:In W 4 pW
 | 0,_=>by decide
 | 1,_=>by decide
 | 2,_=>by decide
 | 3,_=>by decide
 | _+4,h=>by omega
theorem val_pW:val W pW 4=kQ:=by decide
structure kGlob (w:World):Prop where
 prime:∀ j,j<4→w.cell? ⟨3,j,none⟩=some (.int .u64 (pW j))
 power:∀ j,j<4→w.cell? ⟨1,j,none⟩=some (.int .u64 (eW j))
 size:10≤w.heap.size
theorem kGlob.below {w w':World} (h:kGlob w) {B:Nat} (l:Below B w w') (hB:10≤B):kGlob w' :=
 ⟨fun j hj=>by rw [l.cell (p:=⟨3,j,none⟩) (xnL (show 3<10 by decide) hB)]; exact h.prime j hj,fun j hj=>by rw [l.cell (p:=⟨1,j,none⟩) (xnL (show 1<10 by decide) hB)]; exact h.power j hj,by have:=h.size; have:=l.size; omega⟩
theorem kGlob.fr {w w':World} {k:Nat} (h:kGlob w) (g:Fr w k w'):kGlob w':=h.below g.below h.size
structure kLInv (n:Nat→Int) (w:World) (k:Nat) (l:Nat→Int) (cv:Int) (w':World):Prop where
 c0:0≤cv
 c1:cv≤1
 inn:In W 4 l
 eq:val W l k+val W pW k=val W n k+W^k*cv
 hn:Has w' w.heap.size .u64 4 n
 hr:Has w' (w.heap.size+1) .u64 4 (fun _=>0)
 hl:Has w' (w.heap.size+1+1) .u64 4 l
 fr:Fr w 3 w'
theorem kLInv.step {n:Nat→Int} {w:World} {k:Nat} {l:Nat→Int} {cv:Int} {w':World} (h:kLInv n w k l cv w') (hn:In W 4 n) (hk:k<4) :
 kLInv n w (k+1) (upd l k (sLo (n k) (pW k) cv)) (sHi (n k) (pW k) cv) ((w'.setCell ⟨w.heap.size+1+1,k,none⟩ (.int .u64 (sLo (n k) (pW k) cv))).drew):=by
 have i1:=hn k hk; have i2:=pW_in k hk; have q0:=h.c0; have q1:=h.c1
 simp only [W] at i1 i2
 have l0:0≤sLo (n k) (pW k) cv:=by unfold sLo; omega
 have l1:sLo (n k) (pW k) cv<W:=by simp only [W]; unfold sLo; omega
 have es:sLo (n k) (pW k) cv+(pW k+cv)=n k+W*sHi (n k) (pW k) cv:=by simp only [W]; unfold sLo sHi; split <;> omega
 refine ⟨by unfold sHi; split <;> omega,by unfold sHi; split <;> omega,h.inn.upd k _ l0 l1,?_,(h.hn.set_other _ _ (by simp; omega)).drew,(h.hr.set_other _ _ (by simp)).drew,(h.hl.set k hk _).drew,(h.fr.set _ _ (by simp; omega)).drew⟩
 simp only [val]
 rw [val_upd _ _ _ _ _ (xnR k),upd_same,Int.pow_succ,Int.mul_assoc]
 have e1:W^k*sLo (n k) (pW k) cv+(W^k*pW k+W^k*cv)=W^k*n k+W^k*(W*sHi (n k) (pW k) cv):=by
  rw [← Int.mul_add,← Int.mul_add,es,Int.mul_add]
 have e2:=h.eq
 omega
theorem lessen_math {n l m:Nat→Int} {cv:Int} (hn:In W 4 n) (hl:In W 4 l) (hc:cv=0∨cv=1) (he:val W l 4+val W pW 4=val W n 4+W^4*cv) (hm:∀ j,j<4→m j=if cv=1 then n j else l j) :
 In W 4 m∧(val W n 4<kQ∧val W m 4=val W n 4∨kQ≤val W n 4∧val W m 4=val W n 4-kQ):=by
 have i1:=val_in W (by decide) n 4 hn; have i2:=val_in W (by decide) l 4 hl
 rw [val_pW,W4] at he
 rw [W4] at i1 i2
 rcases hc with rfl | rfl
 · have e:=val_congr W (f:=m) (g:=l) 4 fun j hj=>by rw [hm j hj]; rfl
   refine ⟨fun j hj=>by rw [hm j hj]; exact hl j hj,Or.inr ?_⟩
   rw [e]; clear hm e; simp only [kQ] at he ⊢; omega
 · have e:=val_congr W (f:=m) (g:=n) 4 fun j hj=>by rw [hm j hj]; rfl
   refine ⟨fun j hj=>by rw [hm j hj]; exact hn j hj,Or.inl ?_⟩
   rw [e]; clear hm e; refine ⟨?_,rfl⟩; simp only [kQ] at he ⊢; omega
structure kKInv (n l:Nat→Int) (cv:Int) (w:World) (k:Nat) (m:Nat→Int) (w':World):Prop where
 done:∀ j,j<k→m j=if cv=1 then n j else l j
 rest:∀ j,k≤j→m j=n j
 hn:Has w' w.heap.size .u64 4 m
 hr:Has w' (w.heap.size+1) .u64 4 (fun _=>0)
 hl:Has w' (w.heap.size+1+1) .u64 4 l
 fr:Fr w 3 w'
theorem kKInv.step {n l:Nat→Int} {cv:Int} {w:World} {k:Nat} {m:Nat→Int} {w':World} (h:kKInv n l cv w k m w') (hk:k<4) (r:Int) (hr:(if cv=1 then m k else l k)=r) :
 kKInv n l cv w (k+1) (upd m k r) ((w'.setCell ⟨w.heap.size,k,none⟩ (.int .u64 r)).drew):=by
 rw [h.rest k (xnR k)] at hr
 refine ⟨fun j hj=>?_,fun j hj=>?_,(h.hn.set k hk _).drew,(h.hr.set_other _ _ (by simp)).drew,(h.hl.set_other _ _ (by simp; omega)).drew,(h.fr.set _ _ (by simp)).drew⟩
 · by_cases e:j=k
   · subst e; rw [upd_same]; exact hr.symm
   · rw [upd_other _ _ _ _ e]; exact h.done j (by omega)
 · rw [upd_other _ _ _ _ (by omega)]; exact h.rest j (by omega)
theorem kKInv.inn {n l:Nat→Int} {cv:Int} {w:World} {k:Nat} {m:Nat→Int} {w':World} (h:kKInv n l cv w k m w') (hn:In W 4 n) (hl:In W 4 l):In W 4 m:=fun j hj=>by
 by_cases e:j<k
 · rw [h.done j e]; split
   · exact hn j hj
   · exact hl j hj
 · rw [h.rest j (by omega)]; exact hn j hj
theorem lessen_any (n:Nat→Int) (hn:In W 4 n) (w:World) (hg:kGlob w) :
 Calls Tryz.prog 131 #[(.agg (row .u64 4 (n)).toArray)] w fun e w'=>∃ m:Nat→Int,e=.returned (.agg (row .u64 4 (m)).toArray)∧(In W 4 m∧(val W n 4<kQ∧val W m 4=val W n 4∨kQ≤val W n 4∧val W m 4=val W n 4-kQ))∧Below w.heap.size w w':=by
 go_enter Tryz.func131,Tryz.ntmps131
 go_wp2
 go_loopw [4,7] (fun c i w'=>∃ (k:Nat) (l:Nat→Int) (cv:Int),k≤4∧i=.int .i64 k∧c=.int .u64 cv∧kLInv n w k l cv w') (fun _ i _=>4-(intOf i).toNat)
 case atStart =>
  exact ⟨0,fun _=>0,0,by omega,rfl,rfl,⟨by omega,by omega,fun _ _=>⟨Int.le_refl 0,by decide⟩,by simp [val],((Has.new w _ _ _ _ _ rfl).alloc _ (by simp)).alloc _ (by simp; omega),(has_zero _ _ _ (by simp)).alloc _ (by simp),has_zero _ _ _ (by simp),(((Fr.refl w).alloc _).alloc _).alloc _⟩⟩
 case round =>
  obtain ⟨k,l,cv,hk,rfl,rfl,hI⟩:=hrel
  by_cases hlt:k<4
  · have hS:=hI.step hn hlt
    have c1:=hI.hn.cell k hlt; have c2:=(hg.fr hI.fr).prime k hlt; have c3:=hI.hl.cell k hlt; have f1:=hI.hl.free k hlt; have b1:=(hn k hlt).1; have b2:=pW_in k hlt; have hadd:=sub64 (n k) (pW k) cv b1 b2.1 b2.2 hI.c0 hI.c1
    have g1:(0:Int)≤(k:Int):=by omega
    have g2:(k:Int)<4:=by omega
    clear hI b2; generalize sLo (n k) (pW k) cv=lo at *; generalize sHi (n k) (pW k) cv=hi at *; generalize n k=x at *; generalize pW k=y at *; generalize l k=z at *; go_wp2
    go_region
    go_wp2
    go_roundw
    case rel=>exact ⟨k+1,_,_,by omega,by go_num,rfl,hS⟩
    case measure=>simp [intOf]; omega
  · obtain rfl:k=4:=by omega
    have cc:cv=0∨cv=1:=by have:=hI.c0; have:=hI.c1; omega
    go_wp2
    go_loopw [24] (fun i w'=>∃ (k:Nat) (m:Nat→Int),k≤4∧i=.int .i64 k∧kKInv n l cv w k m w') (fun i _=>4-(intOf i).toNat)
    case atStart=>exact ⟨0,n,by omega,rfl,⟨fun j hj=>by omega,fun _ _=>rfl,hI.hn,hI.hr,hI.hl,hI.fr⟩⟩
    case round =>
     obtain ⟨k,m,hk2,rfl,hK⟩:=hrel
     by_cases hlt2:k<4
     · have hm:=hK.inn hn hI.inn k hlt2
       have hl:=hI.inn k hlt2
       obtain ⟨r,hr⟩:∃ r,(if cv=1 then m k else l k)=r:=⟨_,rfl⟩
       have HR:=show Hid _ from hK.step hlt2 r hr; have HP:=show Hid _ from fun W'=>pickw_any cv (l k) (m k) hl.1 hl.2 hm.1 hm.2 cc r hr W'; have c1:=hK.hn.cell k hlt2; have c3:=hK.hl.cell k hlt2; have f1:=hK.hn.free k hlt2
       have g1:(0:Int)≤(k:Int):=by omega
       have g2:(k:Int)<4:=by omega
       clear hI hlt hk cc hm hl hK hr; generalize m k=x at *; generalize l k=z at *; go_wp2
       go_region_with (go_at_call 156; refine (HP.out _).mono ?_; rintro e w' ⟨rfl,rfl⟩)
       all_goals
        go_wp2
        go_roundw
        case rel=>first | exact ⟨k+1,_,by omega,by go_num,HR.out⟩ | ((repeat apply Exists.intro); refine ⟨⟨k+1,_,by omega,?_,HR.out⟩,rfl⟩ <;> first | rfl | go_num)
        case measure=>simp [intOf]; omega
     · obtain rfl:k=4:=by omega
       have hM:=lessen_math hn hI.inn cc hI.eq hK.done
       go_wp2_with (first | (refine wpList_load_mid rfl 116 _ rfl (w.heap.size) 0 rfl (row .u64 4 (m)) _ (Has.range (hK.hn)) Tryz.underlying116 rfl (num_info _) ?_) | (refine wpList_store_mid rfl 116 _ _ rfl (w.heap.size+1) 0 (row .u64 4 (m)).toArray rfl rfl (num_there (hK.hr)) (num_info' _) (all_oneCell_toArray (row_one _ _ _)) ?_))
       exact bodyPost_ret (v:=(.agg (row .u64 4 (m)).toArray)) (results_row Tryz.results131 rfl (Has.all hK.hr.there .u64 m).range Tryz.underlying116 rfl (num_info m)) rfl ⟨m,rfl,hM,(hK.fr.setAll _ (by omega) _).below⟩
structure kTInv (n:Nat→Int) (w:World) (k:Nat) (m:Nat→Int) (w':World):Prop where
 inn:In W 4 m
 eq:val W m 4%kQ=val W n 4%kQ
 small:k=0∨(k=1∧val W m 4<W^4-kQ)∨(k=2∧val W m 4<kQ)
 hn:Has w' w.heap.size .u64 4 m
 hr:Has w' (w.heap.size+1) .u64 4 (fun _=>0)
 fr:Fr w 2 w'
theorem kTInv.step {n:Nat→Int} {w:World} {k:Nat} {m m':Nat→Int} {w' w'':World} (h:kTInv n w k m w') (hk:k<2) (l:Below w'.heap.size w' w'') (hm:In W 4 m'∧(val W m 4<kQ∧val W m' 4=val W m 4∨kQ≤val W m 4∧val W m' 4=val W m 4-kQ)) :
 kTInv n w (k+1) m' (w''.setCells w.heap.size 0 (row .u64 4 m')):=by
 have i1:=val_in W (by decide) m 4 h.inn; have s:=h.small; have e:=h.eq
 rw [W4] at i1 s
 refine ⟨hm.1,?_,?_,Has.all (h.hn.call h.fr l (by omega)).there .u64 m',(h.hr.call h.fr l (by omega)).setAll_other _ (by omega) 0 _,(h.fr.call l).setAll _ (by omega) _⟩
 · rw [← e]; rcases hm.2 with ⟨_,h'⟩ | ⟨_,h'⟩ <;> rw [h'] <;> simp only [kQ] at*<;> omega
 · rw [W4]; rcases hm.2 with ⟨_,h'⟩ | ⟨_,h'⟩ <;> rw [h'] <;> simp only [kQ] at*<;> omega
theorem least_any (n:Nat→Int) (hn:In W 4 n) (w:World) (hg:kGlob w) :
 Calls Tryz.prog 108 #[(.agg (row .u64 4 (n)).toArray)] w fun e w'=>∃ m:Nat→Int,e=.returned (.agg (row .u64 4 (m)).toArray)∧(In W 4 m∧val W m 4=val W n 4%kQ)∧Below w.heap.size w w':=by
 go_enter Tryz.func108,Tryz.ntmps108
 go_wp2
 go_loopw [3] (fun i w'=>∃ (k:Nat) (m:Nat→Int),k≤2∧i=.int .i64 k∧kTInv n w k m w') (fun i _=>2-(intOf i).toNat)
 case atStart=>exact ⟨0,n,by omega,rfl,⟨hn,rfl,Or.inl rfl,(Has.new w _ _ _ _ _ rfl).alloc _ (by simp),has_zero _ _ _ (by simp),((Fr.refl w).alloc _).alloc _⟩⟩
 case round =>
  obtain ⟨k,m,hk,rfl,hI⟩:=hrel
  have hn':=hI.hn
  by_cases hlt:k<2
  · go_wp2_with (refine wpList_load_mid rfl 116 _ rfl (w.heap.size) 0 rfl (row .u64 4 (m)) _ (Has.range (hn')) Tryz.underlying116 rfl (num_info _) ?_)
    refine (lessen_any m hI.inn _ (hg.fr hI.fr)).mono ?_; rintro e w1 ⟨m1,rfl,s1,l1⟩; have hS:=hI.step hlt l1 s1; have h1:=hI.hn.call hI.fr l1 (by omega); clear hn'
    go_wp2_with (refine wpList_store_mid rfl 116 _ _ rfl (w.heap.size) 0 (row .u64 4 (m1)).toArray rfl rfl (num_there (h1)) (num_info' _) (all_oneCell_toArray (row_one _ _ _)) ?_)
    go_roundw
    case rel=>exact ⟨k+1,_,by omega,by go_num,hS⟩
    case measure=>simp [intOf]; omega
  · obtain rfl:k=2:=by omega
    have hM:val W m 4=val W n 4%kQ:=by
     have s:=hI.small; have e:=hI.eq; have i1:=val_in W (by decide) m 4 hI.inn
     simp only [kQ] at *
     omega
    have hz:=hI.hr
    go_wp2_with (first | (refine wpList_load_mid rfl 116 _ rfl (w.heap.size) 0 rfl (row .u64 4 (m)) _ (Has.range (hn')) Tryz.underlying116 rfl (num_info _) ?_) | (refine wpList_store_mid rfl 116 _ _ rfl (w.heap.size+1) 0 (row .u64 4 (m)).toArray rfl rfl (num_there (hz)) (num_info' _) (all_oneCell_toArray (row_one _ _ _)) ?_))
    exact bodyPost_ret (v:=(.agg (row .u64 4 (m)).toArray)) (results_row Tryz.results108 rfl (Has.all hz.there .u64 m).range Tryz.underlying116 rfl (num_info m)) rfl ⟨m,rfl,⟨hI.inn,hM⟩,(hI.fr.setAll _ (by omega) _).below⟩
theorem cut_key (b k:Nat) (hk:k<4) (w:World):(Instr.sliceAt 23 (.pointer (some ⟨b,0,none⟩)) (some (.int .i64 (8*(k:Int)))) (some (.int .i64 (8*(k:Int)+8))) none).run Tryz.prog w=.ok (.slice (some ⟨b,8*k,none⟩) 8 (32-8*k)) w:=by
 have hl:Tryz.prog.arrayLen 23=32:=by kernel_rfl
 have hs:∀ w,(sizeOf (Tryz.prog.elem 23)).run Tryz.prog w=.ok 1 w:=fun w=>by kernel_rfl
 rw [run_sliceAt_array_lh w 23 ⟨b,0,none⟩ (by kernel_rfl) .i64 .i64 _ _ (by omega) (by omega) (by rw [hl]; omega),hs,hl]
 simp only [Result.andThen,slicedAt]
 have e1:(8*(k:Int)).toNat=8*k:=by omega
 have e2:(8*(k:Int)+8).toNat=8*k+8:=by omega
 rw [e1,e2,if_neg (by omega),Addr.add_mid]
 have e3:8*k+8-8*k=8:=by omega
 rw [e3,Nat.zero_add,Nat.mul_one]
structure DInv (a:Nat→Int) (w:World) (k:Nat) (n:Nat→Int) (w':World):Prop where
 inn:In W 4 n
 eq:val W n k=val 256 a (8*k)
 ha:Has w' w.heap.size .u8 32 a
 hr:Has w' (w.heap.size+1) .u64 4 (fun _=>0)
 hn:Has w' (w.heap.size+1+1) .u64 4 n
 fr:Fr w 3 w'
theorem pow_word (k j:Nat):(256:Int)^(8*k+j)=W^k*256^j:=by
 rw [Int.pow_add,Int.pow_mul,show (256:Int)^8=W from by decide]
theorem val_cut (M:Int) (f:Nat→Int) (n:Nat):∀ k,val M f (n+k)=val M f n+M^n*val M (fun j=>f (n+j)) k
 | 0=>by simp [val]
 | k+1=>by
   rw [← Nat.add_assoc]
   simp only [val]
   rw [val_cut M f n k,Int.mul_add,← Int.mul_assoc,Int.pow_add]
   omega
theorem DInv.drewN {a:Nat→Int} {w:World} {k:Nat} {n:Nat→Int} {w':World} (h:DInv a w k n w') (q:Nat):DInv a w k n (w'.drewN q) :=
 ⟨h.inn,h.eq,⟨h.ha.cell,h.ha.free⟩,⟨h.hr.cell,h.hr.free⟩,⟨h.hn.cell,h.hn.free⟩,⟨below_drewN h.fr.below,h.fr.size⟩⟩
theorem DInv.step {a:Nat→Int} {w:World} {k:Nat} {n:Nat→Int} {w':World} (h:DInv a w k n w') (ha:In 256 32 a) (hk:k<4) :
 DInv a w (k+1) (upd n k (val 256 (fun j=>a (8*k+j)) 8)) (w'.setCell ⟨w.heap.size+1+1,k,none⟩ (.int .u64 (val 256 (fun j=>a (8*k+j)) 8))):=by
 have i:=val_in 256 (by decide) (fun j=>a (8*k+j)) 8 (fun j hj=>ha (8*k+j) (by omega))
 refine ⟨h.inn.upd k _ i.1 i.2,?_,h.ha.set_other _ _ (by simp; omega),h.hr.set_other _ _ (by simp),h.hn.set k hk _,h.fr.set _ _ (by simp; omega)⟩
 have e:=val_cut 256 a (8*k) 8; have p0:=pow_word k 0
 simp only [Nat.add_zero,Int.pow_zero,Int.mul_one] at p0
 rw [show 8*(k+1)=8*k+8 by omega,e,p0]
 simp only [val]
 rw [val_upd _ _ _ _ _ (xnR k),upd_same,h.eq]
theorem load_any (a:Nat→Int) (ha:In 256 32 a) (w:World) :
 Calls Tryz.prog 95 #[(.agg (row .u8 32 (a)).toArray)] w fun e w'=>∃ m:Nat→Int,e=.returned (.agg (row .u64 4 (m)).toArray)∧(In W 4 m∧val W m 4=val 256 a 32)∧Below w.heap.size w w':=by
 go_enter Tryz.func95,Tryz.ntmps95
 go_wp2
 go_loopw [5] (fun i w'=>∃ (k:Nat) (n:Nat→Int),k≤4∧i=.int .i64 k∧DInv a w k n w') (fun i _=>4-(intOf i).toNat)
 case atStart=>exact ⟨0,fun _=>0,by omega,rfl,⟨fun _ _=>⟨Int.le_refl 0,by decide⟩,rfl,((Has.new w _ _ _ _ _ rfl).alloc _ (by simp)).alloc _ (by simp; omega),(has_zero _ _ _ (by simp)).alloc _ (by simp),has_zero _ _ _ (by simp),(((Fr.refl w).alloc _).alloc _).alloc _⟩⟩
 case round =>
  obtain ⟨k,n,hk,rfl,hI⟩:=hrel
  by_cases hlt:k<4
  · have g1:(0:Int)≤(k:Int):=by omega
    have g2:(k:Int)<4:=by omega
    have hcut:=cut_key w.heap.size k hlt; have HS:=show Hid _ from fun q=>(hI.drewN q).step ha hlt; have HC:=show Hid _ from of_quiet w.heap.size (8*k) 32 (32-8*k) a (by omega) ha wr hI.ha
    have cn:∀ q,(wr.drewN q).cell? ⟨w.heap.size+1+1,k,none⟩=some (.int .u64 (n k)):=fun q=>hI.hn.cell k hlt
    have fn:∀ q,(wr.drewN q).frozen? ⟨w.heap.size+1+1,k,none⟩=false:=fun q=>hI.hn.free k hlt
    clear hI; generalize n k=z at *; generalize val 256 (fun j=>a (8*k+j)) 8=v at *
    go_wp2_with fail
    refine Calls.mono HC.out ?_; rintro e w' ⟨q,rfl,rfl⟩
    have cn':=cn q
    have fn':=fn q
    have HT:=show Hid _ from HS.out q; clear HC HS cn fn; generalize wr.drewN q=w2 at *; go_wp2
    go_roundw
    case rel=>exact ⟨k+1,_,by omega,by go_num,HT.out⟩
    case measure=>simp [intOf]; omega
  · obtain rfl:k=4:=by omega
    have hn:=hI.hn; have hz:=hI.hr
    go_wp2_with (first | (refine wpList_load_mid rfl 116 _ rfl (w.heap.size+1+1) 0 rfl (row .u64 4 (n)) _ (Has.range (hn)) Tryz.underlying116 rfl (num_info _) ?_) | (refine wpList_store_mid rfl 116 _ _ rfl (w.heap.size+1) 0 (row .u64 4 (n)).toArray rfl rfl (num_there (hz)) (num_info' _) (all_oneCell_toArray (row_one _ _ _)) ?_))
    exact bodyPost_ret (v:=(.agg (row .u64 4 (n)).toArray)) (results_row Tryz.results95 rfl (Has.all hz.there .u64 n).range Tryz.underlying116 rfl (num_info n)) rfl ⟨n,rfl,⟨hI.inn,hI.eq⟩,(hI.fr.setAll _ (by omega) _).below⟩
theorem index_num0 (m:Nat→Int) (w:World):(Instr.index 116 (.agg (row .u64 4 m).toArray) (.int .i64 0)).run Tryz.prog w=.ok (.int .u64 (m 0)) w:=by kernel_rfl
theorem index_num1 (m:Nat→Int) (w:World):(Instr.index 116 (.agg (row .u64 4 m).toArray) (.int .i64 1)).run Tryz.prog w=.ok (.int .u64 (m 1)) w:=by kernel_rfl
theorem index_num2 (m:Nat→Int) (w:World):(Instr.index 116 (.agg (row .u64 4 m).toArray) (.int .i64 2)).run Tryz.prog w=.ok (.int .u64 (m 2)) w:=by kernel_rfl
theorem index_num3 (m:Nat→Int) (w:World):(Instr.index 116 (.agg (row .u64 4 m).toArray) (.int .i64 3)).run Tryz.prog w=.ok (.int .u64 (m 3)) w:=by kernel_rfl
theorem index_num (m:Nat→Int) (k:Nat) (hk:k<4) (w:World):(Instr.index 116 (.agg (row .u64 4 m).toArray) (.int .i64 (k:Int))).run Tryz.prog w=.ok (.int .u64 (m k)) w:=by
 have h:k=0∨k=1∨k=2∨k=3:=by omega
 rcases h with rfl | rfl | rfl | rfl
 · exact index_num0 m w
 · exact index_num1 m w
 · exact index_num2 m w
 · exact index_num3 m w
structure GInv (m:Nat→Int) (w:World) (B:Nat) (k:Nat) (f:Nat→Int) (w':World):Prop where
 inn:In 256 32 f
 eq:val 256 f (8*k)=val W m k
 hb:Has w' B .u8 32 f
 hr:Has w' (w.heap.size+1) .u8 32 (fun _=>0)
 fr:Fr w 2 w'
theorem GInv.step {m:Nat→Int} {w:World} {B k:Nat} {f:Nat→Int} {w':World} (h:GInv m w B k f w') (hB:w.heap.size+2≤B) (hm:0≤m k∧m k<W) (hk:k<4) :
 GInv m w B (k+1) (over f (8*k) 8 (byt (m k))) (w'.setCells B (8*k) (row .u8 8 (byt (m k)))):=by
 refine ⟨over_in h.inn (byt_in _),?_,h.hb.part (8*k) 8 (by omega) (byt (m k)),h.hr.setAll_other _ (by omega) _ _,⟨below_setAll h.fr.below B (by omega) _ _,by rw [size_setAll]; exact h.fr.size⟩⟩
 have e:=val_cut 256 (over f (8*k) 8 (byt (m k))) (8*k) 8
 have e1:val 256 (over f (8*k) 8 (byt (m k))) (8*k)=val 256 f (8*k):=val_congr 256 _ fun j hj=>by unfold over; rw [if_neg (by omega)]
 have e2:val 256 (fun j=>over f (8*k) 8 (byt (m k)) (8*k+j)) 8=m k:=by
  rw [val_congr 256 8 (g:=byt (m k)) (fun j hj=>by unfold over; rw [if_pos (by omega),Nat.add_sub_cancel_left])]
  exact val_byt (m k) hm.1 hm.2
 have p0:=pow_word k 0
 simp only [Nat.add_zero,Int.pow_zero,Int.mul_one] at p0
 rw [show 8*(k+1)=8*k+8 by omega,e,e1,e2,p0,h.eq]
 rfl
theorem save_any (n:Nat→Int) (hn:In W 4 n) (w:World) (hg:kGlob w) :
 Calls Tryz.prog 93 #[(.agg (row .u64 4 (n)).toArray)] w fun e w'=>∃ f:Nat→Int,e=.returned (.agg (row .u8 32 (f)).toArray)∧(In 256 32 f∧val 256 f 32=val W n 4%kQ)∧Below w.heap.size w w':=by
 have a0:Has ((w.alloc (.cells (row .u64 4 n).toArray 116)).alloc (.cells zu8_32 23)) w.heap.size .u64 4 n:=(Has.new w _ _ _ _ _ rfl).alloc _ (by simp)
 have z0:Has ((w.alloc (.cells (row .u64 4 n).toArray 116)).alloc (.cells zu8_32 23)) (w.heap.size+1) .u8 32 (fun _=>0):=key_zero _ _ _ (by simp)
 have g0:Fr w 2 ((w.alloc (.cells (row .u64 4 n).toArray 116)).alloc (.cells zu8_32 23)):=((Fr.refl w).alloc _).alloc _
 go_enter Tryz.func93,Tryz.ntmps93
 go_wp2_with (refine wpList_load_mid rfl 116 _ rfl (w.heap.size) 0 rfl (row .u64 4 (n)) _ (Has.range (a0)) Tryz.underlying116 rfl (num_info _) ?_)
 refine (least_any n hn _ (hg.fr g0)).mono ?_; rintro e w1 ⟨m,rfl,s1,l1⟩; have g1:=(g0.call l1).setAll w.heap.size (xnR _) (row .u64 4 m)
 have a1':=a0.call g0 l1 (by omega)
 have a1:=Has.all a1'.there .u64 m; have z1:=(z0.call g0 l1 (by omega)).setAll_other w.heap.size (by omega) 0 (row .u64 4 m); have a2:=a1.alloc (.cells zu8_32 23) (by have:=g1.size; omega)
 have tok:True:=trivial
 clear a0 z0 g0 l1
 have hN:w.heap.size+2≤(w1.setCells w.heap.size 0 (row .u64 4 m)).heap.size:=g1.size
 rw [size_setAll] at hN
 go_wp2_with (first | (have _t:=tok; refine wpList_store_mid rfl 116 _ _ rfl (w.heap.size) 0 (row .u64 4 (m)).toArray rfl rfl (num_there (a1')) (num_info' _) (all_oneCell_toArray (row_one _ _ _)) ?_; clear tok) | (refine wpList_load_mid rfl 116 _ rfl (w.heap.size) 0 rfl (row .u64 4 (m)) _ (Has.range (a2)) Tryz.underlying116 rfl (num_info _) ?_))
 have b2:=key_zero (w1.setCells w.heap.size 0 (row .u64 4 m)) 23 _ rfl; have z2:=z1.alloc (.cells zu8_32 23) (by rw [size_setAll]; omega); have g2:=g1.alloc (.cells zu8_32 23)
 have hB:w.heap.size+2≤(w1.setCells w.heap.size 0 (row .u64 4 m)).heap.size:=g1.size
 clear a1 a1' a2 z1 g1 hN; generalize (w1.setCells w.heap.size 0 (row .u64 4 m)).heap.size=B at *; generalize (w1.setCells w.heap.size 0 (row .u64 4 m)).alloc (.cells zu8_32 23)=W2 at *
 go_loopw [9] (fun i w'=>∃ (k:Nat) (f:Nat→Int),k≤4∧i=.int .i64 k∧GInv m w B k f w') (fun i _=>4-(intOf i).toNat)
 case atStart=>exact ⟨0,fun _=>0,by omega,rfl,⟨fun _ _=>⟨Int.le_refl 0,by decide⟩,rfl,b2,z2,⟨g2.below,by have:=g2.size; omega⟩⟩⟩
 case round =>
  obtain ⟨k,f,hk,rfl,hI⟩:=hrel
  clear b2 z2 g2
  by_cases hlt:k<4
  · have g1:(0:Int)≤(k:Int):=by omega
    have g2:(k:Int)<4:=by omega
    have hcut:=cut_key B k hlt; have hix:=index_num m k hlt; have i1:=s1.1 k hlt; have HS:=show Hid _ from hI.step hB i1 hlt; have HC:=show Hid _ from put_any B (8*k) 32 (32-8*k) f (m k) (by omega) wr hI.hb; have H1:=show Hid _ from s1; clear hI s1 i1; generalize m k=x at *
    go_wp2_with fail
    refine Calls.mono HC.out ?_; rintro e w' ⟨rfl,rfl⟩; clear HC; generalize wr.setCells B (8*k) (row .u8 8 (byt x))=w2 at *; go_wp2
    go_roundw
    case rel=>exact ⟨k+1,_,by omega,by go_num,HS.out⟩
    case measure=>simp [intOf]; omega
  · obtain rfl:k=4:=by omega
    have hb:=hI.hb; have hz:=hI.hr
    have hE:In 256 32 f∧val 256 f 32=val W n 4%kQ:=⟨hI.inn,hI.eq.trans s1.2⟩
    have HE:=show Hid _ from hE; clear hE s1 hlt hk
    go_wp2_with (first | (refine wpList_load_mid rfl 23 _ rfl (B) 0 rfl (row .u8 32 (f)) _ (Has.range (hb)) Tryz.underlying23 rfl (key_info _) ?_) | (refine wpList_store_mid rfl 23 _ _ rfl (w.heap.size+1) 0 (row .u8 32 (f)).toArray rfl rfl (key_there (hz)) (key_info' _) (all_oneCell_toArray (row_one _ _ _)) ?_))
    exact bodyPost_ret (v:=(.agg (row .u8 32 (f)).toArray)) (results_row Tryz.results93 rfl (Has.all hz.there .u8 f).range Tryz.underlying23 rfl (key_info f)) rfl ⟨f,rfl,HE.out,(hI.fr.setAll _ (by omega) _).below⟩
theorem wid_info (f:Nat→Int):(Tryz.prog.info? 128).map (·.size)=some (row .u64 8 f).length:=by rw [row_length]; kernel_rfl
structure FInv (d:Nat→Int) (w:World) (k:Nat) (n:Nat→Int) (cv:Int) (w':World):Prop where
 c0:0≤cv
 c1:cv≤38
 inn:In W 4 n
 eq:val W n k+W^k*cv=val W d k+38*val W (fun j=>d (j+4)) k
 hd:Has w' w.heap.size .u64 8 d
 hr:Has w' (w.heap.size+1) .u64 4 (fun _=>0)
 hn:Has w' (w.heap.size+1+1) .u64 4 n
 fr:Fr w 3 w'
theorem FInv.step {d:Nat→Int} {w:World} {k:Nat} {n:Nat→Int} {cv h l:Int} {w':World} (hI:FInv d w k n cv w') (hd:In W 8 d) (hk:k<4) (hs:Steps (d (k+4)) 38 (d k) cv h l) :
 FInv d w (k+1) (upd n k l) h ((w'.setCell ⟨w.heap.size+1+1,k,none⟩ (.int .u64 l)).drew):=by
 obtain ⟨s0,s1,s2,s3,s4⟩:=hs
 have i1:=hd (k+4) (by omega); have i2:=hd k (by omega); have q1:=hI.c1; have q0:=hI.c0
 refine ⟨s0,?_,hI.inn.upd k l s2 s3,?_,(hI.hd.set_other _ _ (by simp; omega)).drew,(hI.hr.set_other _ _ (by simp)).drew,(hI.hn.set k hk _).drew,(hI.fr.set _ _ (by simp; omega)).drew⟩
 · simp only [W] at *; omega
 · simp only [val]
   rw [val_upd _ _ _ _ _ (xnR k),upd_same,Int.pow_succ,Int.mul_assoc]
   have e1:W^k*(W*h)+W^k*l=W^k*(38*d (k+4))+W^k*d k+W^k*cv:=by
    rw [← Int.mul_add,← Int.mul_add,← Int.mul_add,Int.mul_comm W h,s4,Int.mul_comm 38]
   have e2:=hI.eq
   have e3:W^k*(38*d (k+4))=38*(W^k*d (k+4)):=Int.mul_left_comm _ _ _
   omega
theorem val8 (d:Nat→Int):val W d 8=val W d 4+W^4*val W (fun j=>d (j+4)) 4:=by
 simp only [val,W,Nat.zero_add,Nat.reduceAdd]
 omega
theorem kfold_math {d n m:Nat→Int} {cv:Int} (he:val W n 4+W^4*cv=val W d 4+38*val W (fun j=>d (j+4)) 4) (hm:val W m 4%kQ=(val W n 4+W^4*cv)%kQ):val W m 4%kQ=val W d 8%kQ:=by
 rw [hm,he,val8,W4]
 simp only [kQ]
 omega
theorem fold_any (d:Nat→Int) (hd:In W 8 d) (w:World) :
 Calls Tryz.prog 111 #[(.agg (row .u64 8 (d)).toArray)] w fun e w'=>∃ m:Nat→Int,e=.returned (.agg (row .u64 4 (m)).toArray)∧(In W 4 m∧val W m 4%kQ=val W d 8%kQ)∧Below w.heap.size w w':=by
 go_enter Tryz.func111,Tryz.ntmps111
 go_wp2
 go_loopw [4,6] (fun c i w'=>∃ (k:Nat) (n:Nat→Int) (cv:Int),k≤4∧i=.int .i64 k∧c=.int .u64 cv∧FInv d w k n cv w') (fun _ i _=>4-(intOf i).toNat)
 case atStart =>
  exact ⟨0,fun _=>0,0,by omega,rfl,rfl,⟨by omega,by omega,fun _ _=>⟨Int.le_refl 0,by decide⟩,by simp [val],((Has.new w _ _ _ _ _ rfl).alloc _ (by simp)).alloc _ (by simp; omega),(has_zero _ _ _ (by simp)).alloc _ (by simp),has_zero _ _ _ (by simp),(((Fr.refl w).alloc _).alloc _).alloc _⟩⟩
 case round =>
  obtain ⟨k,n,cv,hk,rfl,rfl,hI⟩:=hrel
  by_cases hlt:k<4
  · have c1:=hI.hd.cell (k+4) (by omega)
    have c2:=hI.hd.cell k (by omega); have c3:=hI.hn.cell k hlt; have f1:=hI.hn.free k hlt
    have g1:(0:Int)≤(k:Int):=by omega
    have g2:(k:Int)<4:=by omega
    have g3:(0:Int)≤(k:Int)+4:=by omega
    have g4:(k:Int)+4<8:=by omega
    have g5:(k:Int)<8:=by omega
    have g6:((k:Int)+4).toNat=k+4:=by omega
    have g7:IntKind.i64.wrap ((k:Int)+4)=(k:Int)+4:=by rw [xw6]; omega
    have hc:=fun W'=>step_any (d (k+4)) 38 (d k) cv (hd (k+4) (by omega)).1 (hd (k+4) (by omega)).2 (by decide) (by decide) (hd k (by omega)).1 (hd k (by omega)).2 hI.c0 (by have:=hI.c1; simp only [W]; omega) W'; have HS:=show Hid _ from fun (h l:Int) (hs:Steps (d (k+4)) 38 (d k) cv h l)=>hI.step hd hlt hs; have HC:=show Hid _ from hc; clear hI hc; generalize n k=z at *
    generalize d (k+4)=x at *; generalize d k=y at *; go_wp2
    have k1:∀ v,(wr.setCell ⟨w.heap.size+1+1,k,none⟩ v).cell? ⟨w.heap.size,k+4,none⟩=some (.int .u64 x):=fun v=>by rw [World.cell?_setCell_other _ _ _ _ (by intro h'; injection h'; omega)]; exact c1
    have k2:∀ v,(wr.setCell ⟨w.heap.size+1+1,k,none⟩ v).cell? ⟨w.heap.size,k,none⟩=some (.int .u64 y):=fun v=>by rw [World.cell?_setCell_other _ _ _ _ (by intro h'; injection h'; omega)]; exact c2
    go_region_held3 (fun w'=>w'.cell? ⟨w.heap.size,k+4,none⟩=some (.int .u64 x)∧w'.cell? ⟨w.heap.size,k,none⟩=some (.int .u64 y)) (simp [*]) (first | (go_at_call 110; refine (HC.out _).mono ?_; rintro e w' ⟨h,l,rfl,hs,rfl⟩))
    go_wp2
    go_roundw
    case rel=>exact ⟨k+1,_,_,by omega,by go_num,rfl,HS.out h l hs⟩
    case measure=>simp [intOf]; omega
  · obtain rfl:k=4:=by omega
    have hn:=hI.hn; have hz:=hI.hr
    go_wp2_with (refine wpList_load_mid rfl 116 _ rfl (w.heap.size+1+1) 0 rfl (row .u64 4 (n)) _ (Has.range (hn)) Tryz.underlying116 rfl (num_info _) ?_)
    refine (wrap_any n hI.inn cv hI.c0 hI.c1 _).mono ?_; rintro e w1 ⟨m,rfl,s1,l1⟩; have hz1:=hz.call hI.fr l1 (by omega)
    go_wp2_with (refine wpList_store_mid rfl 116 _ _ rfl (w.heap.size+1) 0 (row .u64 4 (m)).toArray rfl rfl (num_there (hz1)) (num_info' _) (all_oneCell_toArray (row_one _ _ _)) ?_)
    exact bodyPost_ret (v:=(.agg (row .u64 4 (m)).toArray)) (results_row Tryz.results111 rfl (Has.all hz1.there .u64 m).range Tryz.underlying116 rfl (num_info m)) rfl ⟨m,rfl,⟨s1.1,kfold_math hI.eq s1.2⟩,((hI.fr.call l1).setAll _ (by omega) _).below⟩
theorem kval_succ (M:Int) (f:Nat→Int) (n:Nat):val M f (n+1)=val M f n+M^n*f n:=rfl
theorem kval_upd_in (M:Int) (f:Nat→Int) (i:Nat) (x:Int):∀ n,i<n→val M (upd f i x) n=val M f n+(M^i*x-M^i*f i)
 | 0,h=>by omega
 | n+1,h=>by
   simp only [val]
   by_cases e:i=n
   · subst e; rw [val_upd _ _ _ _ _ (xnR i),upd_same]; omega
   · rw [kval_upd_in M f i x n (by omega),upd_other _ _ _ _ (by omega)]; omega
structure kRInv (a b:Nat→Int) (w:World) (k j:Nat) (d:Nat→Int) (cv:Int) (w':World):Prop where
 c0:0≤cv
 c1:cv<W
 inn:In W 8 d
 zero:∀ t,4+k≤t→d t=0
 eq:val W d (4+k)+W^(k+j)*cv=val W a k*val W b 4+W^k*a k*val W b j
 ha:Has w' w.heap.size .u64 4 a
 hb:Has w' (w.heap.size+1) .u64 4 b
 hr:Has w' (w.heap.size+1+1) .u64 4 (fun _=>0)
 hd:Has w' (w.heap.size+1+1+1) .u64 8 d
 fr:Fr w 4 w'
theorem kRInv.step {a b:Nat→Int} {w:World} {k j:Nat} {d:Nat→Int} {cv h l:Int} {w':World} (hI:kRInv a b w k j d cv w') (hk:k<4) (hj:j<4) (hs:Steps (a k) (b j) (d (k+j)) cv h l) :
 kRInv a b w k (j+1) (upd d (k+j) l) h ((w'.setCell ⟨w.heap.size+1+1+1,k+j,none⟩ (.int .u64 l)).drew):=by
 obtain ⟨s0,s1,s2,s3,s4⟩:=hs
 refine ⟨s0,s1,hI.inn.upd _ l s2 s3,fun t ht=>?_,?_,(hI.ha.set_other _ _ (by simp; omega)).drew,(hI.hb.set_other _ _ (by simp; omega)).drew,(hI.hr.set_other _ _ (by simp)).drew,(hI.hd.set _ (by omega) _).drew,(hI.fr.set _ _ (by simp; omega)).drew⟩
 · rw [upd_other _ _ _ _ (by omega)]; exact hI.zero t ht
 · rw [kval_upd_in _ _ _ _ _ (by omega),kval_succ W b j]
   have e0:W^(k+(j+1))*h=W^(k+j)*(h*W):=by rw [← Nat.add_assoc,Int.pow_succ,Int.mul_assoc,Int.mul_comm W h]
   have e1:W^(k+j)*(h*W)+W^(k+j)*l=W^(k+j)*(a k*b j)+W^(k+j)*d (k+j)+W^(k+j)*cv:=by
    rw [← Int.mul_add,← Int.mul_add,← Int.mul_add,s4]
   have e2:=hI.eq
   have e3:W^k*a k*(W^j*b j)=W^(k+j)*(a k*b j):=by rw [Int.pow_add,Int.mul_assoc,Int.mul_left_comm (a k),← Int.mul_assoc]
   rw [Int.mul_add (W^k*a k),e3,e0]
   omega
theorem kRInv.next {a b:Nat→Int} {w:World} {k:Nat} {d:Nat→Int} {cv:Int} {w':World} (hI:kRInv a b w k 4 d cv w') (hk:k<4) :
 kRInv a b w (k+1) 0 (upd d (k+4) cv) 0 (w'.setCell ⟨w.heap.size+1+1+1,k+4,none⟩ (.int .u64 cv)):=by
 refine ⟨Int.le_refl 0,by decide,hI.inn.upd _ cv hI.c0 hI.c1,fun t ht=>?_,?_,hI.ha.set_other _ _ (by simp; omega),hI.hb.set_other _ _ (by simp; omega),hI.hr.set_other _ _ (by simp),hI.hd.set _ (by omega) _,hI.fr.set _ _ (by simp; omega)⟩
 · rw [upd_other _ _ _ _ (by omega)]; exact hI.zero t (by omega)
 · have e:4+(k+1)=(k+4)+1:=by omega
   have e2:=hI.eq
   rw [Nat.add_comm 4 k] at e2
   rw [e,kval_succ W _ (k+4),val_upd _ _ _ _ _ (xnR _),upd_same,kval_succ W a k,Int.add_mul,e2,Int.mul_zero,show val W b 0=0 from rfl,Int.mul_zero]
theorem wid_zero (w:World) (t:TypeId) (b:Nat) (hb:b=w.heap.size):Has (w.alloc (.cells zu64_8 t)) b .u64 8 (fun _=>0):=Has.new w .u64 8 (fun _=>0) t b hb
theorem kval_zero (M:Int):∀ n,val M (fun _=>0) n=0
 | 0=>rfl
 | n+1=>by simp [val,kval_zero M n]
theorem product_any (a b:Nat→Int) (ha:In W 4 a) (hb:In W 4 b) (w:World) :
 Calls Tryz.prog 94 #[(.agg (row .u64 4 (a)).toArray),(.agg (row .u64 4 (b)).toArray)] w fun e w'=>∃ m:Nat→Int,e=.returned (.agg (row .u64 4 (m)).toArray)∧(In W 4 m∧val W m 4%kQ=(val W a 4*val W b 4)%kQ)∧Below w.heap.size w w':=by
 go_enter Tryz.func94,Tryz.ntmps94
 go_wp2
 go_loopw [9] (fun i w'=>∃ (k:Nat) (d:Nat→Int),k≤4∧i=.int .i64 k∧kRInv a b w k 0 d 0 w') (fun i _=>4-(intOf i).toNat)
 case atStart =>
  exact ⟨0,fun _=>0,by omega,rfl,⟨by omega,by decide,fun _ _=>⟨Int.le_refl 0,by decide⟩,fun _ _=>rfl,by simp [val],(((Has.new w _ _ _ _ _ rfl).alloc _ (by simp)).alloc _ (by simp; omega)).alloc _ (by simp; omega),((Has.new _ _ _ _ _ _ (by simp)).alloc _ (by simp)).alloc _ (by simp),(has_zero _ _ _ (by simp)).alloc _ (by simp),wid_zero _ _ _ (by simp),((((Fr.refl w).alloc _).alloc _).alloc _).alloc _⟩⟩
 case round =>
  obtain ⟨k,d0,hk,rfl,hO⟩:=hrel
  by_cases hlt:k<4
  · obtain ⟨wo,rfl⟩:∃ wo:World,wo=wr:=⟨_,rfl⟩
    have g1:(0:Int)≤(k:Int):=by omega
    have g2:(k:Int)<4:=by omega
    go_wp2
    go_loopw [7,12] (fun c i w'=>∃ (j:Nat) (d:Nat→Int) (cv:Int),j≤4∧i=.int .i64 j∧c=.int .u64 cv∧kRInv a b w k j d cv w') (fun _ i _=>4-(intOf i).toNat)
    case atStart=>exact ⟨0,d0,0,by omega,rfl,rfl,hO⟩
    case round =>
     obtain ⟨j,d,cv,hj,rfl,rfl,hI⟩:=hrel
     clear hO
     by_cases hlt2:j<4
     · have c1:=hI.ha.cell k hlt
       have c2:=hI.hb.cell j hlt2; have c3:=hI.hd.cell (k+j) (by omega); have f1:=hI.hd.free (k+j) (by omega)
       have g3:(0:Int)≤(j:Int):=by omega
       have g4:(j:Int)<4:=by omega
       have g5:(0:Int)≤(k:Int)+(j:Int):=by omega
       have g6:(k:Int)+(j:Int)<8:=by omega
       have g7:((k:Int)+(j:Int)).toNat=k+j:=by omega
       have g8:IntKind.i64.wrap ((k:Int)+(j:Int))=(k:Int)+(j:Int):=by rw [xw6]; omega
       have HS:=show Hid _ from fun (h l:Int) (hs:Steps (a k) (b j) (d (k+j)) cv h l)=>hI.step hlt hlt2 hs; have HC:=show Hid _ from fun W'=>step_any (a k) (b j) (d (k+j)) cv (ha k hlt).1 (ha k hlt).2 (hb j hlt2).1 (hb j hlt2).2 (hI.inn (k+j) (by omega)).1 (hI.inn (k+j) (by omega)).2 hI.c0 hI.c1 W'; clear hI; generalize a k=x at *; generalize b j=y at *
       generalize d (k+j)=z at *; go_wp2
       go_region_with (go_at_call 110; refine (HC.out _).mono ?_; rintro e w' ⟨h,l,rfl,hs,rfl⟩)
       all_goals
        go_wp2
        go_roundw
        case rel=>first | exact ⟨j+1,_,_,by omega,by go_num,rfl,HS.out h l hs⟩ | ((repeat apply Exists.intro); refine ⟨⟨j+1,_,_,by omega,?_,?_,HS.out h l hs⟩,rfl⟩ <;> first | rfl | go_num)
        case measure=>simp [intOf]; omega
     · obtain rfl:j=4:=by omega
       have hS:=hI.next hlt; have c3:=hI.hd.cell (k+4) (by omega); have f1:=hI.hd.free (k+4) (by omega)
       have g6:((k:Int)+4).toNat=k+4:=by omega
       clear hI; generalize d (k+4)=z at *; go_wp2
       go_roundw
       case rel=>exact ⟨k+1,_,by omega,by go_num,hS⟩
       case measure=>simp [intOf]; omega
  · obtain rfl:k=4:=by omega
    have hd:=hO.hd; have hz:=hO.hr
    have he:val W d0 8=val W a 4*val W b 4:=by
     have e:=hO.eq
     rw [Int.mul_zero,show val W b 0=0 from rfl,Int.mul_zero,Int.add_zero,Int.add_zero] at e
     exact e
    go_wp2_with (refine wpList_load_mid rfl 128 _ rfl (w.heap.size+1+1+1) 0 rfl (row .u64 8 (d0)) _ (Has.range (hd)) Tryz.underlying128 rfl (wid_info _) ?_)
    refine (fold_any d0 hO.inn _).mono ?_; rintro e w1 ⟨m,rfl,s1,l1⟩; have hz1:=hz.call hO.fr l1 (by omega)
    have hm:val W m 4%kQ=(val W a 4*val W b 4)%kQ:=by rw [s1.2,he]
    have HM:=show Hid _ from hm; clear he hm
    go_wp2_with (refine wpList_store_mid rfl 116 _ _ rfl (w.heap.size+1+1) 0 (row .u64 4 (m)).toArray rfl rfl (num_there (hz1)) (num_info' _) (all_oneCell_toArray (row_one _ _ _)) ?_)
    exact bodyPost_ret (v:=(.agg (row .u64 4 (m)).toArray)) (results_row Tryz.results94 rfl (Has.all hz1.there .u64 m).range Tryz.underlying116 rfl (num_info m)) rfl ⟨m,rfl,⟨s1.1,HM.out⟩,((hO.fr.call l1).setAll _ (by omega) _).below⟩
def E:Nat:=57896044618658097711785492504343953926634992332820282019728792003956564819947
theorem E_top:E/2^256=0:=by decide +kernel
def bitsOk (n:Nat):Bool:=(List.range n).all fun s=>(eW (s/64)).toNat/2^(s%64)%2 == E/2^s%2
theorem bits_ok:bitsOk 256=true:=by decide +kernel
theorem bit_of (s:Nat) (h:s<256):(eW (s/64)).toNat/2^(s%64)%2=E/2^s%2:=by
 have:=List.all_eq_true.1 bits_ok s (List.mem_range.2 h)
 simpa using this
theorem eW_in:In W 4 eW
 | 0,_=>by decide
 | 1,_=>by decide
 | 2,_=>by decide
 | 3,_=>by decide
 | _+4,h=>by omega
structure VInv (a:Nat→Int) (w:World) (t:Nat) (m:Nat→Int) (w':World):Prop where
 inn:In W 4 m
 eq:val W m 4%kQ=val W a 4^(E/2^t)%kQ
 ha:Has w' w.heap.size .u64 4 a
 hr:Has w' (w.heap.size+1) .u64 4 (fun _=>0)
 hn:Has w' (w.heap.size+1+1) .u64 4 m
 fr:Fr w 3 w'
theorem has_one (w:World) (t:TypeId) (b:Nat) (hb:b=w.heap.size):Has (w.alloc (.cells #[.int .u64 1,.int .u64 0,.int .u64 0,.int .u64 0] t)) b .u64 4 (one 1):=Has.new w .u64 4 (one 1) t b hb
theorem bit_test (y:Int) (h0:0≤y) (h1:y<W) (k:Nat):(bits BinOp.and IntKind.u64 (y/2^k) 1 == 1)=(y.toNat/2^k%2 == 1):=by
 obtain ⟨y,rfl⟩:=xiN h0
 simp only [W] at h1
 have e:(y:Int)/2^k=((y/2^k:Nat):Int):=by simp
 have hlt:y/2^k<18446744073709551616:=Nat.lt_of_le_of_lt (Nat.div_le_self _ _) (by omega)
 have e2:=u64_and_nat (y/2^k) 1 hlt (by omega)
 rw [e,show (1:Int)=((1:Nat):Int) from rfl,e2,Nat.and_one_is_mod,Int.toNat_natCast]
 generalize y/2^k%2=z
 by_cases hz:z=1
 · subst hz; rfl
 · have a:((z:Int) == ((1:Nat):Int))=false:=by simp; omega
   have b:(z == 1)=false:=by simp; exact hz
   rw [a,b]
theorem half (s:Nat):E/2^s=2*(E/2^(s+1))+E/2^s%2:=by
 rw [Nat.pow_succ,← Nat.div_div_eq_div_mul]
 omega
theorem VInv.even {a:Nat→Int} {w:World} {s:Nat} {m m1:Nat→Int} {w' w1:World} (h:VInv a w (s+1) m w') (l:Below w'.heap.size w' w1) (s1:In W 4 m1∧val W m1 4%kQ=(val W m 4*val W m 4)%kQ) (hb:E/2^s%2=0) :
 VInv a w s m1 (w1.setCells (w.heap.size+1+1) 0 (row .u64 4 m1)):=by
 refine ⟨s1.1,?_,(h.ha.call h.fr l (by omega)).setAll_other _ (by omega) 0 _,(h.hr.call h.fr l (by omega)).setAll_other _ (by omega) 0 _,Has.all (h.hn.call h.fr l (by omega)).there .u64 m1,(h.fr.call l).setAll _ (by omega) _⟩
 rw [half s,hb,Nat.add_zero,s1.2,Int.mul_emod,h.eq,← Int.mul_emod,← Int.pow_add,← Nat.two_mul]
theorem VInv.odd {a:Nat→Int} {w:World} {s:Nat} {m m1 m2:Nat→Int} {w' w1 w2:World} (h:VInv a w (s+1) m w') (l:Below w'.heap.size w' w1) (s1:In W 4 m1∧val W m1 4%kQ=(val W m 4*val W m 4)%kQ)
 (l2:Below (w1.setCells (w.heap.size+1+1) 0 (row .u64 4 m1)).heap.size (w1.setCells (w.heap.size+1+1) 0 (row .u64 4 m1)) w2) (s2:In W 4 m2∧val W m2 4%kQ=(val W m1 4*val W a 4)%kQ) (hb:E/2^s%2=1) :
 VInv a w s m2 (w2.setCells (w.heap.size+1+1) 0 (row .u64 4 m2)):=by
 have f1:=(h.fr.call l).setAll (w.heap.size+1+1) (by omega) (row .u64 4 m1); have a1:=(h.ha.call h.fr l (by omega)).setAll_other (w.heap.size+1+1) (by omega) 0 (row .u64 4 m1); have r1:=(h.hr.call h.fr l (by omega)).setAll_other (w.heap.size+1+1) (by omega) 0 (row .u64 4 m1); have n1:=Has.all (h.hn.call h.fr l (by omega)).there .u64 m1
 refine ⟨s2.1,?_,(a1.call f1 l2 (by omega)).setAll_other _ (by omega) 0 _,(r1.call f1 l2 (by omega)).setAll_other _ (by omega) 0 _,Has.all (n1.call f1 l2 (by omega)).there .u64 m2,(f1.call l2).setAll _ (by omega) _⟩
 have e1:val W m1 4%kQ=val W a 4^(2*(E/2^(s+1)))%kQ:=by rw [s1.2,Int.mul_emod,h.eq,← Int.mul_emod,← Int.pow_add,← Nat.two_mul]
 rw [half s,hb,Int.pow_succ,s2.2,Int.mul_emod (val W m1 4),e1,← Int.mul_emod]
theorem inverse_any (a:Nat→Int) (ha:In W 4 a) (w:World) (hg:kGlob w) :
 Calls Tryz.prog 96 #[(.agg (row .u64 4 (a)).toArray)] w fun e w'=>∃ m:Nat→Int,e=.returned (.agg (row .u64 4 (m)).toArray)∧(In W 4 m∧val W m 4%kQ=val W a 4^E%kQ)∧Below w.heap.size w w':=by
 go_enter Tryz.func96,Tryz.ntmps96
 go_wp2
 go_loopw [4] (fun i w'=>∃ (t:Nat) (z:Int) (m:Nat→Int),t≤256∧z=(t:Int)-1∧i=.int .i64 z∧VInv a w t m w') (fun i _=>(intOf i+1).toNat)
 case atStart=>exact ⟨256,255,one 1,by omega,by decide,rfl,⟨one_in 1 (by decide) (by decide),by rw [E_top,Int.pow_zero,val_one],((Has.new w _ _ _ _ _ rfl).alloc _ (by simp)).alloc _ (by simp; omega),(has_zero _ _ _ (by simp)).alloc _ (by simp),has_one _ _ _ (by simp),(((Fr.refl w).alloc _).alloc _).alloc _⟩⟩
 case round =>
  obtain ⟨t,z,m,ht,hz,rfl,hI⟩:=hrel
  by_cases hlt:0<t
  · obtain ⟨s,rfl⟩:∃ s,t=s+1:=⟨t-1,by omega⟩
    obtain rfl:z=(s:Int):=by omega
    have hn':=hI.hn
    have g1:(0:Int)≤(s:Int):=by omega
    have g2:(s:Int)<256:=by omega
    clear hz hlt
    go_wp2_with (refine wpList_load_mid rfl 116 _ rfl (w.heap.size+1+1) 0 rfl (row .u64 4 (m)) _ (Has.range (hn')) Tryz.underlying116 rfl (num_info _) ?_)
    refine (product_any m m hI.inn hI.inn _).mono ?_; rintro e w1 ⟨m1,rfl,s1,l1⟩; have hn1:=hn'.call hI.fr l1 (by omega); have hg2:=(hg.fr ((hI.fr.call l1).setAll (w.heap.size+1+1) (by omega) (row .u64 4 m1))).power (s/64) (by omega); have HB:=show Hid _ from bit_of s (by omega); have y1:=eW_in (s/64) (by omega); have hm2:=Has.all hn1.there .u64 m1
    have ha2:=(hI.ha.call hI.fr l1 (by omega)).setAll_other (w.heap.size+1+1) (by omega) 0 (row .u64 4 m1); have i1:=s1.1; have H1:=show Hid _ from s1; have HI:=show Hid _ from hI; clear s1 hn' hI; generalize eW (s/64)=y at *; have hT:=bit_test y y1.1 y1.2 (s%64)
    have tok:True:=trivial
    cases hb:(bits BinOp.and IntKind.u64 (y/2^(s%64)) 1 == 1)
    · have hodd:E/2^s%2=0:=by
       rw [hb] at hT
       have h2:¬ (y.toNat/2^(s%64)%2=1):=by simpa using hT.symm
       have h3:=HB.out
       omega
      have HO:=show Hid _ from hodd; clear hT hodd hm2 ha2
      go_wp2_with (have _t:=tok; refine wpList_store_mid rfl 116 _ _ rfl (w.heap.size+1+1) 0 (row .u64 4 (m1)).toArray rfl rfl (num_there (hn1)) (num_info' _) (all_oneCell_toArray (row_one _ _ _)) ?_; clear tok)
      go_roundw
      case rel=>exact ⟨s,(s:Int)-1,m1,by omega,rfl,rfl,HI.out.even l1 H1.out HO.out⟩
      case measure=>simp [intOf]
    · have hodd:E/2^s%2=1:=by
       rw [hb] at hT
       have h2:y.toNat/2^(s%64)%2=1:=by simpa using hT.symm
       have h3:=HB.out
       omega
      have HO:=show Hid _ from hodd; clear hT hodd
      go_wp2_with (first | (have _t:=tok; refine wpList_store_mid rfl 116 _ _ rfl (w.heap.size+1+1) 0 (row .u64 4 (m1)).toArray rfl rfl (num_there (hn1)) (num_info' _) (all_oneCell_toArray (row_one _ _ _)) ?_; clear tok) | (refine wpList_load_mid rfl 116 _ rfl (w.heap.size+1+1) 0 rfl (row .u64 4 (m1)) _ (Has.range (hm2)) Tryz.underlying116 rfl (num_info _) ?_) | (refine wpList_load_mid rfl 116 _ rfl (w.heap.size) 0 rfl (row .u64 4 (a)) _ (Has.range (ha2)) Tryz.underlying116 rfl (num_info _) ?_))
      refine (product_any m1 a i1 ha _).mono ?_; rintro e w2 ⟨m2,rfl,s2,l2⟩; have hn2:=hm2.below l2 (by rw [size_setAll]; have:=(HI.out.fr.call l1).size; omega); have H2:=show Hid _ from s2; clear s2 hm2 ha2 hg2 hn1
      go_wp2_with (refine wpList_store_mid rfl 116 _ _ rfl (w.heap.size+1+1) 0 (row .u64 4 (m2)).toArray rfl rfl (num_there (hn2)) (num_info' _) (all_oneCell_toArray (row_one _ _ _)) ?_)
      go_roundw
      case rel=>exact ⟨s,(s:Int)-1,m2,by omega,rfl,rfl,HI.out.odd l1 H1.out l2 H2.out HO.out⟩
      case measure=>simp [intOf]
  · obtain rfl:t=0:=by omega
    obtain rfl:z=-1:=by omega
    have hn':=hI.hn
    have hz':=hI.hr
    have he:val W m 4%kQ=val W a 4^E%kQ:=by have e:=hI.eq; rwa [Nat.pow_zero,Nat.div_one] at e
    have HE:=show Hid _ from he; clear he hz hlt ht
    go_wp2_with (first | (refine wpList_load_mid rfl 116 _ rfl (w.heap.size+1+1) 0 rfl (row .u64 4 (m)) _ (Has.range (hn')) Tryz.underlying116 rfl (num_info _) ?_) | (refine wpList_store_mid rfl 116 _ _ rfl (w.heap.size+1) 0 (row .u64 4 (m)).toArray rfl rfl (num_there (hz')) (num_info' _) (all_oneCell_toArray (row_one _ _ _)) ?_))
    exact bodyPost_ret (v:=(.agg (row .u64 4 (m)).toArray)) (results_row Tryz.results96 rfl (Has.all hz'.there .u64 m).range Tryz.underlying116 rfl (num_info m)) rfl ⟨m,rfl,⟨hI.inn,HE.out⟩,(hI.fr.setAll _ (by omega) _).below⟩
end Go.Proofs.YtklnibmfpcmeeaaGreatDoor
