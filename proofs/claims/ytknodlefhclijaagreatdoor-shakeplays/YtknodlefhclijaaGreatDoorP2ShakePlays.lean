/- Texts of Ca Ct Float Cw Sr Cb Cz Pa Hold Gn Ar Ow Pm Ha Ia, joined. -/
import Derived.Test.YtknodlefhclijaaGreatDoorP1ShakePlays
import Derived.Lib.SlBytesConst
set_option maxRecDepth 20000
set_option maxHeartbeats 64000000
namespace Go.Proofs.YtknodlefhclijaaGreatDoor
open Go.RowKit
theorem tU (a:Nat→Int) (ha:In 256 17 a) (w:World) :
 Calls Tryz.prog 167 #[(.agg (row .u8 17 (a)).toArray)] w fun e w'=>∃ m:Nat→Int,e=.returned (.agg (row .u64 3 (m)).toArray)∧(sF m∧val W m 3%Q=val 256 a 17%Q)∧Below w.heap.size w w':=by
 have K:=Kr.init w; replace K:=K.box .u8 17 a 158 (w.heap.size) rfl; replace K:=K.make 3 #[.int .u64 0,.int .u64 0,.int .u64 0] 187 (w.heap.size+1) Jf (zP _ _ _ Jf).there
 go_enter Tryz.func167,Tryz.ntmps167
 go_upto_region 1 with fail; refine wR ?_; refine tJ .u8 17 (a) (w.heap.size) 0 158 _ _ rfl rfl rfl Tryz.underlying158 rfl (jL _) (K.get _ _ _ _ mS).range (nL ?_); refine xcL (wJ a ha _) ?_; rintro e w1 ⟨m1,rfl,s1,l⟩; replace K:=K.call l; clear l; refine xeL ?_; refine xcL (dC m1 s1.1 (by have:=s1.2.1; omega) _) ?_
 rintro e w2 ⟨m,rfl,s2,l⟩; replace K:=K.call l; clear l; refine xeL ?_; refine ysL .u64 3 m (w.heap.size+1) (K.roomy _ _ _ _ mS) (yP _) ?_; have HE:=show Hid _ from (And.intro s2.1 (show val W m 3%Q=val 256 a 17%Q by rw [s2.2,s1.2.2])); have hz:=(K.room _ mS).1; have hB:=(K.fill _ _ mS (row .u64 3 m)).below; clear K s1 s2
 show Exit.then _ _ _ _ _; go_wp2
 exact bRq (v:=(.agg (row .u64 3 (m)).toArray)) (jQ Tryz.results167 rfl (Has.all hz .u64 m).range Tryz.underlying187 rfl (xD m)) rfl ⟨m,rfl,HE.out,hB⟩
theorem q2t (x:Int):x%Q%87112285931760246646623899502532662132736=x%Q:=by simp only [Q]; omega
theorem j0b (n:Nat→Int) (hn:sF n) (w:World) (hg:Glob w) :
 Calls Tryz.prog 165 #[(.agg (row .u64 3 (n)).toArray)] w fun e w'=>∃ f:Nat→Int,e=.returned (.agg (row .u8 17 (f)).toArray)∧(In 256 17 f∧val 256 f 17=val W n 3%Q)∧Below w.heap.size w w':=by
 have K:=Kr.init w; replace K:=K.box .u64 3 n 187 (w.heap.size) rfl; replace K:=K.make 17 jF 158 (w.heap.size+1) Jf (jE _ _ _ Jf).there
 go_enter Tryz.func165,Tryz.ntmps165
 go_upto_region 1 with fail; refine wR ?_; refine tJ .u64 3 (n) (w.heap.size) 0 187 _ _ rfl rfl rfl Tryz.underlying187 rfl (xD _) (K.get _ _ _ _ mS).range (nL ?_); refine xcL (eF n hn.1 hn.2 _ (hg.below K.below hg.size)) ?_; rintro e w1 ⟨m1,rfl,s1,l⟩; replace K:=K.call l; clear l; refine xeL ?_; refine clT (j4g m1 _) K ?_; clear K; intro w2 K
 have s2:In 256 17 (zH m1)∧val 256 (zH m1) 17=val W n 3%Q:=⟨eQ m1,by rw [wL m1 s1.1,s1.2,q2t]⟩
 generalize zH m1=f at *; refine ysL .u8 17 f (w.heap.size+1) (K.roomy _ _ _ _ mS) (qX _) ?_; have HE:=show Hid _ from s2; have hz:=(K.room _ mS).1; have hB:=(K.fill _ _ mS (row .u8 17 f)).below; clear K s1 s2; show Exit.then _ _ _ _ _; go_wp2
 exact bRq (v:=(.agg (row .u8 17 (f)).toArray)) (jQ Tryz.results165 rfl (Has.all hz .u8 f).range Tryz.underlying158 rfl (jL f)) rfl ⟨f,rfl,HE.out,hB⟩
theorem pH {n:Nat→Int} (h:sF n):0≤val W n 3∧val W n 3≤FB:=⟨(qE W JG n 3 h.1).1,h.2⟩
theorem q0a {n:Nat→Int} (h:In W 3 n) (hv:val W n 3<174224571863520493293247799005065324265472):n 2<512:=by
 have v:=v3 n; have p0:=h 0 JK; have p1:=h 1 JK; generalize n 0=x0 at *; generalize n 1=x1 at *; generalize n 2=x2 at *
 omega
theorem q6b (a b:Nat→Int) (ha:In 256 17 a) (hb:In 256 17 b) (w:World) (hg:Glob w) :
 Calls Tryz.prog 150 #[(.agg (row .u8 17 (a)).toArray),(.agg (row .u8 17 (b)).toArray)] w fun e w'=>∃ f:Nat→Int,e=.returned (.agg (row .u8 17 (f)).toArray)∧(In 256 17 f∧val 256 f 17=(val 256 a 17+val 256 b 17)%Q)∧Below w.heap.size w w':=by
 have K:=Kr.init w; replace K:=K.box .u8 17 a 158 (w.heap.size) rfl; replace K:=K.box .u8 17 b 158 (w.heap.size+1) Jf; replace K:=K.make 17 jF 158 (w.heap.size+1+1) Jf (jE _ _ _ Jf).there
 go_enter Tryz.func150,Tryz.ntmps150
 go_upto_region 1 with fail; refine wD (S:=fun w'=>Kr w _ [(w.heap.size+1,.u8,17,b),(w.heap.size,.u8,17,a)] [(w.heap.size+1+1,17)] w') JU K.drew ?_; clear K; intro K
 refine ykH 0 5 .u8 17 (a) (w.heap.size) 0 Tryz.underlying158 (jL _) K (fun _ h=>(h.get _ _ _ _ (mT _ mS)).range) ?_
 refine ykH 2 7 .u8 17 (b) (w.heap.size+1) 0 Tryz.underlying158 (jL _) K (fun _ h=>(h.get _ _ _ _ mS).range) ?_; refine yaH 1 6 (tU a ha _) ?_
 rintro e w1 ⟨m1,rfl,s1,l⟩; replace K:=K.call l; clear l
 refine ⟨_,rfl,K,nH ?_⟩
 refine yaH 3 8 (tU b hb _) ?_; rintro e w2 ⟨m2,rfl,s2,l⟩; replace K:=K.call l; clear l
 refine ⟨_,rfl,K,nH ?_⟩
 have z1:=pH s1.1; have z2:=pH s2.1
 simp only [FB] at z1 z2
 refine yaH 4 9 (pJ m1 m2 s1.1.1 s2.1.1 (by rw [W3]; omega) _) ?_; rintro e w3 ⟨m3,rfl,s3,l⟩; replace K:=K.call l; clear l
 refine ⟨_,rfl,K,nH ?_⟩
 refine yaH 5 10 (dC m3 s3.1 (q0a s3.1 (by have:=s3.2; omega)) _) ?_; rintro e w4 ⟨m4,rfl,s4,l⟩; replace K:=K.call l; clear l
 refine ⟨_,rfl,K,nH ?_⟩
 refine yaH 6 11 (j0b m4 s4.1 _ (hg.below K.below hg.size)) ?_; rintro e w5 ⟨f,rfl,s5,l⟩; replace K:=K.call l; clear l
 refine ⟨_,rfl,K,nH ?_⟩
 refine xX (i:=7) none rfl .u8 17 f (w.heap.size+1+1) 158 _ _ JU rfl rfl rfl rfl rfl (K.roomy _ _ _ _ mS) (qX _) (K.fill _ _ mS _) ?_
 refine wE JU ?_ _
 have HE:=show Hid _ from (And.intro s5.1 (show val 256 f 17=(val 256 a 17+val 256 b 17)%Q by rw [s5.2,s4.2,s3.2,Int.add_emod,s1.2,s2.2,← Int.add_emod])); have hz:=(K.room _ mS).1; have hB:=(K.fill _ _ mS (row .u8 17 f)).below; clear K s1 s2 s3 s4 s5 z1 z2; go_wp2
 exact bRq (v:=(.agg (row .u8 17 (f)).toArray)) (jQ Tryz.results150 rfl (Has.all hz .u8 f).range Tryz.underlying158 rfl (jL f)) rfl ⟨f,rfl,HE.out,hB⟩
theorem q5x (a b:Nat→Int) (ha:In 256 17 a) (hb:In 256 17 b) (w:World) (hg:Glob w) :
 Calls Tryz.prog 149 #[(.agg (row .u8 17 (a)).toArray),(.agg (row .u8 17 (b)).toArray)] w fun e w'=>∃ f:Nat→Int,e=.returned (.agg (row .u8 17 (f)).toArray)∧(In 256 17 f∧val 256 f 17=(val 256 a 17*val 256 b 17)%Q)∧Below w.heap.size w w':=by
 have K:=Kr.init w; replace K:=K.box .u8 17 a 158 (w.heap.size) rfl; replace K:=K.box .u8 17 b 158 (w.heap.size+1) Jf; replace K:=K.make 17 jF 158 (w.heap.size+1+1) Jf (jE _ _ _ Jf).there
 go_enter Tryz.func149,Tryz.ntmps149
 go_upto_region 1 with fail; refine wD (S:=fun w'=>Kr w _ [(w.heap.size+1,.u8,17,b),(w.heap.size,.u8,17,a)] [(w.heap.size+1+1,17)] w') JU K.drew ?_; clear K; intro K
 refine ykH 0 5 .u8 17 (a) (w.heap.size) 0 Tryz.underlying158 (jL _) K (fun _ h=>(h.get _ _ _ _ (mT _ mS)).range) ?_
 refine ykH 2 7 .u8 17 (b) (w.heap.size+1) 0 Tryz.underlying158 (jL _) K (fun _ h=>(h.get _ _ _ _ mS).range) ?_; refine yaH 1 6 (tU a ha _) ?_
 rintro e w1 ⟨m1,rfl,s1,l⟩; replace K:=K.call l; clear l
 refine ⟨_,rfl,K,nH ?_⟩
 refine yaH 3 8 (tU b hb _) ?_; rintro e w2 ⟨m2,rfl,s2,l⟩; replace K:=K.call l; clear l
 refine ⟨_,rfl,K,nH ?_⟩
 refine yaH 4 9 (j2f m1 m2 s1.1.1 s2.1.1 s1.1.2 s2.1.2 _) ?_; rintro e w3 ⟨m3,rfl,s3,l⟩; replace K:=K.call l; clear l
 refine ⟨_,rfl,K,nH ?_⟩
 refine yaH 5 10 (j0b m3 s3.1 _ (hg.below K.below hg.size)) ?_; rintro e w5 ⟨f,rfl,s5,l⟩; replace K:=K.call l; clear l
 refine ⟨_,rfl,K,nH ?_⟩
 refine xX (i:=6) none rfl .u8 17 f (w.heap.size+1+1) 158 _ _ JU rfl rfl rfl rfl rfl (K.roomy _ _ _ _ mS) (qX _) (K.fill _ _ mS _) ?_
 refine wE JU ?_ _
 have HE:=show Hid _ from (And.intro s5.1 (show val 256 f 17=(val 256 a 17*val 256 b 17)%Q by rw [s5.2,s3.2,Int.mul_emod,s1.2,s2.2,← Int.mul_emod])); have hz:=(K.room _ mS).1; have hB:=(K.fill _ _ mS (row .u8 17 f)).below; clear K s1 s2 s3 s5; go_wp2
 exact bRq (v:=(.agg (row .u8 17 (f)).toArray)) (jQ Tryz.results149 rfl (Has.all hz .u8 f).range Tryz.underlying158 rfl (jL f)) rfl ⟨f,rfl,HE.out,hB⟩
theorem xP (f:Nat→Int):(Tryz.prog.info? 120).map (·.size)=some (row .u8 16 f).length:=by rw [jX]; kernel_rfl
theorem xM (f:Nat→Int):(Tryz.prog.info? 120).map (·.size)=some (row .u8 16 f).toArray.size:=by rw [xA]; exact xP f
theorem sP {w:World} {b:Nat} {f g:Nat→Int} (h:Has w b .u8 16 f):w.there b 0 (row .u8 16 g).toArray.size:=by rw [xA,jX]; exact h.there
theorem xQ (w:World) (t:TypeId) (b:Nat) (hb:b=w.heap.size):Has (w.alloc (.cells qR t)) b .u8 16 (fun _=>0):=Has.new w .u8 16 (fun _=>0) t b hb
def qJ (r:Nat→Int):Nat→Int:=fun j=>if j%4=3 then r j%16 else if j%4=0∧0<j then r j/4*4 else r j
theorem j2r (r:Nat→Int) (h:In 256 16 r):In 256 16 (qJ r):=fun j hj=>by
 have:=h j hj
 unfold qJ
 split
 · omega
 · split
   · omega
   · exact this
theorem x4e:∀ x:Fin 256,bits BinOp.and IntKind.u8 (x.val:Int) 15=(x.val:Int)%16:=by decide +kernel
theorem q9t:∀ x:Fin 256,bits BinOp.and IntKind.u8 (x.val:Int) 252=(x.val:Int)/4*4:=by decide +kernel
theorem q9s:∀ x:Fin 256,bits BinOp.and IntKind.u8 (x.val:Int) 255=(x.val:Int):=by decide +kernel
theorem x1e (x:Int) (h:0≤x∧x<256):bits BinOp.and IntKind.u8 x 15=x%16:=by
 obtain ⟨n,rfl⟩:=xiN h.1
 exact x4e ⟨n,by omega⟩
theorem q6x (x:Int) (h:0≤x∧x<256):bits BinOp.and IntKind.u8 x 252=x/4*4:=by
 obtain ⟨n,rfl⟩:=xiN h.1
 exact q9t ⟨n,by omega⟩
theorem x4f (x:Int) (h:0≤x∧x<256):bits BinOp.and IntKind.u8 x 255=x:=by
 obtain ⟨n,rfl⟩:=xiN h.1
 exact q9s ⟨n,by omega⟩
theorem q6w (r:Nat→Int) (h:In 256 16 r) (j:Nat) (hj:j<16):bits BinOp.and IntKind.u8 (r j) (sQ j)=qJ r j:=by
 have hr:=h j hj
 by_cases a:j%4=3
 · have e1:sQ j=15:=by unfold sQ; rw [if_pos JK]
   have e2:qJ r j=r j%16:=by unfold qJ; rw [if_pos a]
   rw [e1,e2,x1e _ hr]
 by_cases b:j%4=0∧0<j
 · have e1:sQ j=252:=by unfold sQ; rw [if_neg JK,if_pos JK]
   have e2:qJ r j=r j/4*4:=by unfold qJ; rw [if_neg a,if_pos b]
   rw [e1,e2,q6x _ hr]
 have e1:sQ j=255:=by unfold sQ; rw [if_neg JK,if_neg JK]
 have e2:qJ r j=r j:=by unfold qJ; rw [if_neg a,if_neg b]
 rw [e1,e2,x4f _ hr]
structure TInv (r g:Nat→Int) (w:World) (k:Nat) (f:Nat→Int) (w':World):Prop where
 done:∀ j,j<k→f j=g j
 rest:∀ j,k≤j→f j=r j
 ha:Has w' w.heap.size .u8 16 f
 hr:Has w' (w.heap.size+1) .u8 16 (fun _=>0)
 fr:Fr w 2 w'
theorem TInv.step {r g:Nat→Int} {w:World} {k:Nat} {f:Nat→Int} {w':World} (h:TInv r g w k f w') (hk:k<16):TInv r g w (k+1) (upd f k (g k)) (w'.setCell ⟨w.heap.size,k,none⟩ (.int .u8 (g k))):=by
 refine ⟨fun j hj=>?_,fun j hj=>?_,h.ha.set k hk _,h.hr.set_other _ _ Jf,h.fr.set _ _ Jf⟩
 · by_cases e:j=k
   · exact Zz
   exact Qm
 exact Qi
theorem TInv.drew {r g:Nat→Int} {w:World} {k:Nat} {f:Nat→Int} {w':World} (h:TInv r g w k f w'):TInv r g w k f w'.drew:=⟨h.done,h.rest,h.ha.drew,h.hr.drew,h.fr.drew⟩
theorem TInv.skip {r g:Nat→Int} {w:World} {k:Nat} {f:Nat→Int} {w':World} (h:TInv r g w k f w') (e:g k=r k):TInv r g w (k+1) f w':=by
 refine ⟨fun j hj=>?_,fun j hj=>h.rest j JK,h.ha,h.hr,h.fr⟩
 by_cases x:j=k
 · subst x; rw [h.rest j (xnR j),e]
 exact h.done j JK
theorem q1l (r:Nat→Int) (hr:In 256 16 r) (w:World) (hg:Glob w) :
 Calls Tryz.prog 164 #[(.agg (row .u8 16 (r)).toArray)] w fun e w'=>e=.returned (.agg (row .u8 16 (qJ r)).toArray)∧Below w.heap.size w w':=by
 go_enter Tryz.func164,Tryz.ntmps164
 go_wp2
 go_loopw [4] (fun i w'=>∃ (k:Nat) (f:Nat→Int),k≤16∧i=.int .i64 k∧TInv r (qJ r) w k f w') (fun i _=>16-(intOf i).toNat)
 case atStart=>exact ⟨0,r,by omega,rfl,⟨fun j hj=>by omega,fun _ _=>rfl,(Has.new w _ _ _ _ _ rfl).alloc _ Jf,xQ _ _ _ Jf,((Fr.refl w).alloc _).alloc _⟩⟩
 case round =>
  obtain ⟨k,f,hk,rfl,hI⟩:=hrel; by_cases hlt:k<16
  · have hS:=(hI.step hlt).drew; have hb:=q6w r hr k hlt; rw [← hI.rest k (xnR k)] at hb; rw [← hb] at hS; have HS:=show Hid _ from hS; have c1:=hI.ha.cell k hlt; have c2:=(hg.fr hI.fr).kept k hlt; have f1:=hI.ha.free k hlt
    have g1:(0:Int)≤(k:Int):=by omega
    have g2:(k:Int)<16:=by omega
    clear hI hS hb; generalize f k=x at *; generalize sQ k=y at *; go_wp2; go_region; go_wp2; exact QW
  obtain rfl:k=16:=by omega
  have ha:=hI.ha.congr (g:=qJ r) (fun j hj=>hI.done j hj); have hz:=hI.hr; have hB:=(hI.fr.setAll (w.heap.size+1) JK (row .u8 16 (qJ r))).below; clear hI hlt hk; go_wp2_with (first | (refine yl (ha) Tryz.underlying120 (xP _) ?_) | (refine ys .u8 16 (qJ r) (sP (hz)) (xM _) ?_)); exact bRq (v:=(.agg (row .u8 16 (qJ r)).toArray)) (jQ Tryz.results164 rfl (Has.all hz.there .u8 _).range Tryz.underlying120 rfl (xP _)) rfl ⟨rfl,hB⟩
section
structure Fb (n w0 B:Nat) (w:World):Prop where
 lo:w0≤B
 hi:B<w.heap.size
 th:w.there B 0 n
theorem Fb.call {n w0 B:Nat} {w w':World} (h:Fb n w0 B w) (l:Below w.heap.size w w'):Fb n w0 B w':=⟨h.lo,xnL h.hi l.size,xF h.th l h.hi⟩
theorem Fb.alloc {n w0 B:Nat} {w:World} (h:Fb n w0 B w) (o:Obj):Fb n w0 B (w.alloc o):=h.call ((Below.refl w.heap.size w).alloc (xnR _) o)
theorem Kr.land {w w':World} {m:Nat} {l:List (Nat × IntKind × Nat × (Nat→Int))} {R:List (Nat × Nat)} (h:Kr w m l R w') {n B:Nat} (b:Fb n m B w') (k:IntKind) (f:Nat→Int) :
 Kr w w'.heap.size ((B,k,n,f)::l) R (w'.setCells B 0 (row k n f)):=by
 have hc:=h.past B b.lo (row k n f); have i1:=b.hi; have j1:=b.lo
 refine ⟨fun p hp=>?_,fun q hq=>⟨(hc.room q hq).1,xnL (hc.room q hq).2.1 h.size,(hc.room q hq).2.2⟩,fun p hp q hq=>?_,by rw [jN]; exact xnR _,xnT h.base h.size,hc.below⟩
 · rcases xc1 hp with rfl | hp
   · exact ⟨Has.all b.th k f,i1⟩
   exact ⟨(hc.rows p hp).1,xnL (h.rows p hp).2 h.size⟩
 have:=(h.room q hq).2.1
 rcases xc1 hp with rfl | hp
 · simp only; omega
 exact h.apart p hp q hq
section
variable {P:Program} {ops:Array Oper} {Q:Exit→Act→World→Prop} {md:Region.Mode} {S:World→Prop}
theorem gA {i:Nat} {oi:Oper} {f:FuncId} {args:Array Value} {R:Ending→World→Prop} {K:Act→World→Prop} {a:Act} {w:World} (hi:ops[i]?=some oi) (hg:oi.guard=none) (he:(execOp a.eval oi).run P w=.ok (.enter f args) w)
 (hc:Calls P f args w R) (hK:∀ e w',R e w'→∃ v,e=.returned v∧K (a.put oi.dst v) w'):wpOp P ops Q i K a w:=by
 have hw:Region.wanted oi (yielded ops a.tmps)=true:=by unfold Region.wanted; rw [hg]
 unfold wpOp
 simp only [hi,hw,if_true]; refine .inl ?_
 unfold Oper.wp
 rw [he]
 exact hc.mono fun e w' hR=>by
  obtain ⟨v,rfl,h⟩:=hK e w' hR; exact h
theorem zC {i:Nat} {oi:Oper} {v:Value} {K:Act→World→Prop} {a:Act} {w w':World} (hi:ops[i]?=some oi) (hg:oi.guard=none) (he:(execOp a.eval oi).run P w=.ok (.value v) w')
 (h:K (a.put oi.dst v) w'):wpOp P ops Q i K a w:=by
 have hw:Region.wanted oi (yielded ops a.tmps)=true:=by unfold Region.wanted; rw [hg]
 unfold wpOp
 simp only [hi,hw,if_true]; exact Xt
theorem yF {fuel:Nat} {l l':Array Bool} {a a':Act} {w:World} (h:wpAnyH P md ops Q S fuel l a w) (el:l'=l) (ea:a'=a):wpAnyH P md ops Q S fuel l' a' w:=by subst el ea; exact h
theorem pF {a:Act} {o:Oper} (x y:Tmp) (u v:Value) (hs:∀ cs b,o.op≠.select cs b) (h1:x∉o.looksAt ops) (h2:y∉o.looksAt ops):execOp ((a.put (some x) u).put (some y) v).eval o=execOp a.eval o:=by
 rw [execOp_put (ops:=ops) o hs _ _ _ (fun d hd=>by injection hd with hd; subst hd; exact h2),execOp_put (ops:=ops) o hs _ _ _ Ga]
theorem sY {a:Act} {o:Oper} (x:Tmp) (u:Value) (hs:∀ cs b,o.op≠.select cs b) (h1:x∉o.looksAt ops):execOp (a.put (some x) u).eval o=execOp a.eval o :=
 execOp_put (ops:=ops) o hs _ _ _ Ga
theorem yL (a:Act) {x y:Tmp} (v u:Value) (h:x≠y):(a.put (some x) v).put (some y) u=(a.put (some y) u).put (some x) v :=
 Act.put_comm a v u (fun d hd e=>by injection hd with hd; injection e with e; exact h (hd.trans e.symm))
def Chain (P:Program) (ops:Array Oper) (Q:Exit→Act→World→Prop) (md:Region.Mode) (S:World→Prop) (z:Nat) (t:Tmp) (n w0 fuel:Nat):Nat→Array Bool→Act→Prop
 | 0,L,a=>Region.ready md ops L=[z]∧∀ B w,S w→Fb n w0 B w→wpAnyH P md ops Q S fuel (L.setIfInBounds z true) (a.put (some t) (.pointer (some ⟨B,0,none⟩))) w
 | k+1,L,a=>∃ (c:Nat) (r:Tmp) (x:Oper) (f:FuncId) (g:Array Value) (V:Value→Prop),Region.ready md ops L=[c,z]∧Region.ready md ops (L.setIfInBounds z true)=[c]∧ops[c]?=some x∧x.guard=none∧x.dst=some r∧z≠c∧t≠r∧(∀ cs b,x.op≠.select cs b)∧t∉x.looksAt ops∧(∀ w,(execOp a.eval x).run P w=.ok (.enter f g) w) ∧
    (∀ w,S w→Calls P f g w fun e w'=>∃ v,e=.returned v∧V v∧Below w.heap.size w w')∧∀ v,V v→Chain P ops Q md S z t n w0 fuel k (L.setIfInBounds c true) (a.put (some r) v)
theorem Chain.last {z:Nat} {t:Tmp} {n w0 fuel:Nat} {L:Array Bool} {a:Act} (hr:Region.ready md ops L=[z]) (h:∀ B w,S w→Fb n w0 B w→wpAnyH P md ops Q S fuel (L.setIfInBounds z true) (a.put (some t) (.pointer (some ⟨B,0,none⟩))) w):Chain P ops Q md S z t n w0 fuel 0 L a:=⟨hr,h⟩
theorem Chain.call {z:Nat} {t:Tmp} {n w0 fuel k:Nat} {L:Array Bool} {a:Act} (c:Nat) (r:Tmp) {x:Oper} {f:FuncId} {g:Array Value} (V:Value→Prop) (hr:Region.ready md ops L=[c,z]) (hr':Region.ready md ops (L.setIfInBounds z true)=[c]) (hx:ops[c]?=some x) (hg:x.guard=none) (hd:x.dst=some r)
 (hz:z≠c) (ht:t≠r) (hs:∀ cs b,x.op≠.select cs b) (hl:t∉x.looksAt ops) (he:∀ w,(execOp a.eval x).run P w=.ok (.enter f g) w)
 (hc:∀ w,S w→Calls P f g w fun e w'=>∃ v,e=.returned v∧V v∧Below w.heap.size w w') (h:∀ v,V v→Chain P ops Q md S z t n w0 fuel k (L.setIfInBounds c true) (a.put (some r) v)):Chain P ops Q md S z t n w0 fuel (k+1) L a :=
 ⟨c,r,x,f,g,V,hr,hr',hx,hg,hd,hz,ht,hs,hl,he,hc,h⟩
theorem Chain.made {z:Nat} {t:Tmp} {n w0 fuel k:Nat} {L:Array Bool} {a:Act} (h:Chain P ops Q md S z t n w0 fuel k L a) (hSc:∀ w w',S w→Below w.heap.size w w'→S w') :
 ∀ B w,S w→Fb n w0 B w→wpAnyH P md ops Q S (fuel+k) (L.setIfInBounds z true) (a.put (some t) (.pointer (some ⟨B,0,none⟩))) w:=by
 induction k generalizing L a with
 | zero=>exact fun B w hS hB=>h.2 B w hS hB
 | succ k ih =>
   obtain ⟨c,r,x,f,g,V,_,hr',hx,hg,hd,hz,ht,hs,hl,he,hc,h'⟩:=h; intro B w hS hB; refine wpAnyH_all hr' Jf fun j hj=>?_
   obtain rfl:=xm1 hj; refine gA hx hg (by rw [sY (ops:=ops) t _ hs hl]; exact he w) (hc w hS) fun e w' hR=>?_
   obtain ⟨v,rfl,hv,l⟩:=hR; have hs1:=hSc _ _ hS l; refine ⟨v,rfl,hs1,?_⟩; rw [hd]; refine yF (ih (h' v hv) B w' hs1 (hB.call l)) ?_ ?_
   · rw [Array.setIfInBounds_comm _ _ hz]
   rw [yL _ _ _ ht]
theorem Chain.go {z:Nat} {t:Tmp} {n w0 fuel k:Nat} {L:Array Bool} {a:Act} (h:Chain P ops Q md S z t n w0 fuel k L a) {xz:Oper} (cs:Array Value) (ty:TypeId) (iz:ops[z]?=some xz) (gz:xz.guard=none) (dz:xz.dst=some t)
 (ez:∀ (b:Act) (w:World),(execOp b.eval xz).run P w=.ok (.value (.pointer (some ⟨w.heap.size,0,none⟩))) (w.alloc (.cells cs ty)))
 (hn:∀ w:World,(w.alloc (.cells cs ty)).there w.heap.size 0 n) (hS0:∀ w,S w→w0≤w.heap.size) (hSc:∀ w w',S w→Below w.heap.size w w'→S w') :
 ∀ w,S w→wpAnyH P md ops Q S (fuel+k+1) L a w:=by
 have hSa:∀ w:World,S w→S (w.alloc (.cells cs ty)):=fun w h=>hSc w _ h ((Below.refl w.heap.size w).alloc (xnR _) _)
 have hNew:∀ w:World,S w→Fb n w0 w.heap.size (w.alloc (.cells cs ty)):=fun w h=>⟨hS0 w h,by simp,hn w⟩
 induction k generalizing L a with
 | zero =>
   intro w hS; refine wpAnyH_all h.1 Jf fun j hj=>?_
   obtain rfl:=xm1 hj; refine zC iz gz (ez _ w) ?_; rw [dz]; exact ⟨hSa _ hS,h.2 _ _ (hSa _ hS) (hNew _ hS)⟩
 | succ k ih =>
   obtain ⟨c,r,x,f,g,V,hr,hr',hx,hg,hd,hz,ht,hs,hl,he,hc,h'⟩:=h; intro w hS; refine wpAnyH_all hr Jf fun j hj=>?_
   simp only [List.mem_cons,List.not_mem_nil,or_false] at hj; rcases hj with rfl | rfl
   · refine gA hx hg (he w) (hc w hS) fun e w' hR=>?_
     obtain ⟨v,rfl,hv,l⟩:=hR; have hs1:=hSc _ _ hS l; refine ⟨v,rfl,hs1,?_⟩; rw [hd]; exact ih (h' v hv) w' hs1
   refine zC iz gz (ez _ w) ?_; rw [dz]; exact ⟨hSa _ hS,Chain.made (Chain.call c r V hr hr' hx hg hd hz ht hs hl he hc h') hSc _ _ (hSa _ hS) (hNew _ hS)⟩
theorem rY {i:Nat} {oi:Oper} (dst:Option Tmp) (hdst:oi.dst=dst) {fuel:Nat} {listed:Array Bool} {a:Act} {w w':World} (v:Value) (hr:Region.ready md ops listed=[i]) (hi:ops[i]?=some oi)
 (hw:Region.wanted oi (yielded ops a.tmps)=true) (he:(execOp a.eval oi).run P w=.ok (.value v) w') (hS:S w')
 (h:wpAnyH P md ops Q S fuel (listed.setIfInBounds i true) (a.put dst v) w'):wpAnyH P md ops Q S (fuel+1) listed a w :=
 ⟨fun h0=>Vh,fun j hj=>by
  rw [hr] at hj
  obtain rfl:=xm1 hj
  unfold wpOp
  simp only [hi,hw,if_true]; refine .inl ?_
  unfold Oper.wp
  rw [he]
  subst hdst
  exact ⟨hS,h⟩⟩
theorem sS {o:Oper} {rest:List Oper} {a:Act} {w w':World} (v:Value) (hw:Region.wanted o (yielded ops a.tmps)=true) (he:(execOp a.eval o).run P w=.ok (.value v) w')
 (h:wpList P ops Q rest (a.put o.dst v) w'):wpList P ops Q (o::rest) a w:=by
 unfold wpList
 rw [if_pos hw]
 exact Xt
theorem j3a {o:Oper} {a:Act} {w:World} (d s:Operand) (dT sT elem:TypeId) (ho:o.op=.call { callee:=.builtin .copy,args:=#[d,s],argTypes:=#[dT,sT] }) (hu:P.underlying dT=some (.slice elem)) (hsz:(P.info? elem).map (·.size)=some 1)
 (b dLen dCap c co sLen sCap m n:Nat) (k:IntKind) (f g:Nat→Int) (hd:a.eval d=.slice (some ⟨b,0,none⟩) dLen dCap) (hs:a.eval s=.slice (some ⟨c,co,none⟩) sLen sCap) (hm:m=Nat.min sLen dLen) (hmn:m≤n) (hb:w.there b 0 n)
 (hc:∀ j,j<m→w.cell? ⟨c,co+j,none⟩=some (.int k (f (co+j)))) (hg:∀ j,j<m→f (co+j)=g j) :
 (execOp a.eval o).run P w=.ok (.value (.int .i64 (m:Int))) (w.setCells b 0 (row k m g)):=by
 have hrun:=run_copy_cells (P:=P) w dT sT o.type elem b 0 dLen dCap ⟨c,co,none⟩ sLen sCap (row k m g) hu hsz (by rw [jX]; exact hm) (fun j v hv=>by
  obtain ⟨hj,rfl⟩:=xS hv; rw [Addr.add_mid,hc j hj,hg j hj]) GH GG (jT k m g)
 exact XZ
end
end
def gC (s:Nat→Int):Nat→Int:=uA (fun _=>0) 0 16 s
theorem q8r (s:Nat→Int) (h:In 256 16 s):In 256 17 (gC s):=lD (fun _ _=>⟨Int.le_refl 0,Ve⟩) h
theorem j3z (s:Nat→Int):val 256 (gC s) 17=val 256 s 16:=by
 have e:val 256 (gC s) 17=val 256 (gC s) 16+256^16*gC s 16:=rfl
 have e1:gC s 16=0:=by unfold gC uA; rw [if_neg JK]
 have e2:val 256 (gC s) 16=val 256 s 16:=qZ 256 16 fun j hj=>by unfold gC uA; rw [if_pos JK,Nat.sub_zero]
 rw [e,e1,e2,Int.mul_zero,Int.add_zero]
theorem j8r (f:Nat→Int) (h:In 256 17 f):val 256 f 16=val 256 f 17%340282366920938463463374607431768211456:=by
 have e:val 256 f 17=val 256 f 16+256^16*f 16:=rfl
 have i:=qE 256 JG f 16 (fun j hj=>h j JK)
 rw [show (256:Int)^16=340282366920938463463374607431768211456 from by decide] at e i
 omega
theorem q5y (a s:Nat→Int) (ha:In 256 17 a) (hs:In 256 16 s) (w:World) (hg:Glob w) :
 Calls Tryz.prog 152 #[(.agg (row .u8 17 (a)).toArray),(.agg (row .u8 16 (s)).toArray)] w fun e w'=>∃ f:Nat→Int,e=.returned (.agg (row .u8 16 (f)).toArray)∧(In 256 16 f∧val 256 f 16=(val 256 a 17%Q+val 256 s 16)%340282366920938463463374607431768211456)∧Below w.heap.size w w':=by
 have K:=Kr.init w; replace K:=K.box .u8 17 a 158 w.heap.size rfl; replace K:=K.box .u8 16 s 120 (w.heap.size+1) Jf; replace K:=K.make 16 qR 120 (w.heap.size+1+1) Jf (xQ _ _ _ Jf).there
 go_enter Tryz.func152,Tryz.ntmps152
 go_upto_region 1 with fail; generalize (((w.alloc (.cells (row .u8 17 a).toArray 158)).alloc (.cells (row .u8 16 s).toArray 120)).alloc (.cells qR 120))=w1 at K ⊢; have s1:=K.size; have H:=jE w1 158 w1.heap.size rfl; replace K:=K.make 17 jF 158 w1.heap.size rfl H.there; go_upto_region 2 with fail; generalize w1.alloc (.cells jF 158)=w2 at K H ⊢
 generalize w1.heap.size=O at *; clear w1; refine wD (S:=fun w'=>Kr w _ [(w.heap.size+1,.u8,16,s),(w.heap.size,.u8,17,a)] [(O,17),(w.heap.size+1+1,16)] w') JU K.drew ?_; clear K; intro K; replace H:=H.drew; refine xpH 0 9 (.slice (some ⟨O,0,none⟩) 17 17) K ?_; refine xpH 1 10 (.slice (some ⟨w.heap.size+1,0,none⟩) 16 16) K ?_
 refine rY (i:=2) (some 11) rfl (.int .i64 ((16:Nat):Int)) JU rfl rfl (j3a _ _ 32 32 5 rfl Tryz.underlying32 JU O 17 17 (w.heap.size+1) 0 16 16 16 17 .u8 s s rfl rfl rfl JK H.there (fun j hj=>(K.get _ _ _ _ mS).cell (0+j) JK) (fun j _=>by rw [nZ])) (K.fill O 17 mS _) ?_; simp only [aP,lI,l0,lS]
 refine wE JU ?_ _
 replace K:=(K.fill O 17 mS (row .u8 16 s)).settle [(w.heap.size+1+1,16)] O .u8 17 (gC s) mS KZ (fC ⟨by show w.heap.size+1+1≠O; omega,List.forall_mem_nil _⟩) (H.part 0 16 JK s); clear H; generalize (w2.drew.setCells O 0 (row .u8 16 s))=w3 at K ⊢; clear w2; go_upto_region 3 with fail
 refine wD (S:=fun w'=>Kr w _ [(O,.u8,17,gC s),(w.heap.size+1,.u8,16,s),(w.heap.size,.u8,17,a)] [(w.heap.size+1+1,16)] w') JU K.drew ?_; clear K; intro K
 refine ykH 0 12 .u8 17 a w.heap.size 0 Tryz.underlying158 (jL _) K (fun _ h=>(h.get _ _ _ _ (mI 2 rfl)).range) ?_
 refine ykH 3 15 .u8 17 (gC s) O 0 Tryz.underlying158 (jL _) K (fun _ h=>(h.get _ _ _ _ mS).range) ?_
 refine Chain.go (z:=6) (t:=6) (n:=3) (w0:=O+1) (k:=4) ?_ #[.int .u64 0,.int .u64 0,.int .u64 0] 187 rfl rfl rfl YG (fun _=>(zP _ _ _ rfl).there) (fun _ h=>h.size) (fun _ _ h l=>h.call l) _ K
 refine Chain.call 1 13 (fun v=>∃ m,v=(.agg (row .u64 3 (m)).toArray)∧sF m∧val W m 3%Q=val 256 a 17%Q) JU JU rfl rfl rfl JG JG Uw Jw JW (fun w' _=>(tU a ha w').mono fun e w'' ⟨m,he,hm,l⟩=>⟨_,he,⟨m,rfl,hm⟩,l⟩) ?_; rintro _ ⟨m1,rfl,t1⟩; simp only [aP,lI,l0,lS]
 refine Chain.call 2 14 (fun v=>∃ m,v=(.agg (row .u64 3 (m)).toArray)∧In W 3 m∧val W m 3=val W m1 3%Q) JU JU rfl rfl rfl JG JG Uw Jw JW (fun w' h=>(eF m1 t1.1.1 t1.1.2 w' (hg.below h.below hg.size)).mono fun e w'' ⟨m,he,hm,l⟩=>⟨_,he,⟨m,rfl,hm⟩,l⟩) ?_
 rintro _ ⟨m2,rfl,t2⟩; simp only [aP,lI,l0,lS]
 refine Chain.call 4 16 (fun v=>∃ m,v=(.agg (row .u64 3 (m)).toArray)∧In W 3 m∧m 2<256∧val W m 3=val 256 (gC s) 17) JU JU rfl rfl rfl JG JG Uw Jw JW (fun w' _=>(wJ (gC s) (q8r s hs) w').mono fun e w'' ⟨m,he,hm,l⟩=>⟨_,he,⟨m,rfl,hm⟩,l⟩) ?_
 rintro _ ⟨m3,rfl,t3⟩; simp only [aP,lI,l0,lS]
 have hsum:val W m2 3+val W m3 3<W^3:=by
  have q1:=t2.2; have q3:=t3.2.2; rw [j3z] at q3; have q2:=qE 256 JG s 16 hs; rw [show (256:Int)^16=340282366920938463463374607431768211456 from by decide] at q2; rw [W3,q1,q3]; simp only [Q]; omega
 refine Chain.call 5 17 (fun v=>∃ m,v=(.agg (row .u64 3 (m)).toArray)∧In W 3 m∧val W m 3=val W m2 3+val W m3 3) JU JU rfl rfl rfl JG JG Uw Jw JW (fun w' _=>(pJ m2 m3 t2.1 t3.1 hsum w').mono fun e w'' ⟨m,he,hm,l⟩=>⟨_,he,⟨m,rfl,hm⟩,l⟩) ?_; rintro _ ⟨m4,rfl,t4⟩
 simp only [aP,lI,l0,lS]; refine Chain.last JU ?_; clear K; intro B w4 K hF; simp only [aP,lI,l0,lS]; refine xX (i:=7) none rfl .u64 3 m4 B 187 _ _ JU rfl rfl rfl rfl rfl (jM hF.th) (yP _) (K.past B hF.lo _) ?_
 refine wE JU ?_ _
 have hBO:=hF.lo; replace K:=K.land hF .u64 m4; clear hF
 have hfit:In 256 17 (zH m4)∧val 256 (zH m4) 16=(val 256 a 17%Q+val 256 s 16)%340282366920938463463374607431768211456:=by
  refine ⟨eQ m4,?_⟩; rw [j8r _ (eQ m4),wL m4 t4.1,t4.2,t3.2.2,j3z,t2.2,t1.2]; omega
 have HE:=show Hid _ from hfit; clear hfit t1 t2 t3 t4 hsum; generalize w4.setCells B 0 (row .u64 3 m4)=w5 at K ⊢; have s5:=K.size; generalize w4.heap.size=N4 at K s5; clear w4; go_upto_region 4 with fail; replace K:=K.make 16 qR 120 w5.heap.size rfl (xQ _ _ _ rfl).there; go_upto_region 5 with fail; generalize w5.alloc (.cells qR 120)=w6 at K ⊢
 generalize w5.heap.size=U at K s5 ⊢; clear w5; refine wR ?_; refine tJ .u64 3 m4 B 0 187 _ _ rfl rfl rfl Tryz.underlying187 rfl (xD _) (K.get _ _ _ _ mS).range (nL ?_); refine clT (j4g m4 _) K ?_; clear K; intro w7 K; refine qH jF 158 rfl JW (nL ?_)
 refine ysL .u8 17 (zH m4) w7.heap.size (jM (jE _ _ _ rfl).there) (qX _) ?_; have s7:=K.size; replace K:=K.fresh .u8 17 (zH m4) jF 158 (jE _ _ _ rfl).there; generalize ((w7.alloc (.cells jF 158)).setCells w7.heap.size 0 (row .u8 17 (zH m4)))=w8 at K ⊢
 generalize w7.heap.size=X at K s7 ⊢; clear w7; show Exit.then _ _ _ _ _; go_upto_region 6 with fail; refine wD (S:=fun w'=>Kr w _ [(X,.u8,17,zH m4),(B,.u64,3,m4),(O,.u8,17,gC s),(w.heap.size+1,.u8,16,s),(w.heap.size,.u8,17,a)] [(U,16),(w.heap.size+1+1,16)] w') JU K.drew ?_; clear K; intro K
 refine xpH 0 20 (.slice (some ⟨U,0,none⟩) 16 16) K ?_; refine xpH 1 21 (.slice (some ⟨X,0,none⟩) 17 17) K ?_
 refine rY (i:=2) (some 22) rfl (.int .i64 ((16:Nat):Int)) JU rfl rfl (j3a _ _ 32 32 5 rfl Tryz.underlying32 JU U 16 16 X 0 17 17 16 16 .u8 (zH m4) (zH m4) rfl rfl rfl JK (K.room _ mS).1 (fun j hj=>(K.get _ _ _ _ mS).cell (0+j) JK) (fun j _=>by rw [nZ])) (K.fill U 16 mS _) ?_; simp only [aP,lI,l0,lS]
 refine wE JU ?_ _
 have H:=Has.all (K.room _ mS).1 .u8 (zH m4); replace K:=K.fill U 16 mS (row .u8 16 (zH m4)); generalize (w8.drew.setCells U 0 (row .u8 16 (zH m4)))=w9 at K H ⊢; have hz:=(K.room _ (mT _ mS)).1; have hB:=(K.fill _ _ (mT _ mS) (row .u8 16 (zH m4))).below; clear K s7 s5 hBO s1; generalize hj:zH m4=f at *
 go_wp2_with (first | (refine yl (H) Tryz.underlying120 (xP _) ?_) | (refine ys .u8 16 f (jM hz) (xM _) ?_))
 exact bRq (v:=(.agg (row .u8 16 (f)).toArray)) (jQ Tryz.results152 rfl (Has.all hz .u8 f).range Tryz.underlying120 rfl (xP f)) rfl ⟨f,rfl,⟨fun j hj=>HE.out.1 j JK,HE.out.2⟩,hB⟩
section
def Src (w:World) (sp:Option Addr) (len:Nat) (z:Nat→Int):Prop:=∀ j,j<len→∃ ad,sp=some ad∧w.cell? (ad.add j)=some (.int .u8 (z j))
theorem Src.below {w w':World} {sp:Option Addr} {len:Nat} {z:Nat→Int} (h:Src w sp len z) {B:Nat} (l:Below B w w') (hB:w.heap.size≤B):Src w' sp len z:=fun j hj=>by
 obtain ⟨ad,he,hc⟩:=h j hj
 have hb:=World.block_lt_of_cell? w _ hc
 exact ⟨ad,he,by rw [l.cell (p:=ad.add j) (xnL hb hB)]; exact hc⟩
section
variable {P:Program}
theorem uE {o:Oper} {a:Act} {w:World} (d s:Operand) (dT sT elem:TypeId) (ho:o.op=.call { callee:=.builtin .copy,args:=#[d,s],argTypes:=#[dT,sT] }) (hu:P.underlying dT=some (.slice elem)) (hsz:(P.info? elem).map (·.size)=some 1)
 (b dLen dCap len cap n:Nat) (sp:Option Addr) (z:Nat→Int) (hd:a.eval d=.slice (some ⟨b,0,none⟩) dLen dCap) (hs:a.eval s=.slice sp len cap) (hl:len≤dLen) (hn:len≤n) (hb:w.there b 0 n) (hc:Src w sp len z) :
 (execOp a.eval o).run P w=.ok (.value (.int .i64 (len:Int))) (w.setCells b 0 (row .u8 len z)):=by
 by_cases h0:len=0
 · subst h0; have hrun:=run_copy_none (P:=P) w dT sT o.type elem (some ⟨b,0,none⟩) sp dLen dCap 0 cap hu hsz (Nat.zero_min _); simp [execOp,ho,resolve,invoke,builtin,hd,hs,hrun,Result.andThen,goInt,row,World.setCells]
 obtain ⟨ad,rfl,_⟩:=hc 0 JK
 have hrun:=run_copy_cells (P:=P) w dT sT o.type elem b 0 dLen dCap ad len cap (row .u8 len z) hu hsz (by rw [jX]; exact (Nat.min_eq_left hl).symm) (fun j v hv=>by
  obtain ⟨hj,rfl⟩:=xS hv; obtain ⟨ad',he,hc'⟩:=hc j hj; injection he with he
  subst he; exact hc') GH GG (jT .u8 len z)
 exact XZ
end
end
def blk (len:Nat) (z:Nat→Int):Nat→Int:=fun j=>if len≤16 then (if j<len then z j else if j=len then 1 else 0) else 0
def dJ (len:Nat):Int:=if len≤16 then 0 else 2
theorem x3s (len:Nat) (z:Nat→Int) (hz:In 256 len z):In 256 17 (blk len z):=fun j _=>by
 unfold blk
 split
 · split
   · exact hz j KQ
   · split <;> omega
 · omega
theorem j4r (sp:Option Addr) (len cap:Nat) (z:Nat→Int) (hlen:16<len) (w:World) :
 Calls Tryz.prog 170 #[.slice sp len cap] w fun e w'=>e=.returned (.tuple #[(.agg (row .u8 17 (blk len z)).toArray),.int .i64 (dJ len)])∧Below w.heap.size w w':=by
 have eb:(row .u8 17 (blk len z))=row .u8 17 (fun _=>0):=yV _ _ fun j _=>by unfold blk; rw [if_neg JK]
 have ee:dJ len=2:=by unfold dJ; rw [if_neg JK]
 rw [eb,ee]
 have z0:Has ((w.alloc (.cells jF 158)).alloc (.cells jF 158)) w.heap.size .u8 17 (fun _=>0):=(jE _ _ _ rfl).alloc _ Jf
 have g0:Fr w 2 ((w.alloc (.cells jF 158)).alloc (.cells jF 158)):=((Fr.refl w).alloc _).alloc _
 have hB:=(g0.setAll w.heap.size (xnR _) (row .u8 17 (fun _=>0))).below
 have hl:(17:Int)≤(len:Int):=by omega
 clear eb ee g0 hlen
 go_enter Tryz.func170,Tryz.ntmps170
 go_wp2_with (refine ys .u8 17 (fun _=>0) (yX (z0)) (qX _) ?_)
 exact bRq (v:=.tuple #[(.agg (row .u8 17 (fun _=>0)).toArray),.int .i64 2]) (xN Tryz.results170 rfl rfl (Has.all z0.there .u8 _).range Tryz.underlying158 rfl (jL _)) rfl ⟨rfl,hB⟩
theorem j2g (sp:Option Addr) (len cap:Nat) (z:Nat→Int) (hlen:len≤16) (w:World) (hs:Src w sp len z) :
 Calls Tryz.prog 170 #[.slice sp len cap] w fun e w'=>e=.returned (.tuple #[(.agg (row .u8 17 (blk len z)).toArray),.int .i64 (dJ len)])∧Below w.heap.size w w':=by
 have ee:dJ len=0:=by unfold dJ; rw [if_pos hlen]
 rw [ee]
 have K:=Kr.init w; replace K:=K.make 17 jF 158 w.heap.size rfl (jE _ _ _ rfl).there
 have H:Has ((w.alloc (.cells jF 158)).alloc (.cells jF 158)) (w.heap.size+1) .u8 17 (fun _=>0):=jE _ _ _ Jf
 replace K:=K.make 17 jF 158 (w.heap.size+1) Jf H.there
 have hs':=hs.below (w':=((w.alloc (.cells jF 158)).alloc (.cells jF 158))) K.below (xnR _)
 have hl:¬ (17:Int)≤(len:Int):=by omega
 have hl2:(len:Int)<17:=by omega
 have hl3:(0:Int)≤(len:Int):=by omega
 clear ee hs
 go_enter Tryz.func170,Tryz.ntmps170
 go_upto_region 4 with fail; generalize ((w.alloc (.cells jF 158)).alloc (.cells jF 158))=w1 at K H hs' ⊢; refine wR (xpL (.slice (some ⟨w.heap.size+1,0,none⟩) 17 17) ?_); refine xmL ?_
 refine xaL (.int .i64 (len:Int)) (uE _ _ 32 32 5 rfl Tryz.underlying32 JU (w.heap.size+1) 17 17 len cap 17 sp z rfl rfl JK JK H.there hs') ?_; replace K:=K.fill (w.heap.size+1) 17 mS (row .u8 len z); replace H:=H.part 0 len JK z; clear hs'; generalize w1.setCells (w.heap.size+1) 0 (row .u8 len z)=w2 at K H ⊢
 have c1:=H.cell len JK; have f1:=H.free len JK; replace H:=H.set len JK 1
 have H':=H.congr (g:=blk len z) (fun j hj=>by
  unfold blk; rw [if_pos hlen]; by_cases e:j=len
  · subst e; rw [jP,if_neg JK,if_pos rfl]
  rw [jR _ _ _ _ e]; unfold uA; by_cases e2:j<len
  · rw [if_pos JK,if_pos e2,Nat.sub_zero]
  rw [if_neg JK,if_neg e2,if_neg e])
 have K':Kr w _ [] [(w.heap.size+1,17),(w.heap.size,17)] (w2.setCell ⟨w.heap.size+1,len,none⟩ (.int .u8 1)):=K.poke (w.heap.size+1) 17 mS len [.int .u8 1]
 clear H K; generalize uA (fun _=>0) 0 len z len=y at *; go_upto_region 5 with fail; generalize w2.setCell ⟨w.heap.size+1,len,none⟩ (.int .u8 1)=w3 at K' H' ⊢; have hz:=(K'.room _ (mT _ mS)).1; have hB:=(K'.fill _ _ (mT _ mS) (row .u8 17 (blk len z))).below; clear K' c1 f1 hl hl2 hl3 hlen; generalize hj:blk len z=f at *
 go_wp2_with (first | (refine yl (H') Tryz.underlying158 (jL _) ?_) | (refine ys .u8 17 f (jM hz) (qX _) ?_))
 exact bRq (v:=.tuple #[(.agg (row .u8 17 (f)).toArray),.int .i64 0]) (xN Tryz.results170 rfl rfl (Has.all hz .u8 f).range Tryz.underlying158 rfl (jL f)) rfl ⟨rfl,hB⟩
theorem j7h (sp:Option Addr) (len cap:Nat) (z:Nat→Int) (w:World) (hs:Src w sp len z) :
 Calls Tryz.prog 170 #[.slice sp len cap] w fun e w'=>e=.returned (.tuple #[(.agg (row .u8 17 (blk len z)).toArray),.int .i64 (dJ len)])∧Below w.heap.size w w':=by
 by_cases h:len≤16
 · exact j2g sp len cap z h w hs
 exact j4r sp len cap z JK w
def fU (x s:Nat→Int):Nat→Int
 | 0=>0
 | k+1=>(fU x s k+x k+s k)/256
def nW (x s:Nat→Int) (k:Nat):Int:=(fU x s k+x k+s k)%256
theorem j9f (x s:Nat→Int) (n:Nat) (hx:In 256 n x) (hs:In 256 n s):∀ k,k≤n→0≤fU x s k∧fU x s k≤1
 | 0,_=>by simp [fU]
 | k+1,h=>by
   have i:=j9f x s n hx hs k JK; have a:=hx k JK; have b:=hs k JK; simp only [fU]
   omega
theorem j2u (x s:Nat→Int):∀ k,val 256 (nW x s) k+256^k*fU x s k=val 256 x k+val 256 s k
 | 0=>by simp [val,fU]
 | k+1=>by
   have i:=j2u x s k; simp only [val,fU]
   rw [Int.pow_succ,Int.mul_assoc]
   have e:256^k*nW x s k+256^k*(256*((fU x s k+x k+s k)/256))=256^k*fU x s k+256^k*x k+256^k*s k:=by
    rw [← Int.mul_add,← Int.mul_add,← Int.mul_add]; congr 1; unfold nW; omega
   omega
def pcN (len i:Nat):Nat:=min (len-16*i) 16
def mQ (len:Nat) (z:Nat→Int) (i:Nat):Nat→Int:=blk (pcN len i) (fun j=>z (16*i+j))
def npc (len:Nat):Nat:=(len+15)/16
theorem j3n (len:Nat) (z:Nat→Int) (i:Nat) (hz:In 256 len z):In 256 17 (mQ len z i):=x3s _ _ fun j hj=>hz _ (by unfold pcN at hj; omega)
def acc (r:Int) (len:Nat) (z:Nat→Int):Nat→Int
 | 0=>0
 | i+1=>((acc r len z i+val 256 (mQ len z i) 17)*r)%Q
def pR (k:Nat→Int):Int:=val 256 (qJ k) 16
def pS (k:Nat→Int):Int:=val 256 (fun j=>k (16+j)) 16
def cH (k:Nat→Int) (len:Nat) (z:Nat→Int):Int:=(acc (pR k) len z (npc len)%Q+pS k)%340282366920938463463374607431768211456
def byB (f:Nat→Int):Nat→Int:=fun j=>if j<16 then f j else 0
theorem q6e (f:Nat→Int) (h:In 256 16 f):In 256 17 (byB f):=fun j _=>by
 unfold byB
 split
 · exact h j KQ
 · omega
theorem j9i (f:Nat→Int):val 256 (byB f) 17=val 256 f 16:=by
 have e1:val 256 (byB f) 17=val 256 (byB f) 16+256^16*byB f 16:=rfl
 have e2:byB f 16=0:=by unfold byB; rw [if_neg JK]
 rw [e1,e2,Int.mul_zero,Int.add_zero]
 exact qZ 256 16 fun j hj=>by unfold byB; rw [if_pos hj]
theorem j5a {r:Int} {len:Nat} {z:Nat→Int} {i:Nat} {x y p:Int} (hx:x=(acc r len z i+val 256 (mQ len z i) 17)%Q) (hp:p=r) (hy:y=(x*p)%Q):y=acc r len z (i+1):=by
 rw [hy,hx,hp]
 show _=((acc r len z i+val 256 (mQ len z i) 17)*r)%Q
 rw [Int.mul_emod,Int.emod_emod_of_dvd _ (Int.dvd_refl Q),← Int.mul_emod]
section
section
variable {P:Program} {ops:Array Oper} {Q:Exit→Act→World→Prop} {md:Region.Mode} {S:World→Prop} {c:Nat}
def qP (P:Program) (md:Region.Mode) (ops:Array Oper) (Q:Exit→Act→World→Prop) (S:World→Prop) (c:Nat):Nat→Array Bool→Act→World→Prop
 | 0,l,a,w=>Region.ready md ops l=[]∧Q .normal a w
 | n+1,l,a,w=>(Region.ready md ops l=[]→Q .normal a w) ∧
   ∀ i∈Region.ready md ops l,wpOp P ops Q i (fun a' w'=>((l.setIfInBounds i true).getD c true=false→S w')∧qP P md ops Q S c n (l.setIfInBounds i true) a' w') a w
theorem bQ:∀ (n:Nat) (l:Array Bool) (a:Act) (w:World),qP P md ops Q S c n l a w→wpAny P md ops Q n l a w
 | 0,_,_,_,h=>h
 | n+1,_,_,_,h=>⟨h.1,fun i hi=>wpOp_mono (fun a' w' h'=>bQ n _ a' w' h'.2) (h.2 i hi)⟩
theorem cD {l:Array Bool} {i:Nat} (h:l.getD c true=true):(l.setIfInBounds i true).getD c true=true:=by
 by_cases e:i=c
 · subst e; rw [Array.getD_eq_getD_getElem?]; by_cases hb:i<l.size
   · rw [Array.getElem?_setIfInBounds_self_of_lt hb]; rfl
   rw [Array.getElem?_eq_none Ji]; rfl
 rw [getD_set_ne true e]; exact h
theorem hZ:∀ (n:Nat) (l:Array Bool) (a:Act) (w:World),l.getD c true=true→wpAny P md ops Q n l a w→qP P md ops Q S c n l a w
 | 0,_,_,_,_,h=>h
 | n+1,_,_,_,hc,h=>⟨h.1,fun i hi=>wpOp_mono (fun a' w' h'=>⟨fun hf=>(by rw [cD hc] at hf; cases hf),hZ n _ a' w' (cD hc) h'⟩) (h.2 i hi)⟩
theorem sJ {l:Array Bool} {i:Nat} (h0:l.getD i true=false) (h1:l.getD i false=true):False:=by
 rw [Array.getD_eq_getD_getElem?] at h0 h1
 cases e:l[i]? with
 | none=>rw [e] at h0; cases h0
 | some b=>rw [e] at h0 h1; simp only [Option.getD_some] at h0 h1; rw [h0] at h1; cases h1
theorem j0i {i:Nat} {oi oc:Oper} {v:Value} (hi:ops[i]?=some oi) (hc:ops[c]?=some oc) (hwait:∃ e∈oc.after,Region.binds md e=true∧e.on=i) (hsel:∀ (j:Nat) (o:Oper) cs b,ops[j]?=some o→o.op≠.select cs b)
 (hQ:∀ p a w,Q (.panic p) (a.put oi.dst v) w→Q (.panic p) a w):∀ (n:Nat) (l:Array Bool) (a:Act) (w:World),
  (∀ j oj,ops[j]?=some oj→j≠i→l.getD j true=false→(∀ e∈oj.after,Region.binds md e=true→e.on≠i)→oi.apart ops oj=true) →
  l.getD c true=false→i∈Region.ready md ops l→YieldsIf P ops S oi v a→S w →
  qP P md ops Q S c n (l.setIfInBounds i true) (a.put oi.dst v) w→qP P md ops Q S c (n+1) l a w:=by
 have waits:∀ (l:Array Bool) (j:Nat),i∈Region.ready md ops l→j∈Region.ready md ops l→j≠c:=fun l j hr hj e=>by
  subst e; obtain ⟨_,o,ho,hall⟩:=mem_ready.1 hj; obtain rfl:o=oc:=Option.some.inj (ho.symm.trans hc); obtain ⟨e,he,hb,rfl⟩:=hwait; exact sJ (mem_ready.1 hr).1 (hall e he hb)
 intro n
 induction n with
 | zero =>
   intro l a w _ _ hr hy hS H; refine ⟨fun h=>Ug,fun j hj=>?_⟩; by_cases hji:j=i
   · exact Xp
   have:=ready_mono hj hji; rw [H.1] at this
   cases this
 | succ n ih =>
   intro l a w hfree hlc hr hy hS H; refine ⟨fun h=>Ug,fun j hj=>?_⟩; by_cases hji:j=i
   · exact Xp
   have hjc:=waits l j hr hj; have hic:=waits l i hr hr; obtain ⟨hjun,oj,hoj,hall⟩:=mem_ready.1 hj; have hnot:∀ e∈oj.after,Region.binds md e=true→e.on≠i:=fun e he hb heq=>sJ (mem_ready.1 hr).1 We
   have h2:=wpOp_putIf hoj (hfree j oj hoj hji hjun hnot) (fun cs b=>hsel i oi cs b hi) (fun cs b=>hsel j oj cs b hoj) hQ hy (H.2 j (ready_mono hj hji)); have hfree':∀ k ok,ops[k]?=some ok→k≠i→(l.setIfInBounds j true).getD k true=false→(∀ e∈ok.after,Region.binds md e=true→e.on≠i)→oi.apart ops ok=true:=fun k ok hk hki hun hno=>by
    refine hfree k ok hk hki ?_ hno; by_cases hjk:j=k
    · subst hjk; exact hjun
    rw [getD_set_ne true hjk] at hun; exact hun
   refine wpOp_mono (fun a' w' h3=>?_) h2; have hS':S w':=h3.2.1 Wt; refine ⟨fun _=>hS',ih (l.setIfInBounds j true) a' w' hfree' (by rw [getD_set_ne true hjc]; exact hlc) (ready_mono hr (Ne.symm hji)) h3.1 hS' ?_⟩; rw [Array.setIfInBounds_comm _ _ hji]; exact h3.2.2
theorem nV {i:Nat} {oi oc:Oper} {v:Value} {n:Nat} {l:Array Bool} {a:Act} {w:World} (hi:ops[i]?=some oi) (hc:ops[c]?=some oc) (hwait:(oc.after.any fun e=>Region.binds md e&&e.on == i)=true)
 (hs:Region.noSelect ops=true) (hf:Region.free md ops l i=true) (hl:l.getD c true=false) (hr:(Region.ready md ops l).contains i=true)
 (hQ:∀ p a w,Q (.panic p) (a.put oi.dst v) w→Q (.panic p) a w) (hy:YieldsIf P ops S oi v a) (hS:S w)
 (h:qP P md ops Q S c n (l.setIfInBounds i true) (a.put oi.dst v) w):qP P md ops Q S c (n+1) l a w:=by
 refine j0i hi hc ?_ (Region.noSelect_spec hs) hQ n l a w (Region.free_spec hi hf) hl (by simpa using hr) hy hS h
 obtain ⟨e,he,hb⟩:=Array.any_eq_true'.1 hwait
 simp only [xbA,beq_iff_eq] at hb
 exact ⟨e,he,hb.1,hb.2⟩
theorem j2k {i:Nat} {oi:Oper} {v:Value} (hi:ops[i]?=some oi) (hic:i≠c) (hsel:∀ (j:Nat) (o:Oper) cs b,ops[j]?=some o→o.op≠.select cs b)
 (hQ:∀ p a w,Q (.panic p) (a.put oi.dst v) w→Q (.panic p) a w):∀ (n:Nat) (l:Array Bool) (a:Act) (w:World),
  (∀ j oj,ops[j]?=some oj→j≠i→l.getD j true=false→(∀ e∈oj.after,Region.binds md e=true→e.on≠i)→oi.apart ops oj=true) →
  i∈Region.ready md ops l→YieldsIf P ops (fun _=>True) oi v a→(l.getD c true=false→S w) →
  qP P md ops Q S c n (l.setIfInBounds i true) (a.put oi.dst v) w→qP P md ops Q S c (n+1) l a w:=by
 intro n
 induction n with
 | zero =>
   intro l a w _ hr hy hS H; refine ⟨fun h=>Ug,fun j hj=>?_⟩; by_cases hji:j=i
   · subst hji; exact hy.wpOp hi trivial ⟨fun h=>hS (by rw [getD_set_ne true hic] at h; exact h),H⟩
   have:=ready_mono hj hji; rw [H.1] at this
   cases this
 | succ n ih =>
   intro l a w hfree hr hy hS H; refine ⟨fun h=>Ug,fun j hj=>?_⟩; by_cases hji:j=i
   · subst hji; exact hy.wpOp hi trivial ⟨fun h=>hS (by rw [getD_set_ne true hic] at h; exact h),H⟩
   obtain ⟨hjun,oj,hoj,hall⟩:=mem_ready.1 hj; have hnot:∀ e∈oj.after,Region.binds md e=true→e.on≠i:=fun e he hb heq=>sJ (mem_ready.1 hr).1 We
   have h2:=wpOp_putIf hoj (hfree j oj hoj hji hjun hnot) (fun cs b=>hsel i oi cs b hi) (fun cs b=>hsel j oj cs b hoj) hQ hy (H.2 j (ready_mono hj hji)); have hfree':∀ k ok,ops[k]?=some ok→k≠i→(l.setIfInBounds j true).getD k true=false→(∀ e∈ok.after,Region.binds md e=true→e.on≠i)→oi.apart ops ok=true:=fun k ok hk hki hun hno=>by
    refine hfree k ok hk hki ?_ hno; by_cases hjk:j=k
    · subst hjk; exact hjun
    rw [getD_set_ne true hjk] at hun; exact hun
   refine wpOp_mono (fun a' w' h3=>?_) h2; have hS':(l.setIfInBounds j true).getD c true=false→S w':=fun hf=>h3.2.1 (by rw [Array.setIfInBounds_comm _ _ (Ne.symm hji),getD_set_ne true hic]; exact hf)
   refine ⟨hS',ih (l.setIfInBounds j true) a' w' hfree' (ready_mono hr (Ne.symm hji)) h3.1 hS' ?_⟩; rw [Array.setIfInBounds_comm _ _ hji]; exact h3.2.2
theorem qK (c:Nat) {id:Nat} {a:Act} {w:World} (hm:P.follows .mixedOrders=true) (hS:S w.drew)
 (h:S w.drew→qP P .any ops Q S c ops.size (Array.replicate ops.size false) a w.drew):(Code.region id ops true).wp P Q a w :=
 wp_region_any hm (bQ _ _ _ _ (h hS))
end
section
variable {P:Program} {ops:Array Oper} {Q:Exit→Act→World→Prop} {md:Region.Mode} {S:World→Prop} {n:Nat} {l:Array Bool} {a a':Act} {w:World} {oi:Oper} {ty:TypeId} {x y:Operand} {k:IntKind} {D:TypeDesc} {rest:List Oper}
theorem hdC {id:Nat} (c:Nat) (K:S w) (h:S w.drew→qP P .any ops Q S c ops.size (Array.replicate ops.size false) a w.drew) (hd:S w→S w.drew:=by exact fun h=>h.drew) (hm:P.follows .mixedOrders=true:=by kernel_rfl) : (Code.region id ops true).wp P Q a w:=qK c hm (hd K) h
end
section
variable {P:Program} {ops:Array Oper} {Q:Exit→Act→World→Prop} {md:Region.Mode} {S S2:World→Prop} {c:Nat}
theorem q3m {i:Nat} {oi:Oper} (dst:Option Tmp) (hdst:oi.dst=dst) {n:Nat} {l:Array Bool} {a:Act} {w:World} (v:Value) (hi:ops[i]?=some oi) (hic:i≠c) (hw:Region.wanted oi (yielded ops a.tmps)=true)
 (hv:∀ w,(execOp a.eval oi).run P w=.ok (.value v) w)
 (hs:Region.noSelect ops=true) (hf:Region.free md ops l i=true) (hr:(Region.ready md ops l).contains i=true)
 (hQ:∀ p a w,Q (.panic p) (a.put dst v) w→Q (.panic p) a w) (hS:S w)
 (h:qP P md ops Q S c n (l.setIfInBounds i true) (a.put dst v) w):qP P md ops Q S c (n+1) l a w:=by
 subst hdst
 exact j2k hi hic (Region.noSelect_spec hs) hQ n l a w (Region.free_spec hi hf) (by simpa using hr) (.inl ⟨hw,fun w _=>hv w⟩) (fun _=>hS) h
section
variable {P:Program} {ops:Array Oper} {Q:Exit→Act→World→Prop} {md:Region.Mode} {S:World→Prop} {c:Nat}
theorem xpC {oi:Oper} {n:Nat} {l:Array Bool} {a a':Act} {w:World} (i:Nat) (d:Tmp) (v:Value) (hS:S w) (h:qP P md ops Q S c n (l.setIfInBounds i true) a' w)
 (hi:ops[i]?=some oi:=by rfl) (hdst:oi.dst=some d:=by rfl) (hic:i≠c:=by decide) (hw:Region.wanted oi (yielded ops a.tmps)=true:=by rfl) (hv:∀ w,(execOp a.eval oi).run P w=.ok (.value v) w:=by intro _; kernel_rfl) (hg:(Region.noSelect ops&&(Region.free md ops l i&&(Region.ready md ops l).contains i))=true:=by kernel_rfl) (hQ:∀ c a w,Q (.panic c) (a.put (some d) v) w→Q (.panic c) a w:=by exact fun _ _ _ h=>h) (he:a.put (some d) v=a':=by simp only [aP,lI,l0,lS] <;> rfl):qP P md ops Q S c (n+1) l a w:=by
 subst he
 rw [xbA,xbA] at hg
 exact q3m (some d) hdst v hi hic hw hv hg.1 hg.2.1 hg.2.2 hQ hS h
theorem xqC {oi:Oper} {n:Nat} {l:Array Bool} {a a':Act} {w:World} (i:Nat) (d:Tmp) (hi:ops[i]?=some oi) (v:Value) (hv:∀ w,(execOp a.eval oi).run P w=.ok (.value v) w) (hS:S w) (h:qP P md ops Q S c n (l.setIfInBounds i true) a' w)
 (hdst:oi.dst=some d:=by rfl) (hic:i≠c:=by decide) (hw:Region.wanted oi (yielded ops a.tmps)=true:=by rfl) (hg:(Region.noSelect ops&&(Region.free md ops l i&&(Region.ready md ops l).contains i))=true:=by kernel_rfl) (hQ:∀ c a w,Q (.panic c) (a.put (some d) v) w→Q (.panic c) a w:=by exact fun _ _ _ h=>h) (he:a.put (some d) v=a':=by simp only [aP,lI,l0,lS] <;> rfl):qP P md ops Q S c (n+1) l a w:=by
 subst he
 rw [xbA,xbA] at hg
 exact q3m (some d) hdst v hi hic hw hv hg.1 hg.2.1 hg.2.2 hQ hS h
end
section
variable {P:Program} {ops:Array Oper} {Q:Exit→Act→World→Prop} {md:Region.Mode} {S:World→Prop} {c:Nat}
theorem xmC {oi:Oper} {n:Nat} {l:Array Bool} {a a':Act} {w:World} {v:Value} (i:Nat) (d:Tmp) (hS:S w) (h:qP P md ops Q S c n (l.setIfInBounds i true) a' w) (hi:ops[i]?=some oi:=by rfl) (hdst:oi.dst=some d:=by rfl) (hic:i≠c:=by decide) (hw:Region.wanted oi (yielded ops a.tmps)=true:=by rfl) (hv:mvv a oi.op=some v:=by rfl) (hg:(Region.noSelect ops && (Region.free md ops l i && (Region.ready md ops l).contains i))=true:=by kernel_rfl) (hQ:∀ c a w,Q (.panic c) (a.put (some d) v) w→Q (.panic c) a w:=by exact fun _ _ _ h=>h) (he:a.put (some d) v=a':=by simp only [aP,lI,l0,lS] <;> rfl) : qP P md ops Q S c (n+1) l a w:=by
 subst he
 rw [Bool.and_eq_true,Bool.and_eq_true] at hg
 exact q3m (some d) hdst v hi hic hw (fun w=>j6h hv w) hg.1 hg.2.1 hg.2.2 hQ hS h
end
section
variable {P:Program} {ops:Array Oper} {Q:Exit→Act→World→Prop} {a a':Act} {w:World} {d:Option Tmp} {v:Value} {md:Region.Mode} {S:World→Prop} {n c:Nat} {l:Array Bool}
theorem nC (h:qP P md ops Q S c n l a' w) (he:a.put d v=a':=by simp only [aP,lI,l0,lS] <;> rfl) : qP P md ops Q S c n l (a.put d v) w:=he ▸ h
end
theorem eP {i:Nat} {oi oc:Oper} (dst:Option Tmp) (hdst:oi.dst=dst) {n:Nat} {l:Array Bool} {a:Act} {w:World} (k:IntKind) (v:Value) (b o:Nat) (ty:TypeId) (x:Operand) (hi:ops[i]?=some oi) (hc:ops[c]?=some oc) (hwait:(oc.after.any fun e=>Region.binds md e&&e.on == i)=true)
 (ho:oi.op=.load ty x) (hx:a.eval x=.pointer (some ⟨b,o,none⟩)) (hw:Region.wanted oi (yielded ops a.tmps)=true)
 (hs:Region.noSelect ops=true) (hf:Region.free md ops l i=true) (hl:l.getD c true=false) (hr:(Region.ready md ops l).contains i=true)
 (hQ:∀ p a w,Q (.panic p) (a.put dst v) w→Q (.panic p) a w) (hu:P.underlying ty=some (.int k))
 (hS:S w) (hh:∀ w,S w→w.cell? ⟨b,o,none⟩=some v)
 (h:qP P md ops Q S c n (l.setIfInBounds i true) (a.put dst v) w):qP P md ops Q S c (n+1) l a w:=by
 subst hdst
 refine nV hi hc hwait hs hf hl hr hQ (.inl ⟨hw,fun w hw'=>?_⟩) hS h
 exact Xk
theorem aU {i:Nat} {oi oc:Oper} (dst:Option Tmp) (hdst:oi.dst=dst) {n:Nat} {l:Array Bool} {a:Act} {w:World} (k:IntKind) (m:Nat) (f:Nat→Int) (b o:Nat) (ty:TypeId) (x:Operand) (d:TypeDesc) (hi:ops[i]?=some oi) (hc:ops[c]?=some oc) (hwait:(oc.after.any fun e=>Region.binds md e&&e.on == i)=true)
 (ho:oi.op=.load ty x) (hx:a.eval x=.pointer (some ⟨b,o,none⟩)) (hw:Region.wanted oi (yielded ops a.tmps)=true)
 (hs:Region.noSelect ops=true) (hf:Region.free md ops l i=true) (hl:l.getD c true=false) (hr:(Region.ready md ops l).contains i=true)
 (hQ:∀ p a w,Q (.panic p) (a.put dst (.agg (row k m f).toArray)) w→Q (.panic p) a w)
 (hu:P.underlying ty=some d) (hd:d.isRow=true) (hz:(P.info? ty).map (·.size)=some (row k m f).length) (hS:S w) (hh:∀ w,S w→w.rangeAt b o (row k m f))
 (h:qP P md ops Q S c n (l.setIfInBounds i true) (a.put dst (.agg (row k m f).toArray)) w):qP P md ops Q S c (n+1) l a w:=by
 subst hdst
 exact nV hi hc hwait hs hf hl hr hQ (yieldsIf_load_mid hw ty x ho b o hx (row k m f) d hh hu hd hz) hS h
theorem tM (dst:Option Tmp) {oc:Oper} (hdst:oc.dst=dst) {n:Nat} {l:Array Bool} {a:Act} {w:World} (k:IntKind) (m:Nat) (f:Nat→Int) (b:Nat) (ty:TypeId) (x y:Operand) (hr:Region.ready md ops l=[c]) (hi:ops[c]?=some oc)
 (hw:Region.wanted oc (yielded ops a.tmps)=true) (ho:oc.op=.store ty x y) (hx:a.eval x=.pointer (some ⟨b,0,none⟩)) (hy:a.eval y=.agg (row k m f).toArray) (ht:w.there b 0 (row k m f).toArray.size) (hz:(P.info? ty).map (·.size)=some (row k m f).toArray.size) (hl:(l.setIfInBounds c true).getD c true=true)
 (h:wpAnyH P md ops Q S2 n (l.setIfInBounds c true) (a.put dst undef) (w.setCells b 0 (row k m f))):qP P md ops Q S c (n+1) l a w :=
 ⟨fun h0=>Vh,fun j hj=>by
  rw [hr] at hj
  obtain rfl:=xm1 hj
  have he:(execOp a.eval oc).run P w=.ok .skip (w.setCells b 0 (row k m f)):=by
   unfold execOp; simp only [ho,hx,hy]; have e:=run_storeAt_mid (P:=P) w b 0 ty (row k m f).toArray ht hz (aO (jT k m f)); simp only [Sem.run_bind,e,xO,Sem.run_pure]
  unfold wpOp; simp only [hi,hw,if_true]; refine .inl ?_; unfold Oper.wp; rw [he]; subst hdst; exact ⟨fun hf=>Gc,hZ n _ _ _ hl (wpAny_of_held n _ _ _ h)⟩⟩
theorem x0v (dst:Option Tmp) {oc:Oper} (hdst:oc.dst=dst) {f:FuncId} {args:Array Value} {R:Ending→World→Prop} {n:Nat} {l:Array Bool} {a:Act} {w:World} (hr:Region.ready md ops l=[c]) (hc:ops[c]?=some oc)
 (hw:Region.wanted oc (yielded ops a.tmps)=true) (he:∀ w,(execOp a.eval oc).run P w=.ok (.enter f args) w) (hC:Calls P f args w R) (hl:(l.setIfInBounds c true).getD c true=true)
 (hK:∀ e w',R e w'→∃ v,e=.returned v∧wpAnyH P md ops Q S2 n (l.setIfInBounds c true) (a.put dst v) w'):qP P md ops Q S c (n+1) l a w :=
 ⟨fun h0=>Vh,fun j hj=>by
  rw [hr] at hj
  obtain rfl:=xm1 hj
  unfold wpOp
  simp only [hc,hw,if_true]; refine .inl ?_
  unfold Oper.wp
  rw [he w]
  exact hC.mono fun e w' hR=>by
   obtain ⟨v,rfl,h⟩:=hK e w' hR
   subst hdst
   exact ⟨fun hf=>Gc,hZ n _ _ _ hl (wpAny_of_held n _ _ _ h)⟩⟩
theorem x3o {i:Nat} {oi:Oper} (dst:Option Tmp) (hdst:oi.dst=dst) {f:FuncId} {args:Array Value} {R:Ending→World→Prop} {n:Nat} {l:Array Bool} {a:Act} {w:World} (hr:Region.ready md ops l=[i]) (hi:ops[i]?=some oi)
 (hw:Region.wanted oi (yielded ops a.tmps)=true) (he:∀ w,(execOp a.eval oi).run P w=.ok (.enter f args) w) (hC:Calls P f args w R)
 (hK:∀ e w',R e w'→∃ v,e=.returned v∧S w'∧qP P md ops Q S c n (l.setIfInBounds i true) (a.put dst v) w'):qP P md ops Q S c (n+1) l a w :=
 ⟨fun h0=>Vh,fun j hj=>by
  rw [hr] at hj
  obtain rfl:=xm1 hj
  unfold wpOp
  simp only [hi,hw,if_true]; refine .inl ?_
  unfold Oper.wp
  rw [he w]
  exact hC.mono fun e w' hR=>by
   obtain ⟨v,rfl,hS,h⟩:=hK e w' hR
   subst hdst
   exact ⟨fun _=>hS,h⟩⟩
theorem kW (w:World) (b o:Nat) (ty:TypeId) (k:IntKind) (n:Int) (hx:(w.cell? ⟨b,o,none⟩).isSome=true) (hf:w.frozen? ⟨b,o,none⟩=false) (hi:(P.info? ty).map (·.size)=some 1) :
 (Instr.storeAt ty (.pointer (some ⟨b,o,none⟩)) (.int k n)).run P w=.ok () (w.setCell ⟨b,o,none⟩ (.int k n)):=by
 have h0:∀ j:Nat,j < [Value.int k n].length→j=0:=fun j hj=>by simpa using hj
 have:=run_storeCells_cells (P:=P) b o [.int k n] 0 w (fun j hj=>by rw [h0 j hj]; simpa using hx) (fun j hj=>by rw [h0 j hj]; simpa using hf) (fun v hv=>by simp at hv; subst hv; rfl)
 cases hq:P.info? ty with
 | none=>simp [hq] at hi
 | some i =>
   have hs:i.size=1:=by simp [hq] at hi; omega
   simp only [Nat.add_zero] at this; have e:(storeVar ty ⟨b,o,none⟩ (.int k n)).run P w=.ok () (w.setCell ⟨b,o,none⟩ (.int k n)):=by
    simp [storeVar,sizeOf,typeInfo,hq,Value.cells,hs,this,World.setCells]
   simp only [Instr.storeAt,Instr.sureAddr,Sem.run_bind,Sem.run_pure,xO,e]
theorem gJ (dst:Option Tmp) {oc:Oper} (hdst:oc.dst=dst) {n:Nat} {l:Array Bool} {a:Act} {w:World} (k:IntKind) (v:Int) (b o:Nat) (ty:TypeId) (x y:Operand) (hr:Region.ready md ops l=[c]) (hi:ops[c]?=some oc)
 (hw:Region.wanted oc (yielded ops a.tmps)=true) (ho:oc.op=.store ty x y) (hx:a.eval x=.pointer (some ⟨b,o,none⟩)) (hy:a.eval y=.int k v) (hc:(w.cell? ⟨b,o,none⟩).isSome=true) (hf:w.frozen? ⟨b,o,none⟩=false) (hz:(P.info? ty).map (·.size)=some 1) (hl:(l.setIfInBounds c true).getD c true=true)
 (h:wpAnyH P md ops Q S2 n (l.setIfInBounds c true) (a.put dst undef) (w.setCell ⟨b,o,none⟩ (.int k v))):qP P md ops Q S c (n+1) l a w :=
 ⟨fun h0=>Vh,fun j hj=>by
  rw [hr] at hj
  obtain rfl:=xm1 hj
  have he:(execOp a.eval oc).run P w=.ok .skip (w.setCell ⟨b,o,none⟩ (.int k v)):=by
   exact Xq
  unfold wpOp; simp only [hi,hw,if_true]; refine .inl ?_; unfold Oper.wp; rw [he]; subst hdst; exact ⟨fun hf=>Gc,hZ n _ _ _ hl (wpAny_of_held n _ _ _ h)⟩⟩
theorem gM {i:Nat} {oi:Oper} (dst:Option Tmp) (hdst:oi.dst=dst) {n:Nat} {l:Array Bool} {a:Act} {w:World} (k:IntKind) (v:Int) (b o:Nat) (ty:TypeId) (x y:Operand) (hr:Region.ready md ops l=[i]) (hi:ops[i]?=some oi)
 (hw:Region.wanted oi (yielded ops a.tmps)=true) (ho:oi.op=.store ty x y) (hx:a.eval x=.pointer (some ⟨b,o,none⟩)) (hy:a.eval y=.int k v) (hc:(w.cell? ⟨b,o,none⟩).isSome=true) (hf:w.frozen? ⟨b,o,none⟩=false) (hz:(P.info? ty).map (·.size)=some 1) (hS:S (w.setCell ⟨b,o,none⟩ (.int k v)))
 (h:wpAnyH P md ops Q S n (l.setIfInBounds i true) (a.put dst undef) (w.setCell ⟨b,o,none⟩ (.int k v))):wpAnyH P md ops Q S (n+1) l a w :=
 wC dst hdst hr hi hw (by
  unfold execOp
  simp only [ho,hx,hy]; have e:=kW (P:=P) w b o ty k v hc hf hz
  simp only [Sem.run_bind,e,Result.andThen_ok,Sem.run_pure]) hS h
theorem uD {o:Oper} {a:Act} (t e:TypeId) (n:Nat) (k:IntKind) (b off i:Nat) (x y:Operand) (hu:P.underlying t=some (.array n e)) (hsz:∀ w,(sizeOf e).run P w=.ok 1 w) (hi:i<n) (ho:o.op=.indexAddr t x y) (hx:a.eval x=.pointer (some ⟨b,off,none⟩)) (hy:a.eval y=.int k (i:Int)) (w:World) :
 (execOp a.eval o).run P w=.ok (.value (.pointer (some ⟨b,off+i,none⟩))) w:=by
 have e1:(Instr.indexAt t (.pointer (some ⟨b,off,none⟩)) (.int k (i:Int))).run P w=.ok (.pointer (some ⟨b,off+i,none⟩)) w:=by
  simp [Instr.indexAt,run_underlying hu,Instr.sureAddr,asIntOf,hsz,Addr.add_mid]; intro hf; omega
 exact XQ
theorem mX {o:Oper} {a:Act} (t e:TypeId) (len cap:Nat) (k:IntKind) (ad:Addr) (i:Nat) (x y:Operand) (hu:P.underlying t=some (.slice e)) (hsz:∀ w,(sizeOf e).run P w=.ok 1 w) (hi:i<len) (ho:o.op=.indexAddr t x y) (hx:a.eval x=.slice (some ad) len cap) (hy:a.eval y=.int k (i:Int)) (w:World) :
 (execOp a.eval o).run P w=.ok (.value (.pointer (some (ad.add i)))) w:=by
 have e1:(Instr.indexAt t (.slice (some ad) len cap) (.int k (i:Int))).run P w=.ok (.pointer (some (ad.add i))) w:=by
  simp [Instr.indexAt,run_underlying hu,asIntOf,hsz]; intro hf; omega
 exact XQ
end
section
variable {P:Program} {ops:Array Oper} {Q:Exit→Act→World→Prop} {md:Region.Mode} {S:World→Prop} {n:Nat} {l:Array Bool} {a a':Act} {w:World} {oi:Oper} {ty:TypeId} {x y:Operand} {k:IntKind} {D:TypeDesc} {rest:List Oper}
theorem ycC {c:Nat} {oc:Oper} (i:Nat) (d:Tmp) (v:Value) (b q:Nat) (hu:P.underlying ty=some (.int k)) (hS:S w) (hh:∀ w,S w→w.cell? ⟨b,q,none⟩=some v) (h:qP P md ops Q S c n (l.setIfInBounds i true) a' w) (hi:ops[i]?=some oi:=by rfl) (hdst:oi.dst=some d:=by rfl) (hc:ops[c]?=some oc:=by rfl) (hb:(oc.after.any fun e=>Region.binds md e&&e.on == i)=true:=by kernel_rfl) (ho:oi.op=.load ty x:=by rfl) (hx:a.eval x=.pointer (some ⟨b,q,none⟩):=by rfl) (hw:Region.wanted oi (yielded ops a.tmps)=true:=by rfl) (hl:l.getD c true=false:=by kernel_rfl) (hg:(Region.noSelect ops && (Region.free md ops l i && (Region.ready md ops l).contains i))=true:=by kernel_rfl) (hQ:∀ c a w,Q (.panic c) (a.put (some d) v) w→Q (.panic c) a w:=by exact fun _ _ _ h=>h) (he:a.put (some d) v=a':=by simp only [aP,lI,l0,lS] <;> rfl) : qP P md ops Q S c (n+1) l a w:=by
 subst he
 rw [Bool.and_eq_true,Bool.and_eq_true] at hg
 exact eP (some d) hdst k v b q ty x hi hc hb ho hx hw hg.1 hg.2.1 hl hg.2.2 hQ hu hS hh h
end
section
variable {P:Program} {ops:Array Oper} {Q:Exit→Act→World→Prop} {md:Region.Mode} {S:World→Prop} {n:Nat} {l:Array Bool} {a a':Act} {w:World} {oi:Oper} {ty:TypeId} {x y:Operand} {k:IntKind} {D:TypeDesc} {rest:List Oper}
theorem yaC {c:Nat} {f:FuncId} {args:Array Value} {R:Ending→World→Prop} (i:Nat) (d:Tmp) (hc:Calls P f args w R) (hK:∀ e w',R e w'→∃ v,e=.returned v∧S w'∧qP P md ops Q S c n (l.setIfInBounds i true) (a.put (some d) v) w') (hr:Region.ready md ops l=[i]:=by kernel_rfl) (hi:ops[i]?=some oi:=by rfl) (hdst:oi.dst=some d:=by rfl) (hw:Region.wanted oi (yielded ops a.tmps)=true:=by rfl) (he:∀ w,(execOp a.eval oi).run P w=.ok (.enter f args) w:=by intro _; kernel_rfl) : qP P md ops Q S c (n+1) l a w:=x3o (some d) hdst hr hi hw he hc hK
end
end
def bl (l:List Int):Nat→Int:=fun j=>l.getD j 0
theorem Kr.setCell {w w':World} {m:Nat} {l:List (Nat × IntKind × Nat × (Nat→Int))} {R:List (Nat × Nat)} (h:Kr w m l R w') (l':List (Nat × IntKind × Nat × (Nat→Int))) (b:Nat) (k:IntKind) (n:Nat) (f:Nat→Int) (i:Nat) (hi:i<n) (x:Int) (hp:(b,k,n,f)∈l) (hl:∀ p∈l',p∈l) (hne:∀ p∈l',p.1≠b) (hlo:w.heap.size≤b) :
 Kr w m ((b,k,n,upd f i x)::l') R (w'.setCell ⟨b,i,none⟩ (.int k x)) :=
 ((h.loose l' b k n f hp hl hne hlo).poke b n mS i [.int k x]).settle R b k n (upd f i x) mS (fun _ hq=>mT _ hq) (fun q hq=>(h.apart _ hp q hq).symm) ((h.get _ _ _ _ hp).set i hi x)
theorem Kr.boxO {w w':World} {m:Nat} {l:List (Nat × IntKind × Nat × (Nat→Int))} {R:List (Nat × Nat)} (h:Kr w m l R w') (k:IntKind) (n:Nat) (f:Nat→Int) (o:Obj) (b:Nat) (hb:b=w'.heap.size) (hn:Has (w'.alloc o) b k n f):Kr w (b+1) ((b,k,n,f)::l) R (w'.alloc o):=by
 have hc:=h.call ((Below.refl w'.heap.size w').alloc (xnR _) o)
 refine ⟨fun p hp=>?_,fun q hq=>⟨(hc.room q hq).1,by have:=(hc.room q hq).2.1; have:=h.size; omega,(hc.room q hq).2.2⟩,fun p hp q hq=>?_,by simp; omega,by have:=h.base; have:=h.size; omega,hc.below⟩
 · rcases xc1 hp with rfl | hp
   · exact ⟨hn,by simp⟩
   exact ⟨(hc.rows p hp).1,by have:=(hc.rows p hp).2; have:=h.size; omega⟩
 rcases xc1 hp with rfl | hp
 · exact Zy
 exact h.apart p hp q hq
theorem eV (w:World) (k:IntKind) (n:Nat) (f:Nat→Int) (t:TypeId):Has (w.alloc (.cells (row k n f).toArray t ((row k n f).toArray.size,(row k n f).toArray.size+1))) w.heap.size k n f:=by
 have e:(w.alloc (.cells (row k n f).toArray t ((row k n f).toArray.size,(row k n f).toArray.size+1))).heap[w.heap.size]?=some (.cells (row k n f).toArray t ((row k n f).toArray.size,(row k n f).toArray.size+1)):=by
  show (w.heap.push _)[w.heap.size]?=_
  simp
 refine ⟨fun j hj=>?_,fun j hj=>?_⟩
 · simp only [World.cell?,e]; simpa using xG k n f j hj
 unfold World.frozen?
 rw [e]
 simp [jX]
 omega
theorem gB {P:Program} {o:Oper} {a:Act} {w:World} (t e:TypeId) (C:Array Value) (n c:Nat) (x:Operand) (ho:o.op=.convert t t x) (hx:a.eval x=.slice (some ⟨w.heap.size,0,none⟩) n c) (ht:P.underlying t=some (.slice e)) (he:P.underlying e=some (.int .u8)) :
 (execOp a.eval o).run P (w.alloc (.cells C e))=.ok (.value (.slice (some ⟨w.heap.size,0,none⟩) n c)) (w.alloc (.cells C e (C.size,C.size+1))):=by
 unfold execOp
 simp only [ho,hx,Sem.run_bind,Lib.run_convert_bytes_const w t e C n c ht he,xO,Sem.run_pure]
theorem Kr.drewN {w w':World} {m:Nat} {l:List (Nat × IntKind × Nat × (Nat→Int))} {R:List (Nat × Nat)} (h:Kr w m l R w') {q:Nat}:Kr w m l R (w'.drewN q):=⟨fun p hp=>⟨⟨(h.rows p hp).1.cell,(h.rows p hp).1.free⟩,(h.rows p hp).2⟩,h.room,h.apart,h.size,h.base,zZ h.below⟩
theorem kS {P:Program} {o:Oper} {a:Act} (k:IntKind) (n n':Int) (t t':TypeId) (x y:Operand) (ho:o.op=.binOp .eql t x y t') (hx:a.eval x=.int k n) (hy:a.eval y=.int k n') (r:Bool) (hr:(n == n')=r) (w:World) :
 (execOp a.eval o).run P w=.ok (.value (.bool r)) w:=by
 unfold execOp
 simp only [ho,hx,hy,Sem.run_bind,eqGuard_at_int,binOp_eql,Sem.run_pure,xO,hr]
section
section
variable {P:Program} {o:Oper} {a:Act}
theorem vM (k:IntKind) (n n' r:Int) (t t':TypeId) (x y:Operand) (ho:o.op=.binOp .add t x y t') (hx:a.eval x=.int k n) (hy:a.eval y=.int k n') (hr:k.wrap (n+n')=r) (w:World):(execOp a.eval o).run P w=.ok (.value (.int k r)) w:=by
 unfold execOp
 simp only [ho,hx,hy,Sem.run_bind,eqGuard_at_int,binOp_add,Op.intArith,Sem.run_pure,xO,hr]
theorem x4l (k:IntKind) (n n' r:Int) (t t':TypeId) (x y:Operand) (ho:o.op=.binOp .sub t x y t') (hx:a.eval x=.int k n) (hy:a.eval y=.int k n') (hr:k.wrap (n-n')=r) (w:World):(execOp a.eval o).run P w=.ok (.value (.int k r)) w:=by
 unfold execOp
 simp only [ho,hx,hy,Sem.run_bind,eqGuard_at_int,binOp_sub,Op.intArith,Sem.run_pure,xO,hr]
theorem aM (k:IntKind) (n n' r:Int) (t t':TypeId) (x y:Operand) (ho:o.op=.binOp .mul t x y t') (hx:a.eval x=.int k n) (hy:a.eval y=.int k n') (hr:k.wrap (n*n')=r) (w:World):(execOp a.eval o).run P w=.ok (.value (.int k r)) w:=by
 unfold execOp
 simp only [ho,hx,hy,Sem.run_bind,eqGuard_at_int,binOp_mul,Op.intArith,Sem.run_pure,xO,hr]
theorem j2i (k:IntKind) (n n' r:Int) (t t':TypeId) (x y:Operand) (ho:o.op=.binOp .xor t x y t') (hx:a.eval x=.int k n) (hy:a.eval y=.int k n') (hr:bits .xor k n n'=r) (w:World):(execOp a.eval o).run P w=.ok (.value (.int k r)) w:=by
 unfold execOp
 simp only [ho,hx,hy,Sem.run_bind,eqGuard_at_int,binOp_xor,intBits_xor,Sem.run_pure,xO,hr]
theorem mU (k:IntKind) (n n' r:Int) (t t':TypeId) (x y:Operand) (ho:o.op=.binOp .rem t x y t') (hx:a.eval x=.int k n) (hy:a.eval y=.int k n') (h0:n'≠0) (hr:n.tmod n'=r) (w:World):(execOp a.eval o).run P w=.ok (.value (.int k r)) w:=by
 unfold execOp
 simp only [ho,hx,hy,Sem.run_bind,eqGuard_at_int,binOp_rem,Op.intDiv,if_neg h0,Sem.run_pure,xO,hr]
theorem x2d (k:IntKind) (n n' r:Int) (t t':TypeId) (x y:Operand) (ho:o.op=.binOp .quo t x y t') (hx:a.eval x=.int k n) (hy:a.eval y=.int k n') (h0:n'≠0) (hr:k.wrap (n.tdiv n')=r) (w:World):(execOp a.eval o).run P w=.ok (.value (.int k r)) w:=by
 unfold execOp
 simp only [ho,hx,hy,Sem.run_bind,eqGuard_at_int,binOp_quo,Op.intDiv,if_neg h0,Sem.run_pure,xO,hr]
theorem q0f (k yk:IntKind) (n y r:Int) (t t':TypeId) (x x':Operand) (ho:o.op=.binOp .shr t x x' t') (hx:a.eval x=.int k n) (hy:a.eval x'=.int yk y) (h0:0≤y) (hr:n/2^min y.toNat k.bits=r) (w:World):(execOp a.eval o).run P w=.ok (.value (.int k r)) w:=by
 unfold execOp
 simp only [ho,hx,hy,Sem.run_bind,eqGuard_at_int,binOp_shr,shift_shr_any k yk n y h0,Sem.run_pure,xO,hr]
theorem mZ (k k':IntKind) (n r:Int) (t t':TypeId) (x:Operand) (ho:o.op=.convert t t' x) (ht:(P.underlying t).isSome=true) (ht':P.underlying t'=some (.int k')) (hk:P.intKind t'=k') (hx:a.eval x=.int k n) (hr:k'.wrap n=r) (w:World):(execOp a.eval o).run P w=.ok (.value (.int k' r)) w:=by
 subst hk
 unfold execOp
 simp only [ho,hx,Sem.run_bind,run_convert_int w t t' k n ht ht',Sem.run_pure,xO,hr]
theorem gP (k:IntKind) (n n':Int) (t t':TypeId) (x y:Operand) (ho:o.op=.binOp .lss t x y t') (hx:a.eval x=.int k n) (hy:a.eval y=.int k n') (r:Bool) (hr:decide (n<n')=r) (w:World):(execOp a.eval o).run P w=.ok (.value (.bool r)) w:=by
 unfold execOp
 simp only [ho,hx,hy,Sem.run_bind,eqGuard_at_int,binOp_lss,Sem.run_pure,xO,hr]
theorem xE (k:IntKind) (n n':Int) (t t':TypeId) (x y:Operand) (ho:o.op=.binOp .neq t x y t') (hx:a.eval x=.int k n) (hy:a.eval y=.int k n') (r:Bool) (hr:(n != n')=r) (w:World):(execOp a.eval o).run P w=.ok (.value (.bool r)) w:=by
 unfold execOp
 simp only [ho,hx,hy,Sem.run_bind,eqGuard_at_int,binOp_neq,Sem.run_pure,xO,hr]
theorem gQ (x:Operand) (t e:TypeId) (sp:Option Addr) (n c:Nat) (ho:o.op=.call { callee:=.builtin .len,args:=#[x],argTypes:=#[t] }) (ht:P.underlying t=some (.slice e)) (hx:a.eval x=.slice sp n c) (w:World):(execOp a.eval o).run P w=.ok (.value (.int .i64 (n:Int))) w:=by
 simp [execOp,ho,resolve,invoke,builtin,hx,Builtin.len_,run_underlying ht,goInt]
theorem x6n (k k':IntKind) (n n' r:Int) (x y:Operand) (t t':TypeId) (ho:o.op=.call { callee:=.builtin .min,args:=#[x,y],argTypes:=#[t,t'] }) (hx:a.eval x=.int k n) (hy:a.eval y=.int k' n') (hr:(if n'<n then n' else n)=r) (w:World):(execOp a.eval o).run P w=.ok (.value (.int k r)) w:=by
 simp [execOp,ho,resolve,invoke,builtin,hx,hy,run_min_int2,hr]
theorem mY {w:World} (t:TypeId) (x y:Operand) (p q v:Value) (ho:o.op=.slice t x (some y) none none) (hx:a.eval x=p) (hy:a.eval y=q) (hr:(Instr.sliceAt t p (some q) none none).run P w=.ok v w) :
 (execOp a.eval o).run P w=.ok (.value v) w:=by
 unfold execOp
 simp only [ho,hx,hy,Option.map_some,Option.map_none,Sem.run_bind,hr,xO,Sem.run_pure]
theorem j0a {w:World} (t:TypeId) (x y:Operand) (p q v:Value) (ho:o.op=.slice t x none (some y) none) (hx:a.eval x=p) (hy:a.eval y=q) (hr:(Instr.sliceAt t p none (some q) none).run P w=.ok v w) :
 (execOp a.eval o).run P w=.ok (.value v) w:=by
 unfold execOp
 simp only [ho,hx,hy,Option.map_some,Option.map_none,Sem.run_bind,hr,xO,Sem.run_pure]
theorem yR {w:World} (t:TypeId) (x:Operand) (p v:Value) (ho:o.op=.slice t x none none none) (hx:a.eval x=p) (hr:(Instr.sliceAt t p none none none).run P w=.ok v w) :
 (execOp a.eval o).run P w=.ok (.value v) w:=by
 unfold execOp
 simp only [ho,hx,Option.map_none,Sem.run_bind,hr,xO,Sem.run_pure]
def txt (n:Nat) (z:Nat→Int):ByteArray:=strOfNums ((List.range n).map z)
theorem vB (t e dst:TypeId) (x:Operand) (ho:o.op=.convert t dst x) (ht:P.underlying t=some (.slice e)) (he:P.underlying e=some (.int .u8)) (hd:P.underlying dst=some .string) (sp:Option Addr) (len cap:Nat) (z:Nat→Int) (hx:a.eval x=.slice sp len cap) (w:World) (hs:Src w sp len z) (hn:sp=none→len=0) :
 (execOp a.eval o).run P w=.ok (.value (.string (txt len z))) w:=by
 have h:(convert t dst (.slice sp len cap)).run P w=.ok (.string (txt len z)) w:=by
  cases sp with
  | none =>
    obtain rfl:=hn rfl; rw [run_convert_bytes_nil w t e ht he 0 cap dst hd]; rfl
  | some ad =>
    have hl:(loadCells ad len).run P w=.ok (((List.range len).map z).map (Value.int .u8)).toArray w:=by
     have:=run_loadCells_list (P:=P) w ad (((List.range len).map z).map (Value.int .u8)) (fun j v hj=>by
      rw [List.map_map] at hj; have hjl:j<len:=by
       have:=(List.getElem?_eq_some_iff.1 hj).1; simpa using this
      obtain ⟨ad',he',hc⟩:=hs j hjl; injection he' with he'
      subst he'; rw [hc,← hj]; simp [hjl])
     simpa using this
    rw [run_convert_bytes_string w t dst e _ len cap ht he hd,run_bytesToString w ad len cap _ hl,foldl_push_bytes]; simp [txt,strOfNums,ByteArray.empty,ByteArray.emptyWithCapacity]; rfl
 unfold execOp
 simp only [ho,hx,Sem.run_bind,h,xO,Sem.run_pure]
theorem x5n (s s':ByteArray) (t t':TypeId) (x y:Operand) (ho:o.op=.binOp .eql t x y t') (hx:a.eval x=.string s) (hy:a.eval y=.string s') (h:s=s') (w:World):(execOp a.eval o).run P w=.ok (.value (.bool true)) w:=by
 subst h
 unfold execOp
 simp only [ho,hx,hy,Sem.run_bind,eqGuard_at_string,binOp_string_eql,Sem.run_pure,xO,beq_self_eq_true]
end
section
variable {P:Program} {ops:Array Oper} {Q:Exit→Act→World→Prop} {md:Region.Mode} {S:World→Prop}
theorem x0i {i:Nat} {oi:Oper} (dst:Option Tmp) (hdst:oi.dst=dst) {fuel:Nat} {listed:Array Bool} {a:Act} {w:World} (v:Value) (hi:ops[i]?=some oi) (hw:Region.wanted oi (yielded ops a.tmps)=true)
 (hv:∀ w,S w→(execOp a.eval oi).run P w=.ok (.value v) w)
 (hs:Region.noSelect ops=true) (hf:Region.free md ops listed i=true) (hr:(Region.ready md ops listed).contains i=true)
 (hQ:∀ c a w,Q (.panic c) (a.put dst v) w→Q (.panic c) a w) (hS:S w)
 (h:wpAnyH P md ops Q S fuel (listed.setIfInBounds i true) (a.put dst v) w):wpAnyH P md ops Q S (fuel+1) listed a w:=by
 subst hdst
 exact wpAnyH_take hi hs hf hr hQ (Or.inl ⟨hw,hv⟩) hS h
section
variable {P:Program} {ops:Array Oper} {Q:Exit→Act→World→Prop} {md:Region.Mode} {S:World→Prop}
theorem xrH {oi:Oper} {n:Nat} {l:Array Bool} {a a':Act} {w:World} (i:Nat) (d:Tmp) (hi:ops[i]?=some oi) (v:Value) (hv:∀ w,S w→(execOp a.eval oi).run P w=.ok (.value v) w) (hS:S w) (h:wpAnyH P md ops Q S n (l.setIfInBounds i true) a' w)
 (hdst:oi.dst=some d:=by rfl) (hw:Region.wanted oi (yielded ops a.tmps)=true:=by rfl) (hg:(Region.noSelect ops&&(Region.free md ops l i&&(Region.ready md ops l).contains i))=true:=by kernel_rfl) (hQ:∀ c a w,Q (.panic c) (a.put (some d) v) w→Q (.panic c) a w:=by exact fun _ _ _ h=>h) (he:a.put (some d) v=a':=by simp only [aP,lI,l0,lS] <;> rfl):wpAnyH P md ops Q S (n+1) l a w:=by
 subst he
 rw [xbA,xbA] at hg
 exact x0i (some d) hdst v hi hw hv hg.1 hg.2.1 hg.2.2 hQ hS h
end
theorem dA {i:Nat} {oi:Oper} (dst:Option Tmp) (hdst:oi.dst=dst) {fuel:Nat} {listed:Array Bool} {a:Act} {w:World} (k:IntKind) (v:Value) (p:Addr) (ty:TypeId) (x:Operand) (hi:ops[i]?=some oi)
 (ho:oi.op=.load ty x) (hx:a.eval x=.pointer (some p)) (hw:Region.wanted oi (yielded ops a.tmps)=true)
 (hs:Region.noSelect ops=true) (hf:Region.free md ops listed i=true) (hr:(Region.ready md ops listed).contains i=true)
 (hQ:∀ c a w,Q (.panic c) (a.put dst v) w→Q (.panic c) a w)
 (hu:P.underlying ty=some (.int k))
 (hS:S w) (hh:∀ w,S w→w.cell? p=some v)
 (h:wpAnyH P md ops Q S fuel (listed.setIfInBounds i true) (a.put dst v) w):wpAnyH P md ops Q S (fuel+1) listed a w:=by
 refine x0i dst hdst v hi hw (fun w hw'=>?_) hs hf hr hQ hS h
 have hagg:(isAgg ty).run P w=.ok false w:=by
  exact Zu
 have e:(loadVar ty p).run P w=.ok v w:=by simp [loadVar,Sem.run_bind,hagg,hh w hw']
 exact Qh
theorem zV {o:Oper} {rest:List Oper} {a:Act} {w:World} (v:Value) (hw:Region.wanted o (yielded ops a.tmps)=true) (hv:(execOp a.eval o).run P w=.ok (.value v) w)
 (h:wpList P ops Q rest (a.put o.dst v) w):wpList P ops Q (o::rest) a w:=by
 unfold wpList
 rw [if_pos hw]
 refine .inl ?_
 unfold Oper.wp
 rw [hv]
 exact h
theorem x1r {o':Oper} {rest:List Oper} {a:Act} {w:World} (k:IntKind) (v:Int) (b o:Nat) (ty:TypeId) (x y:Operand) (hw:Region.wanted o' (yielded ops a.tmps)=true) (ho:o'.op=.store ty x y) (hx:a.eval x=.pointer (some ⟨b,o,none⟩)) (hy:a.eval y=.int k v)
 (hc:(w.cell? ⟨b,o,none⟩).isSome=true) (hf:w.frozen? ⟨b,o,none⟩=false) (hz:(P.info? ty).map (·.size)=some 1)
 (h:wpList P ops Q rest (a.put o'.dst undef) (w.setCell ⟨b,o,none⟩ (.int k v))):wpList P ops Q (o'::rest) a w:=by
 unfold wpList
 rw [if_pos hw]
 refine .inl ?_
 have he:(execOp a.eval o').run P w=.ok .skip (w.setCell ⟨b,o,none⟩ (.int k v)):=by
  exact Xq
 unfold Oper.wp
 rw [he]
 exact h
end
section
variable {P:Program} {ops:Array Oper} {Q:Exit→Act→World→Prop} {md:Region.Mode} {S:World→Prop} {n:Nat} {l:Array Bool} {a a':Act} {w:World} {oi:Oper} {ty:TypeId} {x y:Operand} {k:IntKind} {D:TypeDesc} {rest:List Oper}
theorem ywL (k:IntKind) (v:Int) (b q:Nat) (hc:(w.cell? ⟨b,q,none⟩).isSome=true) (hf:w.frozen? ⟨b,q,none⟩=false) (hz:(P.info? ty).map (·.size)=some 1) (h:wpList P ops Q rest a' (w.setCell ⟨b,q,none⟩ (.int k v))) (hw:Region.wanted oi (yielded ops a.tmps)=true:=by rfl) (ho:oi.op=.store ty x y:=by rfl) (hx:a.eval x=.pointer (some ⟨b,q,none⟩):=by rfl) (hy:a.eval y=.int k v:=by rfl) (he:a.put oi.dst undef=a':=by simp only [Act.put] <;> rfl) : wpList P ops Q (oi::rest) a w:=x1r k v b q ty x y hw ho hx hy hc hf hz (he ▸ h)
end
theorem Has.src0 {w:World} {b n:Nat} {f:Nat→Int} (h:Has w b .u8 n f):Src w (some ⟨b,0,none⟩) n f:=fun j hj=>⟨_,rfl,by rw [Addr.add_mid,Nat.zero_add]; exact h.cell j hj⟩
theorem Src.congr {w:World} {sp:Option Addr} {len:Nat} {z y:Nat→Int} (h:Src w sp len z) (e:∀ j,j<len→z j=y j):Src w sp len y:=fun j hj=>by
 obtain ⟨ad,h1,h2⟩:=h j hj
 exact ⟨ad,h1,by rw [← e j hj]; exact h2⟩
end
section
def Own (w:World) (base:Nat) (e:TypeId) (k:IntKind) (n:Nat) (f:Nat→Int) (v:Value):Prop:=w.ownsRow base e 1 v n (row k n f)
def app (f:Nat→Int) (n:Nat) (h:Nat→Int):Nat→Int:=fun j=>if j<n then f j else h (j-n)
theorem j8b (k:IntKind) (n m:Nat) (f h:Nat→Int):row k n f++row k m h=row k (n+m) (app f n h):=by
 unfold row
 rw [List.range_add,List.map_append,List.map_map]
 congr 1
 · refine List.map_congr_left fun j hj=>?_
   unfold app; rw [if_pos (List.mem_range.1 hj)]
 refine List.map_congr_left fun j hj=>?_
 simp [app]
 omega
theorem Own.congr {w:World} {base:Nat} {e:TypeId} {k:IntKind} {n:Nat} {f g:Nat→Int} {v:Value} (h:Own w base e k n f v) (he:∀ j,j<n→f j=g j):Own w base e k n g v:=by
 unfold Own at *
 rw [← yV k n he]; exact h
theorem eG {w w':World} (l:Below w.heap.size w w'):w.grownBy w' none:=⟨l.os,l.tape,l.output,l.size,fun j hj _=>l.block j hj⟩
theorem Own.below {w w':World} {base:Nat} {e:TypeId} {k:IntKind} {n:Nat} {f:Nat→Int} {v:Value} (h:Own w base e k n f v) (l:Below w.heap.size w w'):Own w' base e k n f v :=
 World.ownsRow.kept h (eG l) (by cases hv:v.ownBlock <;> simp)
theorem Own.drew {w:World} {base:Nat} {e:TypeId} {k:IntKind} {n:Nat} {f:Nat→Int} {v:Value} (h:Own w base e k n f v):Own w.drew base e k n f v:=h.below (Below.refl _ _).drew
theorem Own.alloc {w:World} {base:Nat} {e:TypeId} {k:IntKind} {n:Nat} {f:Nat→Int} {v:Value} (h:Own w base e k n f v) (o:Obj):Own (w.alloc o) base e k n f v:=World.ownsRow.alloc h o
theorem Own.lit (w:World) (base:Nat) (e:TypeId) (k:IntKind) (n:Nat) (f:Nat→Int) (hb:base≤w.heap.size) (hn:n≤maxLen):Own (w.alloc (.cells (row k n f).toArray e)) base e k n f (.slice (some ⟨w.heap.size,0,none⟩) n n) :=
 ⟨by rw [jX,Nat.mul_one],.inr ⟨w.heap.size,n,_,rfl,hb,heap_alloc_new w _,xnR _,hn,by rw [List.size_toArray,jX,Nat.mul_one],by rw [Nat.mul_one]; exact List.take_of_length_le (by rw [jX]; exact xnR _)⟩⟩
theorem Own.has {w:World} {base:Nat} {e:TypeId} {k:IntKind} {n:Nat} {f:Nat→Int} {v:Value} (h:Own w base e k n f v) (hn:0<n):∃ g cap,v=.slice (some ⟨g,0,none⟩) n cap∧base≤g∧g<w.heap.size∧Has w g k n f:=by
 have hc:=h
 rcases h.2 with ⟨rfl,h0⟩ | ⟨g,cap,cur,rfl,hb,hg,_⟩
 · omega
 refine ⟨g,cap,rfl,hb,(Array.getElem?_eq_some_iff.1 hg).1,fun j hj=>?_,fun j _=>?_⟩
 · have:=World.ownsRow.cells hc (g:=g) rfl j _ (xG k n f j hj); rw [Addr.add_mid,nZ] at this; exact this
 unfold World.frozen?
 rw [hg]
 simp
theorem Own.isSlice {w:World} {base:Nat} {e:TypeId} {k:IntKind} {n:Nat} {f:Nat→Int} {v:Value} (h:Own w base e k n f v):∃ sp cap,v=.slice sp n cap∧(sp=none→n=0)∧∀ j,j<n→∃ ad,sp=some ad∧w.cell? (ad.add j)=some (.int k (f j)):=by
 rcases Nat.eq_zero_or_pos n with h0 | h0
 · subst h0; rcases h.2 with ⟨rfl,_⟩ | ⟨g,cap,cur,rfl,_⟩
   · exact ⟨_,_,rfl,fun _=>rfl,fun j hj=>by omega⟩
   exact ⟨_,_,rfl,fun _=>rfl,fun j hj=>by omega⟩
 obtain ⟨g,cap,rfl,_,_,hh⟩:=h.has h0
 exact ⟨_,_,rfl,fun e=>(by cases e),fun j hj=>⟨_,rfl,by rw [Addr.add_mid,nZ]; exact hh.cell j hj⟩⟩
theorem Own.bytes {w:World} {base:Nat} {e:TypeId} {n:Nat} {f:Nat→Int} {v:Value} (h:Own w base e .u8 n f v):∃ sp cap,v=.slice sp n cap∧n≤cap∧Src w sp n f:=by
 obtain ⟨sp,cap,rfl,_,hs⟩:=h.isSlice
 refine ⟨sp,cap,rfl,?_,hs⟩
 rcases h.2 with ⟨hv,h0⟩ | ⟨g,cap',cur,hv,_,_,hnc,_⟩
 · omega
 injection hv with _ _ hc
 omega
theorem Kr.grown {w w' w'':World} {m:Nat} {l:List (Nat × IntKind × Nat × (Nat→Int))} {R:List (Nat × Nat)} (h:Kr w m l R w') {r:Option Nat} (g:w'.grownBy w'' r) (hr:∀ b,r=some b→m≤b):Kr w m l R w'':=by
 have hb:Below m w' w'':=⟨g.os,g.tape,g.output,g.size,fun j hj=>g.block j (xnL hj h.size) KJ⟩
 exact ⟨fun p hp=>⟨(h.rows p hp).1.below hb (h.rows p hp).2,(h.rows p hp).2⟩,fun q hq=>⟨xF (h.room q hq).1 hb (h.room q hq).2.1,(h.room q hq).2⟩,h.apart,xnT h.size g.size,h.base,h.below.trans (hb.mono h.base)⟩
theorem Kr.grown' {w w' w'':World} {m:Nat} {l:List (Nat × IntKind × Nat × (Nat→Int))} {R:List (Nat × Nat)} (h:Kr w m l R w') {r:Option Nat} (g:w'.grownBy w'' r) (hl:∀ p∈l,r≠some p.1) (hR:∀ q∈R,r≠some q.1) (hr:∀ b,r=some b→w.heap.size≤b):Kr w m l R w'':=by
 have hc:∀ b o,b<m→r≠some b→w''.cell? ⟨b,o,none⟩=w'.cell? ⟨b,o,none⟩∧w''.frozen? ⟨b,o,none⟩=w'.frozen? ⟨b,o,none⟩:=fun b o hb hne=>by
  have e:=g.block b (xnL hb h.size) (fun e=>hne e.symm); exact ⟨World.cell?_of_block (a:=⟨b,o,none⟩) e,World.frozen?_of_block (a:=⟨b,o,none⟩) e⟩
 have hb:Below w.heap.size w' w'':=⟨g.os,g.tape,g.output,g.size,fun j hj=>g.block j (xnL hj (xnT h.base h.size)) KJ⟩
 refine ⟨fun p hp=>⟨⟨fun j hj=>?_,fun j hj=>?_⟩,(h.rows p hp).2⟩,fun q hq=>⟨fun j hj=>?_,(h.room q hq).2⟩,h.apart,xnT h.size g.size,h.base,h.below.trans hb⟩
 · rw [(hc p.1 j (h.rows p hp).2 (hl p hp)).1]; exact (h.rows p hp).1.cell j hj
 · rw [(hc p.1 j (h.rows p hp).2 (hl p hp)).2]; exact (h.rows p hp).1.free j hj
 rw [(hc q.1 (0+j) (h.room q hq).2.1 (hR q hq)).1,(hc q.1 (0+j) (h.room q hq).2.1 (hR q hq)).2]; exact (h.room q hq).1 j hj
theorem Kr.own {w w':World} {m:Nat} {l:List (Nat × IntKind × Nat × (Nat→Int))} {R:List (Nat × Nat)} (h:Kr w m l R w') {g:Nat} {k:IntKind} {n:Nat} {f:Nat→Int} (hg:m≤g) (hl:g<w'.heap.size) (hf:Has w' g k n f):Kr w w'.heap.size ((g,k,n,f)::l) R w' :=
 ⟨fun p hp=>by
  rcases xc1 hp with rfl | hp
  · exact ⟨hf,hl⟩
  · exact ⟨(h.rows p hp).1,xnL (h.rows p hp).2 h.size⟩,fun q hq=>⟨(h.room q hq).1,xnL (h.room q hq).2.1 h.size,(h.room q hq).2.2⟩,fun p hp q hq=>by
  rcases xc1 hp with rfl | hp
  · have:=(h.room q hq).2.1; simp only; omega
  · exact h.apart p hp q hq,xnR _,xnT h.base h.size,h.below⟩
section
variable {P:Program}
structure One (P:Program) (e:TypeId) (k:IntKind) (bytes:Nat):Prop where
 info:(P.info? e).map (fun i=>(i.zero,i.bytes,i.size))=some (some (.int k 0),bytes,1)
theorem jH {w:World} {base:Nat} {t ty e:TypeId} {k:IntKind} {bytes n:Nat} {f:Nat→Int} {v:Value} (ht:P.underlying t=some (.slice e)) (he:One P e k bytes) (h:Own w base e k n f v)
 (sp:Option Addr) (m c:Nat) (hv:Nat→Int) (hs:∀ j,j<m→∃ ad,sp=some ad∧w.cell? (ad.add j)=some (.int k (hv j))) (hz:sp=none→c=0) (h63:n+m≤maxLen) (hb:(n+m)*bytes≤140737488355328) (hbase:base≤w.heap.size) :
 ∃ v' w',(Builtin.append_ #[t,t] ty #[v,.slice sp m c]).run P w=.ok v' w'∧Own w' base e k (n+m) (app f n hv) v'∧w.grownBy w' v.ownBlock∧(∀ g,v'.ownBlock=some g→v.ownBlock=some g∨g=w.heap.size):=by
 obtain ⟨i,hi,hq⟩:=Option.map_eq_some_iff.1 he.info
 simp only [Prod.mk.injEq] at hq
 obtain ⟨h1,h2,h3⟩:=hq
 cases sp with
 | none =>
   have hm:m=0:=by
    rcases Nat.eq_zero_or_pos m with h0 | h0
    · exact h0
    obtain ⟨ad,e,_⟩:=hs 0 h0; cases e
   subst hm; obtain rfl:=hz rfl; refine ⟨v,w,run_append_owned_none (P:=P) (w:=w) base t ty e i 1 ht hi v n _ h,h.congr fun j hj=>by unfold app; rw [if_pos hj],⟨rfl,rfl,rfl,xnR _,fun _ _ _=>rfl⟩,fun g hg=>.inl hg⟩
 | some ad =>
   obtain ⟨v',w',hr,ho,hg,_⟩:=run_append_own (P:=P) w base t ty e i (.int k 0) 1 bytes ht hi h1 h3 h2 rfl JG v n _ h ad m c (row k m hv) (by rw [jX,Nat.mul_one]) (fun j u hu=>by
    obtain ⟨hj,rfl⟩:=xS hu; obtain ⟨ad',e',hc⟩:=hs j hj; injection e' with e'
    subst e'; exact hc) (jT k m hv) h63 hb hbase
   rw [j8b] at ho; refine ⟨v',w',hr,ho,hg,?_⟩; have hnews:∀ j u,(row k m hv)[j]?=some u→w.cell? (ad.add j)=some u:=fun j u hu=>by
    obtain ⟨hj,rfl⟩:=xS hu; obtain ⟨ad',e',hc⟩:=hs j hj; injection e' with e'
    subst e'; exact hc
   have hml:(row k m hv).length=m*i.size:=by rw [jX,h3,Nat.mul_one]
   rcases h.2 with ⟨rfl,rfl⟩ | ⟨g,cap,cur,rfl,hbg,hgg,hnc,hcm,hcs,htake⟩
   · by_cases hm:m=0
     · subst hm; have hr2:(Builtin.append_ #[t,t] ty #[.slice none 0 0,.slice (some ad) 0 c]).run P w=.ok (.slice none 0 0) w:=by
        simp [Builtin.append_,run_underlying ht,sizeOf,typeInfo,hi,Builtin.lenOf,Builtin.firstCells,loadCells,loadCellsFrom]
       rw [hr] at hr2; injection hr2 with hv' _
       rw [hv']; intro g hg'
       cases hg'
     have hr2:=run_append_nil (P:=P) w t ty e i (.int k 0) ht hi h1 ad m c (row k m hv) hml hnews JK (by unfold maxLen at h63; omega) (by rw [h2]; have:=hb; simp only [nZ] at this; omega); rw [hr] at hr2; injection hr2 with hv' _
     rw [hv']; intro g hg'; injection hg' with hg'
     exact .inr hg'.symm
   by_cases hroom:n+m≤cap
   · have hr2:=run_append_room (P:=P) w t ty e i ht hi g n cap cur hgg ad m c (row k m hv) hml hnews (jT k m hv) hroom (by rw [hml,hcs,h3]; omega); rw [hr] at hr2; injection hr2 with hv' _
     rw [hv']; intro g' hg'; exact .inl hg'
   have hr2:=run_append_grow (P:=P) w t ty e i (.int k 0) ht hi h1 ⟨g,0,none⟩ n cap (row k n f) (by rw [jX,h3,Nat.mul_one]) (World.ownsRow.cells h (g:=g) rfl) ad m c (row k m hv) hml hnews JK (by unfold maxLen at h63; omega) (by rw [h2]; exact growslice_fits JK hb); rw [hr] at hr2; injection hr2 with hv' _
   rw [hv']; intro g' hg'; injection hg' with hg'
   exact .inr hg'.symm
theorem jW {o:Oper} {a:Act} {w w':World} (s x:Operand) (t:TypeId) (v u r:Value) (ho:o.op=.call { callee:=.builtin .append,args:=#[s,x],argTypes:=#[t,t] }) (hs:a.eval s=v) (hx:a.eval x=u) (hr:(Builtin.append_ #[t,t] o.type #[v,u]).run P w=.ok r w') :
 (execOp a.eval o).run P w=.ok (.value r) w':=by
 exact Xj
end
end
theorem Kr.congr {w w':World} {m:Nat} {l:List (Nat × IntKind × Nat × (Nat→Int))} {R:List (Nat × Nat)} {b:Nat} {k:IntKind} {n:Nat} {f:Nat→Int} (h:Kr w m ((b,k,n,f)::l) R w') (g:Nat→Int) (e:∀ j,j<n→f j=g j):Kr w m ((b,k,n,g)::l) R w' :=
 ⟨fun p hp=>by
  rcases xc1 hp with rfl | hp
  · exact ⟨(h.get _ _ _ _ mS).congr e,(h.rows _ mS).2⟩
  · exact h.rows p (mT _ hp),h.room,fun p hp q hq=>by
  rcases xc1 hp with rfl | hp
  · exact h.apart _ mS q hq
  · exact h.apart p (mT _ hp) q hq,h.size,h.base,h.below⟩
def oth (k:Nat→Int):Nat→Int:=fun j=>if j<16 then qJ k j else k j
abbrev V:Int:=4294967296
def had (x y:Int):Int:=(x+y)%4294967296
def hxr (x y:Int):Int:=bits .xor .u32 x y
def hrl (n:Nat) (x:Int):Int:=bits .or .u32 (x*2^n%4294967296) (x/2^(32-n))
theorem x3f (x y:Int):had x y=(x+y)%4294967296:=rfl
theorem vQ (x y:Int):0≤had x y∧had x y<V:=by rw [x3f]; simp only [V]; omega
theorem yN (x y:Int) (hx:0≤x∧x<V) (hy:0≤y∧y<V):0≤hxr x y∧hxr x y<V:=by
 obtain ⟨x,rfl⟩:=xiN hx.1
 obtain ⟨y,rfl⟩:=xiN hy.1
 have h:=Nat.xor_lt_two_pow (n:=32) (show x<2^32 by have:=hx.2; simp only [V] at this; omega) (show y<2^32 by have:=hy.2; simp only [V] at this; omega)
 unfold hxr
 rw [u32_xor_nat x y (by have:=hx.2; simp only [V] at this; omega) (by have:=hy.2; simp only [V] at this; omega)]
 simp only [V]
 omega
theorem tC (n:Nat) (x:Int) (hx:0≤x∧x<V):0≤hrl n x∧hrl n x<V:=by
 obtain ⟨x,rfl⟩:=xiN hx.1
 have hx2:x<4294967296:=by have:=hx.2; simp only [V] at this; omega
 unfold hrl
 have e1:(x:Int)*2^n%4294967296=((x*2^n%4294967296:Nat):Int):=by rw [Int.natCast_emod,Int.natCast_mul,Int.natCast_pow]; rfl
 have e2:(x:Int)/2^(32-n)=((x/2^(32-n):Nat):Int):=by rw [Int.natCast_ediv,Int.natCast_pow]; rfl
 have i1:x*2^n%4294967296<4294967296:=Nat.mod_lt _ JG
 have i2:x/2^(32-n)<4294967296:=Nat.lt_of_le_of_lt (Nat.div_le_self _ _) hx2
 rw [e1,e2,u32_or_nat _ _ i1 i2]
 have h:=Nat.or_lt_two_pow (n:=32) i1 i2; simp only [V]
 omega
def hA (a b:Int):Int:=had a b
def hD (p:Nat) (a b d:Int):Int:=hrl p (hxr d (had a b))
def hC (p:Nat) (a b c d:Int):Int:=had c (hD p a b d)
def hB (p q:Nat) (a b c d:Int):Int:=hrl q (hxr b (hC p a b c d))
def qA (a b c d:Int):Int:=hA (hA a b) (hB 16 12 a b c d)
def qB (a b c d:Int):Int:=hB 8 7 (hA a b) (hB 16 12 a b c d) (hC 16 a b c d) (hD 16 a b d)
def qC (a b c d:Int):Int:=hC 8 (hA a b) (hB 16 12 a b c d) (hC 16 a b c d) (hD 16 a b d)
def qD (a b c d:Int):Int:=hD 8 (hA a b) (hB 16 12 a b c d) (hD 16 a b d)
def mV (a b c d:Int):Nat→Int
 | 0=>a
 | 1=>b
 | 2=>c
 | 3=>d
 | _+4=>0
def hqt (x:Nat→Int):Nat→Int:=mV (qA (x 0) (x 1) (x 2) (x 3)) (qB (x 0) (x 1) (x 2) (x 3)) (qC (x 0) (x 1) (x 2) (x 3)) (qD (x 0) (x 1) (x 2) (x 3))
def pA (i:Nat):Nat:=i%4
def pB (i:Nat):Nat:=4+(i+i/4)%4
def pC (i:Nat):Nat:=8+(i+2*(i/4))%4
def pD (i:Nat):Nat:=12+(i+3*(i/4))%4
def tAt (s:Nat→Int) (i:Nat):Nat→Int :=
 upd (upd (upd (upd s (pA i) (qA (s (pA i)) (s (pB i)) (s (pC i)) (s (pD i)))) (pB i) (qB (s (pA i)) (s (pB i)) (s (pC i)) (s (pD i)))) (pC i) (qC (s (pA i)) (s (pB i)) (s (pC i)) (s (pD i)))) (pD i) (qD (s (pA i)) (s (pB i)) (s (pC i)) (s (pD i)))
theorem q3t (i:Nat):pA i<4:=Nat.mod_lt _ JG
theorem j8k (i:Nat):pB i<8:=by have:=Nat.mod_lt (i+i/4) (show 4>0 by decide); unfold pB; omega
theorem q3s (i:Nat):pC i<12:=by have:=Nat.mod_lt (i+2*(i/4)) (show 4>0 by decide); unfold pC; omega
theorem j8j (i:Nat):pD i<16:=by have:=Nat.mod_lt (i+3*(i/4)) (show 4>0 by decide); unfold pD; omega
def htN (s:Nat→Int):Nat→Nat→Int
 | 0=>s
 | i+1=>tAt (htN s i) i
def drN (s:Nat→Int):Nat→Nat→Int
 | 0=>s
 | n+1=>htN (drN s n) 8
def six (x0 x1 x2 x3 x4 x5 x6 x7 x8 x9 x10 x11 x12 x13 x14 x15:Int):Nat→Int
 | 0=>x0
 | 1=>x1
 | 2=>x2
 | 3=>x3
 | 4=>x4
 | 5=>x5
 | 6=>x6
 | 7=>x7
 | 8=>x8
 | 9=>x9
 | 10=>x10
 | 11=>x11
 | 12=>x12
 | 13=>x13
 | 14=>x14
 | 15=>x15
 | _+16=>0
theorem x1u {M:Int} (x0 x1 x2 x3 x4 x5 x6 x7 x8 x9 x10 x11 x12 x13 x14 x15:Int) (h0:0≤x0∧x0<M) (h1:0≤x1∧x1<M) (h2:0≤x2∧x2<M) (h3:0≤x3∧x3<M) (h4:0≤x4∧x4<M) (h5:0≤x5∧x5<M) (h6:0≤x6∧x6<M) (h7:0≤x7∧x7<M) (h8:0≤x8∧x8<M) (h9:0≤x9∧x9<M) (h10:0≤x10∧x10<M) (h11:0≤x11∧x11<M) (h12:0≤x12∧x12<M) (h13:0≤x13∧x13<M) (h14:0≤x14∧x14<M) (h15:0≤x15∧x15<M):In M 16 (six x0 x1 x2 x3 x4 x5 x6 x7 x8 x9 x10 x11 x12 x13 x14 x15)
 | 0,_=>h0
 | 1,_=>h1
 | 2,_=>h2
 | 3,_=>h3
 | 4,_=>h4
 | 5,_=>h5
 | 6,_=>h6
 | 7,_=>h7
 | 8,_=>h8
 | 9,_=>h9
 | 10,_=>h10
 | 11,_=>h11
 | 12,_=>h12
 | 13,_=>h13
 | 14,_=>h14
 | 15,_=>h15
 | _+16,h=>by omega
def w32 (a:Nat→Int) (o:Nat):Int:=a o+a (o+1)*256+a (o+2)*65536+a (o+3)*16777216
def b32 (x:Int):Nat→Int
 | 0=>x%256
 | 1=>x/256%256
 | 2=>x/65536%256
 | 3=>x/16777216%256
 | _+4=>0
theorem q6q (x:Int):In 256 4 (b32 x)
 | 0,_=>by show 0≤x%256∧x%256<256; omega
 | 1,_=>by show 0≤x/256%256∧x/256%256<256; omega
 | 2,_=>by show 0≤x/65536%256∧x/65536%256<256; omega
 | 3,_=>by show 0≤x/16777216%256∧x/16777216%256<256; omega
 | _+4,h=>by omega
def hst (k:Nat→Int) (c:Int) (n:Nat→Int):Nat→Int:=six 1634760805 857760878 2036477234 1797285236 (w32 k 0) (w32 k 4) (w32 k 8) (w32 k 12) (w32 k 16) (w32 k 20) (w32 k 24) (w32 k 28) c (w32 n 0) (w32 n 4) (w32 n 8)
def hwd (k:Nat→Int) (c:Int) (n:Nat→Int) (i:Nat):Int:=had (drN (hst k c n) 10 i) (hst k c n i)
def yK (k:Nat→Int) (c:Int) (n:Nat→Int):Nat→Int:=fun j=>b32 (hwd k c n (j/4)) (j%4)
theorem lB (k:Nat→Int) (c:Int) (n:Nat→Int) (m:Nat):In 256 m (yK k c n):=fun j _=>q6q _ _ (Nat.mod_lt _ JG)
def xB (k:Nat→Int) (c:Int) (n:Nat→Int) (z:Nat→Int):Nat→Int:=fun j=>bits .xor .u8 (z j) (yK k ((c+((j/64:Nat):Int))%4294967296) n (j%64))
theorem aL (x y:Int) (hx:0≤x∧x<256) (hy:0≤y∧y<256):0≤bits .xor .u8 x y∧bits .xor .u8 x y<256:=by
 obtain ⟨x,rfl⟩:=xiN hx.1
 obtain ⟨y,rfl⟩:=xiN hy.1
 rw [u8_xor_nat x y JK JK]
 have h:=Nat.xor_lt_two_pow (n:=8) (x:=x) (y:=y) JK JK
 omega
theorem lL (k:Nat→Int) (c:Int) (n:Nat→Int) (z:Nat→Int) (m:Nat) (hz:In 256 m z):In 256 m (xB k c n z):=fun j hj=>aL _ _ (hz j hj) (lB _ _ _ 64 _ (Nat.mod_lt _ JG))
theorem dD (M s:Nat) (hM:M=2^s) (hb:M*256≤4294967296) (a x:Int) (h0:0≤a) (h1:a<M) (x0:0≤x) (x1:x<256) :
 bits BinOp.or IntKind.u32 a (x%4294967296*(M:Int)%4294967296)=a+x*(M:Int):=by
 obtain ⟨a,rfl⟩:=xiN h0
 obtain ⟨x,rfl⟩:=xiN x0
 have hx:x*M+M≤256*M:=by rw [← Nat.succ_mul]; exact Nat.mul_le_mul_right M JK
 have e1:(x:Int)%4294967296=(x:Int):=by omega
 have e2:(x:Int)*(M:Int)=((x*M:Nat):Int):=(Int.natCast_mul x M).symm
 have e3:((x*M:Nat):Int)%4294967296=((x*M:Nat):Int):=by omega
 rw [e1,e2,e3,u32_or_nat a (x*M) JK JK]
 exact Xs
theorem j1z (x0 x1 x2 x3:Int) (h0:0≤x0∧x0<256) (h1:0≤x1∧x1<256) (h2:0≤x2∧x2<256) (h3:0≤x3∧x3<256) :
 bits BinOp.or IntKind.u32 (bits BinOp.or IntKind.u32 (bits BinOp.or IntKind.u32 (x0%4294967296) (x1%4294967296*256%4294967296)) (x2%4294967296*65536%4294967296)) (x3%4294967296*16777216%4294967296)=x0+x1*256+x2*65536+x3*16777216:=by
 have e0:x0%4294967296=x0:=by omega
 have e1:=dD 256 8 JG JG (x0) x1 JK JK h1.1 h1.2; have e2:=dD 65536 16 JG JG (x0+x1*((256:Nat):Int)) x2 JK JK h2.1 h2.2; have e3:=dD 16777216 24 JG JG (x0+x1*((256:Nat):Int)+x2*((65536:Nat):Int)) x3 JK JK h3.1 h3.2
 simp only [Int.cast_ofNat_Int] at e1 e2 e3
 rw [e0,e1,e2,e3]
def dig (x:Nat):Nat→Int:=fun j=>((x/256^j%256:Nat):Int)
theorem rJ (x n:Nat):In 256 n (dig x):=fun j _=>by
 have:x/256^j%256<256:=Nat.mod_lt _ JG
 unfold dig
 omega
theorem lV (x:Nat):∀ n,val 256 (dig x) n=((x%256^n:Nat):Int)
 | 0=>by show (0:Int)=((x%1:Nat):Int); rw [Nat.mod_one]; rfl
 | n+1=>by
   have e:val 256 (dig x) (n+1)=val 256 (dig x) n+256^n*dig x n:=rfl
   rw [e,lV x n,Nat.pow_succ,Nat.mod_mul,Int.natCast_add,Int.natCast_mul,Int.natCast_pow]
   rfl
theorem j2c (x i:Nat) (hi:i<8):(x:Int)/2^min (((8*i:Nat):Int)).toNat IntKind.i64.bits=((x/256^i:Nat):Int):=by
 rw [Int.toNat_natCast,Nat.min_eq_left (by show 8*i≤64; omega),Nat.pow_mul 2 8 i |> fun h=>show ((2:Int)^(8*i))=((256^i:Nat):Int) from by rw [show ((256:Nat)^i)=2^(8*i) from h.symm,Int.natCast_pow]; rfl]
 exact (Int.natCast_ediv x (256^i)).symm
def yC (n:Nat):Nat:=(n+15)/16*16
def amt (bl sl:Nat):Nat:=yC bl+yC sl+8+8
def amx (bl:Nat) (b:Nat→Int) (sl:Nat) (s:Nat→Int):Nat→Int:=app (app (app (xJ bl b) (yC bl) (xJ sl s)) (yC bl+yC sl) (dig bl)) (yC bl+yC sl+8) (dig sl)
theorem lW (n m:Nat) (f g:Nat→Int) (hf:In 256 n f) (hg:In 256 m g):In 256 (n+m) (app f n g):=fun j hj=>by
 unfold app
 split
 · exact hf j KQ
 · exact hg _ JK
theorem q6z (bl:Nat) (b:Nat→Int) (sl:Nat) (s:Nat→Int) (hb:In 256 bl b) (hs:In 256 sl s):In 256 (amt bl sl) (amx bl b sl s) :=
 lW _ 8 _ _ (lW _ 8 _ _ (lW _ _ _ _ (tP bl b hb _) (tP sl s hs _)) (rJ bl 8)) (rJ sl 8)
theorem cT (n:Nat) (f g:Nat→Int) (h:∀ j,j<n→f j=g j):xJ n f=xJ n g:=by
 funext j
 unfold xJ
 by_cases e:j<n
 · rw [if_pos e,if_pos e,h j e]
 rw [if_neg e,if_neg e]
def atg (k n:Nat→Int) (bl:Nat) (b:Nat→Int) (sl:Nat) (s:Nat→Int):Int:=cH (yK k 0 n) (amt bl sl) (amx bl b sl s)
def zU (k n:Nat→Int) (bl:Nat) (b:Nat→Int) (sl:Nat) (s:Nat→Int):Nat→Int:=dig (atg k n bl b sl s).toNat
theorem x4d (k n:Nat→Int) (bl:Nat) (b:Nat→Int) (sl:Nat) (s:Nat→Int):0≤atg k n bl b sl s∧atg k n bl b sl s<340282366920938463463374607431768211456:=by
 unfold atg cH
 generalize acc _ _ _ _%Q+pS _=x
 omega
theorem lA (k n:Nat→Int) (bl:Nat) (b:Nat→Int) (sl:Nat) (s:Nat→Int) (m:Nat):In 256 m (zU k n bl b sl s):=rJ _ _
theorem sM (k n:Nat→Int) (bl:Nat) (b:Nat→Int) (sl:Nat) (s:Nat→Int):val 256 (zU k n bl b sl s) 16=atg k n bl b sl s:=by
 have h:=x4d k n bl b sl s
 unfold zU
 rw [lV,show (256:Nat)^16=340282366920938463463374607431768211456 from by decide]
 omega
theorem nU (k n:Nat→Int) (bl:Nat) (b b':Nat→Int) (sl:Nat) (s s':Nat→Int) (hb:∀ j,j<bl→b j=b' j) (hs:∀ j,j<sl→s j=s' j):atg k n bl b sl s=atg k n bl b' sl s':=by
 unfold atg amx
 rw [cT bl b b' hb,cT sl s s' hs]
theorem x1q {f:Nat→Int} {k n:Nat→Int} {bl:Nat} {b:Nat→Int} {sl:Nat} {s:Nat→Int} (hf:In 256 16 f) (hv:val 256 f 16=atg k n bl b sl s):∀ j,j<16→f j=zU k n bl b sl s j :=
 hH 256 JG f _ 16 hf (lA _ _ _ _ _ _ _) (by rw [hv,sM])
def fV (k n:Nat→Int) (bl:Nat) (b:Nat→Int) (len:Nat) (z:Nat→Int):Nat→Int:=app (xB k 1 n z) len (zU k n bl b len (xB k 1 n z))
theorem q9o (k n:Nat→Int) (bl:Nat) (b:Nat→Int) (len:Nat) (z:Nat→Int) (hz:In 256 len z):In 256 (len+16) (fV k n bl b len z):=lW _ _ _ _ (lL k 1 n z len hz) (lA _ _ _ _ _ _ _)
abbrev aok (k n:Nat→Int) (bl:Nat) (b:Nat→Int) (len:Nat) (z:Nat→Int):Prop:=16≤len∧atg k n bl b (len-16) z=val 256 (fun j=>z (len-16+j)) 16
def aoL (k n:Nat→Int) (bl:Nat) (b:Nat→Int) (len:Nat) (z:Nat→Int):Nat:=if aok k n bl b len z then len-16 else 0
def aoE (k n:Nat→Int) (bl:Nat) (b:Nat→Int) (len:Nat) (z:Nat→Int):Int:=if len<16 then 3 else if aok k n bl b len z then 0 else 70
end Go.Proofs.YtknodlefhclijaaGreatDoor
