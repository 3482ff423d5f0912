/- Texts of Rm Rl Pr Hq, joined. -/
import Derived.Test.YtknodlefhclijaaGreatDoorP9ShakePlays
set_option maxRecDepth 20000
set_option maxHeartbeats 64000000
namespace Go.Proofs.YtknodlefhclijaaGreatDoor
open Go.RowKit
theorem j3x (w:World) (t:TypeId) (b:Nat) (hb:b=w.heap.size):Has (w.alloc (.cells rU t)) b .i64 11 (fun _=>0):=Has.new w .i64 11 (fun _=>0) t b hb
theorem x2s (w:World):(Instr.makeSlice 113 (.int .i64 11) (.int .i64 11)).run Tryz.prog w=.ok (.slice (some ⟨w.heap.size,0,none⟩) 11 11) (w.alloc (.cells rU 3)):=by kernel_rfl
structure MU (a b:Nat→Int) (i k:Nat) (f:Nat→Int) (B1 B2 B3:Nat) (w w':World):Prop where
 eq:val D f 11=val D (dg 26 (nb a)) i*val D (dg 26 (nb b)) 6+D^i*dg 26 (nb a) i*val D (dg 26 (nb b)) k
 big:∀ j,j<11→0≤f j∧f j≤(i:Int)*4503599627370496+(if i≤j∧j<i+k then 4503599627370496 else 0)
 h1:Has w' B1 .i64 6 (dg 26 (nb a))
 h2:Has w' B2 .i64 6 (dg 26 (nb b))
 h3:Has w' B3 .i64 11 f
 hr:w'.there (w.heap.size+1+1) 0 17
 fr:Fr w 3 w'
 hi:B3<w'.heap.size
theorem q4e {x y:Int} (x0:0≤x) (x1:x<67108864) (y0:0≤y) (y1:y<67108864):0≤x*y∧x*y≤4503599493152769 :=
 ⟨Int.mul_nonneg x0 y0,Int.mul_le_mul (show x≤67108863 by omega) (show y≤67108863 by omega) y0 JK⟩
theorem MU.step {a b:Nat→Int} {i k:Nat} {f:Nat→Int} {B1 B2 B3:Nat} {w w':World} (h:MU a b i k f B1 B2 B3 w w') (lo:w.heap.size+3≤B3) (n1:B3≠B1) (n2:B3≠B2) (hi:i<6) (hk:k<6) :
 MU a b i (k+1) (upd f (i+k) (f (i+k)+dg 26 (nb a) i*dg 26 (nb b) k)) B1 B2 B3 w ((w'.setCell ⟨B3,i+k,none⟩ (.int .i64 (f (i+k)+dg 26 (nb a) i*dg 26 (nb b) k))).drew):=by
 have da:=uB (nb a) i; have db:=uB (nb b) k; have hp:=q4e da.1 da.2 db.1 db.2
 refine ⟨?_,fun j hj=>?_,(h.h1.set_other _ _ (by simpa using n1)).drew,(h.h2.set_other _ _ (by simpa using n2)).drew,(h.h3.set _ JK _).drew,fun j hj=>?_,(h.fr.set _ _ Ji).drew,by have:=h.hi; simpa using this⟩
 · rw [gH D f (i+k) _ 11 JK,gK D (dg 26 (nb b)) k,h.eq]; have e1:D^i*dg 26 (nb a) i*(D^k*dg 26 (nb b) k)=D^(i+k)*(dg 26 (nb a) i*dg 26 (nb b) k):=by rw [Int.pow_add,Int.mul_assoc,Int.mul_left_comm (dg 26 (nb a) i),← Int.mul_assoc]
   rw [Int.mul_add (D^(i+k)),Int.mul_add (D^i*dg 26 (nb a) i),e1]; omega
 · have bj:=h.big j hj; by_cases e:j=i+k
   · subst e; rw [jP]; rw [if_neg JK] at bj; rw [if_pos JK]; omega
   rw [jR _ _ _ _ e]; by_cases c:i≤j∧j<i+k
   · rw [if_pos c] at bj; rw [if_pos JK]; exact bj
   rw [if_neg c] at bj; rw [if_neg JK]; exact bj
 exact Xz
theorem MU.next {a b:Nat→Int} {i:Nat} {f:Nat→Int} {B1 B2 B3:Nat} {w w':World} (h:MU a b i 6 f B1 B2 B3 w w'):MU a b (i+1) 0 f B1 B2 B3 w w':=by
 refine ⟨?_,fun j hj=>?_,h.h1,h.h2,h.h3,h.hr,h.fr,h.hi⟩
 · rw [h.eq,gK D (dg 26 (nb a)) i,Int.add_mul,show val D (dg 26 (nb b)) 0=0 from rfl,Int.mul_zero,Int.add_zero]
 have bj:=h.big j hj
 rw [if_neg JK]
 have e:((i+1:Nat):Int)*4503599627370496=(i:Int)*4503599627370496+4503599627370496:=by omega
 rw [e]
 split at bj <;> omega
theorem j5x (a b:Nat→Int) (ha:In 256 17 a) (hb:In 256 17 b) (w:World) :
 Calls Tryz.prog 138 #[(.agg (row .u8 17 (a)).toArray),(.agg (row .u8 17 (b)).toArray)] w fun e w'=>∃ f:Nat→Int,e=.returned (.agg (row .u8 17 (f)).toArray)∧(In 256 17 f∧val 256 f 17=(val 256 a 17*val 256 b 17)%Q)∧Below w.heap.size w w':=by
 have t0:=Two.new a b w; have a0:=t0.ha; have hmk:=x2s
 go_enter Tryz.func138,Tryz.ntmps138
 go_wp2_with (refine yl (a0) Tryz.underlying158 (jL _) ?_)
 refine (gL a ha _).mono ?_; rintro e w1 ⟨B1,rfl,h1,l1⟩; have t1:=t0.call l1
 have lo1:w.heap.size+3≤B1:=by have:=h1.1; simp at this; omega
 have b1:=t1.hb; clear t0 a0 l1
 go_wp2_with (refine yl (b1) Tryz.underlying158 (jL _) ?_)
 refine (gL b hb _).mono ?_; rintro e w2 ⟨B2,rfl,h2,l2⟩; have t2:=t1.call l2; have x1:=h1.2.2.below l2 h1.2.1
 have hi1:B1<w2.heap.size:=by have:=h1.2.1; have:=l2.size; omega
 have hi2:=h2.2.1; have x2:=h2.2.2
 have mu0:MU a b 0 0 (fun _=>0) B1 B2 w2.heap.size w (w2.alloc (.cells rU 3)):=by
  refine ⟨by rw [show val D (dg 26 (nb a)) 0=0 from rfl,show val D (dg 26 (nb b)) 0=0 from rfl,Int.zero_mul,Int.mul_zero]; exact j2o D 11,fun j _=>by simp,x1.alloc _ hi1,x2.alloc _ hi2,j3x _ _ _ rfl,?_,t2.fr.alloc _ |>.below |> (fun b=>⟨b,by have:=t2.fr.size; simp; omega⟩),by simp⟩; have:=xF (w':=w2.alloc (.cells rU 3)) t2.hr ((Below.refl w2.heap.size w2).alloc (xnR _) _) (by have:=t2.fr.size; omega); exact this
 have lo3:w.heap.size+3≤w2.heap.size:=t2.fr.size
 have n1:w2.heap.size≠B1:=by omega
 have n2:w2.heap.size≠B2:=by omega
 clear t1 t2 b1 h1 h2 l2 x1 x2 hi1 hi2 lo1; go_wp2; clear hmk; generalize w2.heap.size=B3 at *; generalize w2.alloc (.cells rU 3)=w3 at *
 go_loopw [8] (fun i w'=>∃ (m:Nat) (f:Nat→Int),m≤6∧i=.int .i64 m∧MU a b m 0 f B1 B2 B3 w w') (fun i _=>6-(intOf i).toNat)
 case atStart=>exact ⟨0,_,by omega,rfl,mu0⟩
 case round =>
  obtain ⟨m,f0,hm,rfl,hO⟩:=hrel; clear mu0; by_cases hlt:m<6
  · obtain ⟨wo,rfl⟩:∃ wo:World,wo=wr:=⟨_,rfl⟩
    have g1:(0:Int)≤(m:Int):=by omega
    have g2:(m:Int)<6:=by omega
    go_wp2; go_loopw [9] (fun i w'=>∃ (k:Nat) (f:Nat→Int),k≤6∧i=.int .i64 k∧MU a b m k f B1 B2 B3 w w') (fun i _=>6-(intOf i).toNat)
    case atStart=>exact ⟨0,f0,by omega,rfl,hO⟩
    case round =>
     obtain ⟨k,f,hk,rfl,hI⟩:=hrel; clear hO; by_cases hlt2:k<6
     · have HS:=show Hid _ from hI.step lo3 n1 n2 hlt hlt2
       have c1:=hI.h1.cell m JK; have c2:=hI.h2.cell k JK; have c3:=hI.h3.cell (m+k) JK; have f1:=hI.h3.free (m+k) JK; have ix:=uB (nb a) m; have iy:=uB (nb b) k; have ip:=q4e ix.1 ix.2 iy.1 iy.2; have iz:=hI.big (m+k) JK; rw [if_neg JK] at iz; have iz1:f (m+k)≤27021597764222976:=by omega
       have iz0:=iz.1; have g3:(0:Int)≤(k:Int):=by omega
       have g4:(k:Int)<6:=by omega
       have g7:((m:Int)+(k:Int)).toNat=m+k:=by omega
       clear hI iz ix iy; generalize dg 26 (nb a) m=x at *; generalize dg 26 (nb b) k=y at *; generalize f (m+k)=z at *; obtain ⟨p0,p1⟩:=ip; go_wp2; go_region; go_wp2; exact QW
     obtain rfl:k=6:=by omega
     exact Xl
  obtain rfl:m=6:=by omega
  clear hlt hm; go_wp2_with fail; refine (fL 11 B3 f0 _ (Or.inr rfl) Ws hO.hi hO.h3).mono ?_; rintro e w4 ⟨g,rfl,s3,l3⟩; have hz:=xF hO.hr l3 (by have:=hO.fr.size; omega); have hE:In 256 17 g∧val 256 g 17=(val 256 a 17*val 256 b 17)%Q:=⟨s3.1,by
   rw [s3.2,hO.eq,pP a ha,pP b hb,show val D (dg 26 (nb b)) 0=0 from rfl,Int.mul_zero,Int.add_zero]⟩
  have HE:=show Hid _ from hE; have hL:=((hO.fr.call l3).setAll (w.heap.size+1+1) JK (row .u8 17 g)).below; clear hE s3 hO l3
  go_wp2_with (refine ys .u8 17 g (aJ hz) (qX _) ?_); exact bRq (v:=(.agg (row .u8 17 (g)).toArray)) (jQ Tryz.results138 rfl (Has.all hz .u8 g).range Tryz.underlying158 rfl (jL g)) rfl ⟨g,rfl,HE.out,hL⟩
structure LI (x s:Nat→Int) (X O:Nat) (k:Nat) (f:Nat→Int) (w w':World):Prop where
 done:∀ j,j<k→f j=nW x s j
 hx:Has w' X .u8 17 x
 hs:Has w' (w.heap.size+1) .u8 16 s
 ho:Has w' O .u8 16 f
 hr:w'.there (w.heap.size+1+1) 0 16
 fr:Fr w 3 w'
theorem LI.step {x s:Nat→Int} {X O k:Nat} {f:Nat→Int} {w w':World} (h:LI x s X O k f w w') (hk:k<16) (lo:w.heap.size+3≤O) (ne:O≠X):LI x s X O (k+1) (upd f k (nW x s k)) w (w'.setCell ⟨O,k,none⟩ (.int .u8 (nW x s k))):=by
 refine ⟨fun j hj=>?_,h.hx.set_other _ _ (by simpa using ne),h.hs.set_other _ _ Ji,h.ho.set k hk _,fun j hj=>?_,h.fr.set _ _ Ji⟩
 · by_cases e:j=k
   · exact Zz
   exact Qm
 have hne:(⟨O,k,none⟩:Addr)≠⟨w.heap.size+1+1,0+j,none⟩:=by intro h'; injection h'; omega
 exact Qo
theorem LI.drewN {x s:Nat→Int} {X O k:Nat} {f:Nat→Int} {w w':World} (h:LI x s X O k f w w') {q:Nat}:LI x s X O k f w (w'.drewN q) :=
 ⟨h.done,⟨h.hx.cell,h.hx.free⟩,⟨h.hs.cell,h.hs.free⟩,⟨h.ho.cell,h.ho.free⟩,h.hr,⟨zZ h.fr.below,h.fr.size⟩⟩
theorem j5y (a s:Nat→Int) (ha:In 256 17 a) (hs:In 256 16 s) (w:World) :
 Calls Tryz.prog 140 #[(.agg (row .u8 17 (a)).toArray),(.agg (row .u8 16 (s)).toArray)] w fun e w'=>∃ f:Nat→Int,e=.returned (.agg (row .u8 16 (f)).toArray)∧(In 256 16 f∧val 256 f 16=(val 256 a 17%Q+val 256 s 16)%340282366920938463463374607431768211456)∧Below w.heap.size w w':=by
 have K:=Kr.init w; replace K:=K.box .u8 17 a 158 w.heap.size rfl; replace K:=K.box .u8 16 s 120 (w.heap.size+1) Jf; replace K:=K.make 16 qR 120 (w.heap.size+1+1) Jf (xQ _ _ _ Jf).there
 go_enter Tryz.func140,Tryz.ntmps140
 go_upto_region 1 with fail; generalize (((w.alloc (.cells (row .u8 17 a).toArray 158)).alloc (.cells (row .u8 16 s).toArray 120)).alloc (.cells qR 120))=w0 at K ⊢; refine wR ?_; refine tJ .u8 17 a w.heap.size 0 158 _ _ rfl rfl rfl Tryz.underlying158 rfl (jL _) (K.get _ _ _ _ (mT _ mS)).range (nL ?_); refine xcL (j1l a ha _) ?_
 rintro e w1 ⟨x,rfl,sx,l⟩; replace K:=K.call l; clear l; refine xeL ?_; refine qH jF 158 rfl JW (nL ?_); refine ysL .u8 17 x w1.heap.size (jM (jE _ _ _ rfl).there) (qX _) ?_; have s1:=K.size; replace K:=K.fresh .u8 17 x jF 158 (jE _ _ _ rfl).there
 generalize ((w1.alloc (.cells jF 158)).setCells w1.heap.size 0 (row .u8 17 x))=w2 at K ⊢; generalize w1.heap.size=X at *; show Exit.then _ _ _ _ _; go_upto_region 2 with fail; refine wR (xpL (.agg (row .u8 16 (fun _=>0)).toArray) ?_); refine qH qR 120 rfl JW (nL ?_)
 refine ysL .u8 16 (fun _=>0) w2.heap.size (jM (xQ _ _ _ rfl).there) (xM _) ?_; have s2:=K.size; replace K:=K.fresh .u8 16 (fun _=>0) qR 120 (xQ _ _ _ rfl).there; generalize ((w2.alloc (.cells qR 120)).setCells w2.heap.size 0 (row .u8 16 (fun _=>0)))=w3 at K ⊢; generalize w2.heap.size=O at *
 show Exit.then _ _ _ _ _
 have hI0:LI x s X O 0 (fun _=>0) w w3:=⟨fun j hj=>by omega,K.get _ _ _ _ (mT _ mS),K.get _ _ _ _ (mI 2 rfl),K.get _ _ _ _ mS,(K.room _ mS).1,⟨K.below,by have:=K.size; omega⟩⟩
 have lo:w.heap.size+3≤O:=by omega
 have ne:O≠X:=by omega
 have hcr:=j9f x s 16 (fun j hj=>sx.1 j JK) hs; have hx:=fun j (hj:j<16)=>sx.1 j JK; have HC:=show Hid _ from hcr; have HX:=show Hid _ from And.intro hx hs; have HV:=show Hid _ from sx; clear K hcr hx sx s1 s2; go_wp2
 go_loopw [7,8] (fun r i w'=>∃ (k:Nat) (f:Nat→Int),k≤16∧i=.int .i64 k∧r=.int .i64 (fU x s k)∧LI x s X O k f w w') (fun _ i _=>16-(intOf i).toNat)
 case atStart=>exact ⟨0,_,by omega,rfl,rfl,hI0⟩
 case round =>
  obtain ⟨k,f,hk,rfl,rfl,hI⟩:=hrel; clear hI0; by_cases hlt:k<16
  · have c1:=hI.hx.cell k JK; have c2:=hI.hs.cell k hlt; obtain ⟨r0,r1⟩:=HC.out k JK; obtain ⟨x0,x1⟩:=HX.out.1 k hlt; obtain ⟨y0,y1⟩:=HX.out.2 k hlt; have g1:(0:Int)≤(k:Int):=by omega
    have g2:(k:Int)<16:=by omega
    have g3:(k:Int)<17:=by omega
    have HS:=show Hid _ from fun q=>(hI.drewN (q:=q)).step hlt lo ne; have HN:=show Hid (fU x s (k+1)=(fU x s k+x k+s k)/256) from rfl; have HM:=show Hid (nW x s k=(fU x s k+x k+s k)%256) from rfl; have c3:=hI.ho.cell k hlt; have f3:=hI.ho.free k hlt; clear hI; generalize nW x s k=d at *; generalize fU x s k=r at *; generalize x k=u at *
    generalize s k=y at *; generalize f k=z at *; have v1:IntKind.i64.wrap (r+u)=r+u:=by rw [xw6]; omega
    have v2:IntKind.i64.wrap (r+u+y)=r+u+y:=by rw [xw6]; omega
    go_wp2; go_quiet (fail); have c4:(wr.drewN nq).cell? ⟨O,k,none⟩=some (.int .u8 z):=c3; have f4:(wr.drewN nq).frozen? ⟨O,k,none⟩=false:=f3; have HT:=show Hid _ from HS.out nq; clear HS c1 c2 c3 f3; generalize wr.drewN nq=w4 at *; go_wp2
    go_roundw
    case rel=>exact ⟨k+1,_,by omega,by go_num,by rw [HN.out],by have h:=HT.out; rw [HM.out] at h; exact h⟩
    case measure=>simp [intOf]; omega
  obtain rfl:k=16:=by omega
  have ho:=hI.ho; have hz:=hI.hr; have hE:In 256 16 f∧val 256 f 16=(val 256 a 17%Q+val 256 s 16)%340282366920938463463374607431768211456:=by
   have hd:In 256 16 (nW x s):=fun j _=>by unfold nW; omega
   refine ⟨fun j hj=>by rw [hI.done j hj]; exact hd j hj,?_⟩; rw [qZ 256 16 (f:=f) (g:=nW x s) (fun j hj=>hI.done j hj),← HV.out.2]; have v:=j2u x s 16; have i:=qE 256 JG (nW x s) 16 hd; have e:=j8r x HV.out.1; rw [show (256:Int)^16=340282366920938463463374607431768211456 from by decide] at v i; omega
  have HE:=show Hid _ from hE; have hL:=(hI.fr.setAll (w.heap.size+1+1) JK (row .u8 16 f)).below; clear hE hI hlt hk
  go_wp2_with (first | (refine yl (ho) Tryz.underlying120 (xP _) ?_) | (refine ys .u8 16 f (jM hz) (xM _) ?_)); exact bRq (v:=(.agg (row .u8 16 (f)).toArray)) (jQ Tryz.results140 rfl (Has.all hz .u8 f).range Tryz.underlying120 rfl (xP f)) rfl ⟨f,rfl,HE.out,hL⟩
theorem eX (b i:Nat) (hi:i<16) (w:World) {o:Oper} {a:Act} (x y:Operand) (ho:o.op=.indexAddr 120 x y) (hx:a.eval x=.pointer (some ⟨b,0,none⟩)) (hy:a.eval y=.int .i64 (i:Int)) :
 (execOp a.eval o).run Tryz.prog w=.ok (.value (.pointer (some ⟨b,i,none⟩))) w:=by
 have h:=uD (P:=Tryz.prog) 120 5 16 .i64 b 0 i x y Tryz.underlying120 JW hi ho hx hy w
 exact XH
theorem x3d (b i:Nat) (hi:i<17) (w:World) {o:Oper} {a:Act} (x y:Operand) (ho:o.op=.indexAddr 158 x y) (hx:a.eval x=.pointer (some ⟨b,0,none⟩)) (hy:a.eval y=.int .i64 (i:Int)) :
 (execOp a.eval o).run Tryz.prog w=.ok (.value (.pointer (some ⟨b,i,none⟩))) w:=by
 have h:=uD (P:=Tryz.prog) 158 5 17 .i64 b 0 i x y Tryz.underlying158 JW hi ho hx hy w
 exact XH
theorem q4y (b i:Nat) (hi:i<32) (w:World) {o:Oper} {a:Act} (x y:Operand) (ho:o.op=.indexAddr 23 x y) (hx:a.eval x=.pointer (some ⟨b,0,none⟩)) (hy:a.eval y=.int .i64 (i:Int)) :
 (execOp a.eval o).run Tryz.prog w=.ok (.value (.pointer (some ⟨b,i,none⟩))) w:=by
 exact Xx
theorem j5v (k:Nat→Int) (hk:In 256 32 k) (sp:Option Addr) (len cap:Nat) (hlen:len≤281474976710656) (hcap:len≤cap) (z:Nat→Int) (hz:In 256 len z) (w:World) (hs:Src w sp len z) :
 Calls Tryz.prog 116 #[(.agg (row .u8 32 (k)).toArray),.slice sp len cap] w fun e w'=>∃ f:Nat→Int,e=.returned (.agg (row .u8 16 (f)).toArray)∧(In 256 16 f∧val 256 f 16=cH k len z)∧Below w.heap.size w w':=by
 have hk1:In 256 16 k:=fun j hj=>hk j JK
 have hk2:In 256 16 (fun j=>k (16+j)):=fun j hj=>hk (16+j) JK
 have K:=Kr.init w; replace K:=K.box .u8 32 k 23 w.heap.size rfl; replace K:=K.make 16 qR 120 (w.heap.size+1) Jf (xQ _ _ _ Jf).there
 go_enter Tryz.func116,Tryz.ntmps116
 go_upto_region 1 with fail; generalize ((w.alloc (.cells (row .u8 32 k).toArray 23)).alloc (.cells qR 120))=w0 at K ⊢; refine wR (xpL (.agg (row .u8 16 (fun _=>0)).toArray) ?_); refine qH qR 120 rfl JW (nL ?_)
 refine ysL .u8 16 (fun _=>0) w0.heap.size (jM (xQ _ _ _ rfl).there) (xM _) ?_; have zR:=K.size; replace K:=K.fresh .u8 16 (fun _=>0) qR 120 (xQ _ _ _ rfl).there; generalize ((w0.alloc (.cells qR 120)).setCells w0.heap.size 0 (row .u8 16 (fun _=>0)))=w1 at K ⊢; generalize w0.heap.size=R at *
 show Exit.then _ _ _ _ _; go_upto_region 2 with fail; refine wR (xpL (.agg (row .u8 16 (fun _=>0)).toArray) ?_); refine qH qR 120 rfl JW (nL ?_); refine ysL .u8 16 (fun _=>0) w1.heap.size (jM (xQ _ _ _ rfl).there) (xM _) ?_; have zS:=K.size
 replace K:=K.fresh .u8 16 (fun _=>0) qR 120 (xQ _ _ _ rfl).there; generalize ((w1.alloc (.cells qR 120)).setCells w1.heap.size 0 (row .u8 16 (fun _=>0)))=w2 at K ⊢; generalize w1.heap.size=S at *; show Exit.then _ _ _ _ _; go_wp2
 go_loopw [7] (fun i w'=>∃ (m:Nat) (f g:Nat→Int),m≤16∧i=.int .i64 m∧Kr w (S+1) [(S,.u8,16,g),(R,.u8,16,f),(w.heap.size,.u8,32,k)] [(w.heap.size+1,16)] w'∧(∀ j,j<m→f j=k j)∧∀ j,j<m→g j=k (16+j)) (fun i _=>16-(intOf i).toNat)
 case atStart=>exact ⟨0,_,_,by omega,rfl,K,fun j hj=>by omega,fun j hj=>by omega⟩
 case round =>
  clear K; obtain ⟨m,f,g,hm,rfl,K,hf,hg⟩:=hrel; have g1:(0:Int)≤(m:Int):=by omega
  by_cases hlt:m<16
  · have g2:(m:Int)<16:=by omega
    have hlt2:16+m<32:=by omega
    go_upto_region 6 with fail; refine wR (xm2 ?_); refine xqL (.pointer (some ⟨w.heap.size,m,none⟩)) (fun w'=>q4y w.heap.size m JK w' _ _ rfl rfl rfl) ?_; refine ycL (.int .u8 (k m)) w.heap.size m Tryz.underlying5 ((K.get _ _ _ _ (mI 2 rfl)).cell m JK) ?_; refine xqL (.pointer (some ⟨R,m,none⟩)) (fun w'=>eX R m hlt w' _ _ rfl rfl rfl) ?_; refine ywL .u8 (k m) R m (by rw [(K.get _ _ _ _ (mT _ mS)).cell _ hlt]; rfl) ((K.get _ _ _ _ (mT _ mS)).free _ hlt) JU ?_; replace K:=K.setCell [(S,.u8,16,g),(w.heap.size,.u8,32,k)] R .u8 16 f m hlt (k m) (mT _ mS) Vj Jm JK; generalize wr.setCell ⟨R,m,none⟩ (.int .u8 (k m))=w4 at K ⊢; show Exit.then _ _ _ _ _; go_upto_region 7 with fail; refine wR (xm2 ?_); refine xqL (.int .i64 ((16+m:Nat):Int)) (fun w=>vM .i64 16 (m:Int) _ _ _ _ _ rfl rfl rfl Yj w) ?_
    refine xqL (.pointer (some ⟨w.heap.size,16+m,none⟩)) (fun w'=>q4y w.heap.size (16+m) hlt2 w' _ _ rfl rfl rfl) ?_; refine ycL (.int .u8 (k (16+m))) w.heap.size (16+m) Tryz.underlying5 ((K.get _ _ _ _ (mI 2 rfl)).cell (16+m) hlt2) ?_; refine xqL (.pointer (some ⟨S,m,none⟩)) (fun w'=>eX S m hlt w' _ _ rfl rfl rfl) ?_; refine ywL .u8 (k (16+m)) S m (by rw [(K.get _ _ _ _ (mT _ mS)).cell _ hlt]; rfl) ((K.get _ _ _ _ (mT _ mS)).free _ hlt) JU ?_; replace K:=K.setCell [(R,.u8,16,upd f m (k m)),(w.heap.size,.u8,32,k)] S .u8 16 g m hlt (k (16+m)) (mT _ mS) Vj Jm JK; generalize w4.setCell ⟨S,m,none⟩ (.int .u8 (k (16+m)))=w5 at K ⊢; have HS:=show Hid _ from (And.intro K (And.intro (show ∀ j,j<m+1→upd f m (k m) j=k j from fun j hj=>by
     by_cases e:j=m
     · exact Zz
     · rw [jR _ _ _ _ e]; exact hf j JK) (show ∀ j,j<m+1→upd g m (k (16+m)) j=k (16+j) from fun j hj=>by
     by_cases e:j=m
     · exact Zz
     rw [jR _ _ _ _ e]; exact hg j JK)))
    clear K hf hg; show Exit.inBlock _ _ _ _ _
    go_wp2; go_roundw
    case rel=>first | exact ⟨m+1,_,_,by omega,by go_num,HS.out⟩ | ((repeat apply Exists.intro); refine ⟨⟨m+1,_,_,by omega,by go_num,HS.out⟩,rfl⟩)
    case measure=>simp [intOf]; omega
  obtain rfl:m=16:=by omega
  clear hlt hm g1; go_upto_region 8 with fail; refine wR (ykL .u8 16 (f) (R) 0 Tryz.underlying120 (xP _) ((K.get _ _ _ _ (mT _ mS)).range) ?_); refine clT (j3e f (fun j hj=>by rw [hf j hj]; exact hk1 j hj) _) K ?_; clear K; intro w4 K; refine ysL .u8 16 (qJ f) R (sP (K.get _ _ _ _ (mT _ mS))) (xM _) ?_; replace K:=K.set [(S,.u8,16,g),(w.heap.size,.u8,32,k)] R .u8 16 f (qJ f) (mT _ mS) Vj Jm JK; generalize w4.setCells R 0 (row .u8 16 (qJ f))=w5 at K ⊢; have hS:=(K.get _ _ _ _ (mT _ mS)).congr (g:=fun j=>k (16+j)) (fun j hj=>hg j hj); have hR:=(K.get _ _ _ _ mS).congr (g:=qJ k) (fun j hj=>by unfold qJ; rw [hf j hj]); replace K:Kr w (S+1) [(R,.u8,16,qJ k),(S,.u8,16,fun j=>k (16+j))] [(w.heap.size+1,16)] w5:=⟨fun p hp=>by
   rcases xc1 hp with rfl | hp
   · exact ⟨hR,(K.rows _ mS).2⟩
   · obtain rfl:=xm1 hp; exact ⟨hS,(K.rows _ (mT _ mS)).2⟩,K.room,(fun p hp q hq=>by
   rcases xc1 hp with rfl | hp
   · exact K.apart _ mS q hq
   obtain rfl:=xm1 hp; exact K.apart _ (mT _ mS) q hq),K.size,K.base,K.below⟩
  clear hS hR hf hg; show Exit.then _ _ _ _ _; go_upto_region 9 with fail; refine wR (xpL (.agg (row .u8 17 (fun _=>0)).toArray) ?_); refine qH jF 158 rfl JW (nL ?_); refine ysL .u8 17 (fun _=>0) w5.heap.size (jM (jE _ _ _ rfl).there) (qX _) ?_
  have zY:=K.size; replace K:=K.fresh .u8 17 (fun _=>0) jF 158 (jE _ _ _ rfl).there; generalize ((w5.alloc (.cells jF 158)).setCells w5.heap.size 0 (row .u8 17 (fun _=>0)))=w6 at K ⊢; generalize w5.heap.size=Y at *; show Exit.then _ _ _ _ _; go_wp2
  go_loopw [9] (fun i w'=>∃ (m:Nat) (y:Nat→Int),m≤16∧i=.int .i64 m∧Kr w (Y+1) [(Y,.u8,17,y),(R,.u8,16,qJ k),(S,.u8,16,fun j=>k (16+j))] [(w.heap.size+1,16)] w'∧(∀ j,j<m→y j=qJ k j)∧∀ j,m≤j→y j=0) (fun i _=>16-(intOf i).toNat)
  case atStart=>exact ⟨0,_,by omega,rfl,K,fun j hj=>by omega,fun _ _=>rfl⟩
  case round =>
   clear K; obtain ⟨m,y,hm,rfl,K,hy,hy0⟩:=hrel; have g1:(0:Int)≤(m:Int):=by omega
   by_cases hlt:m<16
   · have g2:(m:Int)<16:=by omega
     have hlt2:m<17:=by omega
     go_upto_region 13 with fail; refine wR (xm2 ?_); refine xqL (.pointer (some ⟨R,m,none⟩)) (fun w'=>eX R m hlt w' _ _ rfl rfl rfl) ?_; refine ycL (.int .u8 (qJ k m)) R m Tryz.underlying5 ((K.get _ _ _ _ (mT _ mS)).cell m hlt) ?_; refine xqL (.pointer (some ⟨Y,m,none⟩)) (fun w'=>x3d Y m hlt2 w' _ _ rfl rfl rfl) ?_; refine ywL .u8 (qJ k m) Y m (by rw [(K.get _ _ _ _ mS).cell _ hlt2]; rfl) ((K.get _ _ _ _ mS).free _ hlt2) JU ?_; replace K:=K.setCell [(R,.u8,16,qJ k),(S,.u8,16,fun j=>k (16+j))] Y .u8 17 y m hlt2 (qJ k m) mS KX Jm JK; generalize wr.setCell ⟨Y,m,none⟩ (.int .u8 (qJ k m))=w8 at K ⊢; have HS:=show Hid _ from (And.intro K (And.intro (show ∀ j,j<m+1→upd y m (qJ k m) j=qJ k j from fun j hj=>by
      by_cases e:j=m
      · exact Zz
      · rw [jR _ _ _ _ e]; exact hy j JK) (show ∀ j,m+1≤j→upd y m (qJ k m) j=0 from fun j hj=>by
      rw [jR _ _ _ _ JK]; exact hy0 j JK)))
     clear K hy hy0; exact ZG
   obtain rfl:m=16:=by omega
   clear hlt hm g1; have hY:=(K.get _ _ _ _ mS).congr (g:=byB (qJ k)) (fun j hj=>by
    unfold byB; by_cases e:j<16
    · rw [if_pos e]; exact hy j e
    rw [if_neg e]; exact hy0 j JK)
   replace K:Kr w (Y+1) [(Y,.u8,17,byB (qJ k)),(S,.u8,16,fun j=>k (16+j))] [(w.heap.size+1,16)] wr:=⟨fun p hp=>by
    rcases xc1 hp with rfl | hp
    · exact ⟨hY,(K.rows _ mS).2⟩
    · obtain rfl:=xm1 hp; exact K.rows _ (mI 2 rfl),K.room,(fun p hp q hq=>by
    rcases xc1 hp with rfl | hp
    · exact K.apart _ mS q hq
    obtain rfl:=xm1 hp; exact K.apart _ (mI 2 rfl) q hq),K.size,K.base,K.below⟩
   clear hY hy hy0; go_upto_region 14 with fail; refine wR (xpL (.agg (row .u8 17 (fun _=>0)).toArray) ?_); refine qH jF 158 rfl JW (nL ?_); refine ysL .u8 17 (fun _=>0) wr.heap.size (jM (jE _ _ _ rfl).there) (qX _) ?_; have zX:=K.size; replace K:=K.fresh .u8 17 (fun _=>0) jF 158 (jE _ _ _ rfl).there; generalize ((wr.alloc (.cells jF 158)).setCells wr.heap.size 0 (row .u8 17 (fun _=>0)))=w8 at K ⊢; generalize wr.heap.size=X at *; show Exit.then _ _ _ _ _; go_wp2
   go_loopw [11] (fun i w'=>∃ (t:Nat) (a:Nat→Int),16*t<len+16∧i=.int .i64 (16*(t:Int))∧Kr w (X+1) [(X,.u8,17,a),(Y,.u8,17,byB (qJ k)),(S,.u8,16,fun j=>k (16+j))] [(w.heap.size+1,16)] w'∧In 256 17 a∧val 256 a 17=acc (pR k) len z t) (fun i _=>len+16-(intOf i).toNat)
   case atStart=>exact ⟨0,_,by omega,rfl,K,fun _ _=>⟨Int.le_refl 0,Ve⟩,by show val 256 (fun _=>0) 17=0; decide⟩
   case round =>
    clear K; obtain ⟨t,a,ht,rfl,K,ha,hv⟩:=hrel; have g1:(0:Int)≤16*(t:Int):=by omega
    by_cases hlt:16*t<len
    · have g2:16*(t:Int)<(len:Int):=by omega
      obtain ⟨M,hM⟩:∃ M:Nat,M=min (16*t+16) len:=⟨_,rfl⟩
      have hm:(if (len:Int)<16*(t:Int)+16 then (len:Int) else 16*(t:Int)+16)=(M:Int):=by rw [hM]; split <;> omega
      obtain ⟨sq,hq1,hq2⟩:=j7g (P:=Tryz.prog) (t:=32) JU JW sp len cap (16*t) M JK JK hcap; have hpc:M-16*t=pcN len t:=by unfold pcN; omega
      rw [hpc] at hq1 hq2; have ec:((16*t:Nat):Int)=16*(t:Int):=by omega
      rw [ec] at hq1; go_upto_region 18 with fail; refine wR (xm3 ?_); refine xqL (.int .i64 (16*(t:Int)+16)) Je ?_; refine xmL ?_; refine xqL _ Jk ?_; refine xqL (.int .i64 (M:Int)) Vr ?_; refine xqL (.slice sq (pcN len t) (cap-16*t)) Ur ?_; refine clT (j1m sq (pcN len t) (cap-16*t) (fun j=>z (16*t+j)) _ ((hq2 _ _ hs).below K.below (xnR _))) K ?_; clear K; intro w9 K; refine xm2 ?_; refine xmL ?_; refine qH jF 158 rfl JW (nL ?_); refine ysL .u8 17 (mQ len z t) w9.heap.size (jM (jE _ _ _ rfl).there) (qX _) ?_; have zG:=K.size; replace K:=K.fresh .u8 17 (mQ len z t) jF 158 (jE _ _ _ rfl).there; generalize ((w9.alloc (.cells jF 158)).setCells w9.heap.size 0 (row .u8 17 (mQ len z t)))=w10 at K ⊢; generalize w9.heap.size=G at *; refine xmL ?_; show Exit.then _ _ _ _ _; clear hm hM hq1 hq2 hpc ec; go_upto_region 19 with fail
      refine qK (S:=fun w'=>Kr w (G+1) [(G,.u8,17,mQ len z t),(X,.u8,17,a),(Y,.u8,17,byB (qJ k)),(S,.u8,16,fun j=>k (16+j))] [(w.heap.size+1,16)] w') 5 JU K.drew ?_; clear K; intro K; refine aU (i:=0) (some 62) rfl .u8 17 (a) (X) 0 158 _ _ rfl rfl JU rfl rfl rfl JU JU JU JU (fun _ _ _ h=>h) Tryz.underlying158 rfl (jL _) K (fun _ h=>(h.get _ _ _ _ (mT _ mS)).range) (nC ?_); refine aU (i:=1) (some 63) rfl .u8 17 (mQ len z t) (G) 0 158 _ _ rfl rfl JU rfl rfl rfl JU JU JU JU (fun _ _ _ h=>h) Tryz.underlying158 rfl (jL _) K (fun _ h=>(h.get _ _ _ _ mS).range) (nC ?_); refine aU (i:=3) (some 65) rfl .u8 17 (byB (qJ k)) (Y) 0 158 _ _ rfl rfl JU rfl rfl rfl JU JU JU JU (fun _ _ _ h=>h) Tryz.underlying158 rfl (jL _) K (fun _ h=>(h.get _ _ _ _ (mI 2 rfl)).range) (nC ?_); refine yaC 2 64 (j5z a (mQ len z t) ha (j3n len z t hz) _) ?_; rintro e w11 ⟨f1,rfl,s1,l⟩; replace K:=K.call l; clear l; refine ⟨_,rfl,K,nC ?_⟩; refine yaC 4 66 (j5x f1 (byB (qJ k)) s1.1 (q6e _ (j2r k hk1)) _) ?_; rintro e w12 ⟨f2,rfl,s2,l⟩; replace K:=K.call l; clear l; refine ⟨_,rfl,K,nC ?_⟩; refine tM (S2:=fun _=>True) none rfl .u8 17 f2 X 158 _ _ JU rfl rfl rfl rfl rfl (yX (K.get _ _ _ _ (mT _ mS))) (qX _) JU ?_; simp only [Act.put]; refine wE JU ?_ _; have hv2:val 256 f2 17=acc (pR k) len z (t+1):=j5a (by rw [s1.2,hv]) (j9i (qJ k)) s2.2; replace K:=K.set [(G,.u8,17,mQ len z t),(Y,.u8,17,byB (qJ k)),(S,.u8,16,fun j=>k (16+j))] X .u8 17 a f2 (mT _ mS) UH UQ JK; replace K:=K.back [(X,.u8,17,f2),(Y,.u8,17,byB (qJ k)),(S,.u8,16,fun j=>k (16+j))] (X+1) UH UQ YW JK JK; have HS:=show Hid _ from (And.intro K (And.intro s2.1 hv2)); clear K s1 s2 hv hv2 ha; generalize w12.setCells X 0 (row .u8 17 f2)=w13 at HS ⊢; go_wp2
      exact Zw
    obtain rfl:t=npc len:=by unfold npc; omega
    go_upto_region 20 with fail; refine wR (ykL .u8 17 (a) (X) 0 Tryz.underlying158 (jL _) ((K.get _ _ _ _ mS).range) ?_); refine ykL .u8 16 (fun j=>k (16+j)) (S) 0 Tryz.underlying120 (xP _) ((K.get _ _ _ _ (mI 2 rfl)).range) ?_; refine xcL (j5y a (fun j=>k (16+j)) ha hk2 _) ?_; rintro e w9 ⟨f,rfl,s1,l⟩; replace K:=K.call l; clear l; refine xeL ?_; have hz':=(K.room _ mS).1; refine ysL .u8 16 f (w.heap.size+1) (jM hz') (xM _) ?_; have hB:=(K.fill _ _ mS (row .u8 16 f)).below; have HE:=show Hid _ from (And.intro s1.1 (show val 256 f 16=cH k len z by rw [s1.2,hv]; rfl)); clear K s1 hv ha hlt ht g1; show Exit.then _ _ _ _ _; go_wp2
    exact bRq (v:=(.agg (row .u8 16 (f)).toArray)) (jQ Tryz.results116 rfl (Has.all hz' .u8 f).range Tryz.underlying120 rfl (xP f)) rfl ⟨f,rfl,HE.out,hB⟩
theorem q7z (n:Nat) (hn:n=16∨n=12∨n=8∨n=7) (x:Int) (w:World) :
 Calls Tryz.prog 156 #[.int .u32 x,.int .i64 n] w fun e w'=>∃ q,e=.returned (.int .u32 (hrl n x))∧w'=w.drewN q:=by
 rcases hn with rfl | rfl | rfl | rfl
 · go_enter Tryz.func156,Tryz.ntmps156; exact Qr
 · go_enter Tryz.func156,Tryz.ntmps156; exact Qr
 · go_enter Tryz.func156,Tryz.ntmps156; exact Qr
 go_enter Tryz.func156,Tryz.ntmps156
 exact Qr
def q5a (x:Nat→Int) (a b d r:Nat):Nat→Int:=upd (upd x a (had (x a) (x b))) d (hrl r (hxr (upd x a (had (x a) (x b)) d) (upd x a (had (x a) (x b)) a)))
def sA (k:Nat):Nat:=k%2*2
def sB (k:Nat):Nat:=(sA k+1)%4
def sD (k:Nat):Nat:=(sA k+3)%4
def sR:Nat→Nat
 | 0=>16
 | 1=>12
 | 2=>8
 | _+3=>7
def qs (x:Nat→Int):Nat→Nat→Int
 | 0=>x
 | k+1=>q5a (qs x k) (sA k) (sB k) (sD k) (sR k)
theorem q8c (x:Nat→Int) (j:Nat) (hj:j<4):qs x 4 j=hqt x j:=by
 match j,hj with
 | 0,_ | 1,_ | 2,_ | 3,_=>rfl
theorem x1x (k:Nat):sR k=16∨sR k=12∨sR k=8∨sR k=7:=by
 match k with
 | 0 | 1 | 2=>simp [sR]
 | k+3=>simp [sR]
theorem q7w (k:Nat) (hk:k<4):mV 16 12 8 7 k=(sR k:Int):=by
 match k,hk with
 | 0,_ | 1,_ | 2,_ | 3,_=>rfl
theorem q8z (b i:Nat) (hi:i<4) (w:World) {o:Oper} {a:Act} (x y:Operand) (ho:o.op=.indexAddr 154 x y) (hx:a.eval x=.pointer (some ⟨b,0,none⟩)) (hy:a.eval y=.int .i64 (i:Int)) :
 (execOp a.eval o).run Tryz.prog w=.ok (.value (.pointer (some ⟨b,i,none⟩))) w:=by
 have h:=uD (P:=Tryz.prog) 154 118 4 .i64 b 0 i x y Tryz.underlying154 JW hi ho hx hy w
 exact XH
theorem x6o (b i:Nat) (hi:i<4) (w:World) {o:Oper} {a:Act} (x y:Operand) (ho:o.op=.indexAddr 113 x y) (hx:a.eval x=.slice (some ⟨b,0,none⟩) 4 4) (hy:a.eval y=.int .i64 (i:Int)) :
 (execOp a.eval o).run Tryz.prog w=.ok (.value (.pointer (some ⟨b,i,none⟩))) w:=by
 have h:=mX (P:=Tryz.prog) 113 3 4 4 .i64 ⟨b,0,none⟩ i x y Tryz.underlying113 JW hi ho hx hy w
 exact Xh
structure HRI (w:World) (f:Nat→Int) (w':World):Prop where
 hs:Has w' w.heap.size .u32 4 f
 hr:Has w' (w.heap.size+1) .u32 4 (fun _=>0)
 ht:Has w' (w.heap.size+1+1) .i64 4 (mV 16 12 8 7)
 fr:Fr w 3 w'
theorem HRI.drewN {w:World} {f:Nat→Int} {w':World} (h:HRI w f w') (q:Nat):HRI w f (w'.drewN q):=⟨⟨h.hs.cell,h.hs.free⟩,⟨h.hr.cell,h.hr.free⟩,⟨h.ht.cell,h.ht.free⟩,⟨zZ h.fr.below,h.fr.size⟩⟩
theorem HRI.drew {w:World} {f:Nat→Int} {w':World} (h:HRI w f w'):HRI w f w'.drew:=⟨h.hs.drew,h.hr.drew,h.ht.drew,h.fr.drew⟩
theorem HRI.set {w:World} {f:Nat→Int} {w':World} (h:HRI w f w') (i:Nat) (hi:i<4) (v:Int):HRI w (upd f i v) (w'.setCell ⟨w.heap.size,i,none⟩ (.int .u32 v)) :=
 ⟨h.hs.set i hi v,h.hr.set_other _ _ Jf,h.ht.set_other _ _ Ji,h.fr.set _ _ Jf⟩
theorem cQ (x:Nat→Int) (w:World) :
 Calls Tryz.prog 135 #[(.agg (row .u32 4 (x)).toArray)] w fun e w'=>e=.returned (.agg (row .u32 4 (hqt x)).toArray)∧Below w.heap.size w w':=by
 go_enter Tryz.func135,Tryz.ntmps135
 go_wp2
 go_loopw [4] (fun i w'=>∃ k:Nat,k≤4∧i=.int .i64 k∧HRI w (qs x k) w') (fun i _=>4-(intOf i).toNat)
 case atStart=>exact ⟨0,by omega,rfl,⟨((Has.new w _ _ _ _ _ rfl).alloc _ Jf).alloc _ Ji,(j1x _ _ _ Jf).alloc _ Jf,Has.new _ .i64 4 (mV 16 12 8 7) _ _ Jf,(((Fr.refl w).alloc _).alloc _).alloc _⟩⟩
 case round =>
  obtain ⟨k,hk,rfl,K⟩:=hrel; have g1:(0:Int)≤(k:Int):=by omega
  by_cases hlt:k<4
  · have g2:(k:Int)<4:=by omega
    have HT:=show Hid _ from (show qs x (k+1)=q5a (qs x k) (sA k) (sB k) (sD k) (sR k) from rfl)
    have a1:sA k<4:=by unfold sA; omega
    have a2:sB k<4:=by unfold sB; omega
    have a3:sD k<4:=by unfold sD; omega
    have e1:((k:Int)).tmod 2=((k%2:Nat):Int):=by rw [Int.tmod_eq_emod_of_nonneg g1]; omega
    have e2:IntKind.i64.wrap (((k%2:Nat):Int)*2)=(sA k:Int):=by rw [xw6]; unfold sA; omega
    have e3:IntKind.i64.wrap ((sA k:Int)+1)=((sA k+1:Nat):Int):=by rw [xw6]; omega
    have e4:(((sA k+1:Nat):Int)).tmod 4=(sB k:Int):=by rw [Int.tmod_eq_emod_of_nonneg JK]; unfold sB; omega
    have e5:IntKind.i64.wrap ((sA k:Int)+3)=((sA k+3:Nat):Int):=by rw [xw6]; omega
    have e6:(((sA k+3:Nat):Int)).tmod 4=(sD k:Int):=by rw [Int.tmod_eq_emod_of_nonneg JK]; unfold sD; omega
    have e7:=q7w k hlt; have hR:=fun x w=>q7z (sR k) (x1x k) x w; generalize sA k=A at *; generalize sB k=B at *; generalize sD k=D at *; generalize sR k=R at *; generalize qs x k=f at *; go_upto_region 5 with fail; refine wR ?_; refine xmL ?_
    refine xqL (.int .i64 ((k%2:Nat):Int)) (fun w=>mU .i64 _ _ _ _ _ _ _ rfl rfl rfl JG e1 w) ?_; refine xqL (.int .i64 (A:Int)) (fun w=>aM .i64 _ _ _ _ _ _ _ rfl rfl rfl e2 w) ?_; refine xmL ?_; show Exit.then _ _ _ _ _; go_upto_region 6 with fail; refine qK (S:=fun w'=>HRI w f w') 11 JU K.drew ?_; clear K; intro K
    refine xmC 0 15 K ?_; refine xmC 1 16 K ?_; refine xqC 2 17 rfl (.pointer (some ⟨w.heap.size,A,none⟩)) Ki K ?_; refine ycC 3 18 (.int .u32 (f A)) w.heap.size A Tryz.underlying118 K (fun _ h=>h.hs.cell A a1) ?_; refine xmC 4 19 K ?_; refine xqC 5 20 rfl (.int .i64 ((A+1:Nat):Int)) Kl K ?_; refine xqC 6 21 rfl (.int .i64 (B:Int)) (fun w=>mU .i64 _ _ _ _ _ _ _ rfl rfl rfl JG e4 w) K ?_; refine xqC 7 22 rfl (.pointer (some ⟨w.heap.size,B,none⟩)) (fun w'=>q8z w.heap.size B a2 w' _ _ rfl rfl rfl) K ?_; refine ycC 8 23 (.int .u32 (f B)) w.heap.size B Tryz.underlying118 K (fun _ h=>h.hs.cell B a2) ?_; refine xqC 9 24 rfl (.int .u32 (had (f A) (f B))) (fun w=>vM .u32 _ _ _ _ _ _ _ rfl rfl rfl (by rw [IntKind.wrap_u32']; rfl) w) K ?_; refine xqC 10 25 rfl (.pointer (some ⟨w.heap.size,A,none⟩)) Ki K ?_; refine gJ (S2:=fun _=>True) none rfl .u32 (had (f A) (f B)) w.heap.size A 118 _ _ JU rfl rfl rfl rfl rfl (by rw [K.hs.cell A a1]; rfl) (K.hs.free A a1) JU JU ?_; simp only [Act.put]; replace K:=K.set A a1 (had (f A) (f B)); have HU:=show Hid _ from (show q5a f A B D R=upd (upd f A (had (f A) (f B))) D (hrl R (hxr (upd f A (had (f A) (f B)) D) (upd f A (had (f A) (f B)) A))) from rfl); generalize upd f A (had (f A) (f B))=g at *
    refine wE JU ?_ _; generalize wr.drew.setCell ⟨w.heap.size,A,none⟩ (.int .u32 (had (f A) (f B)))=w1 at K ⊢; go_upto_region 7 with fail; refine wR (xmL ?_); refine xqL (.int .i64 ((A+3:Nat):Int)) Kk ?_; refine xqL (.int .i64 (D:Int)) (fun w=>mU .i64 _ _ _ _ _ _ _ rfl rfl rfl JG e6 w) ?_; refine xmL ?_; show Exit.then _ _ _ _ _; go_upto_region 8 with fail; refine qK (S:=fun w'=>HRI w g w') 14 JU K.drew ?_; clear K; intro K; refine xmC 0 29 K ?_; refine xmC 1 30 K ?_; refine xqC 2 31 rfl (.pointer (some ⟨w.heap.size,D,none⟩)) (fun w'=>q8z w.heap.size D a3 w' _ _ rfl rfl rfl) K ?_
    refine ycC 3 32 (.int .u32 (g D)) w.heap.size D Tryz.underlying118 K (fun _ h=>h.hs.cell D a3) ?_; refine xmC 4 33 K ?_; refine xqC 5 34 rfl (.pointer (some ⟨w.heap.size,A,none⟩)) Ki K ?_; refine ycC 6 35 (.int .u32 (g A)) w.heap.size A Tryz.underlying118 K (fun _ h=>h.hs.cell A a1) ?_; refine xqC 7 36 rfl _ Js K ?_; refine xmC 8 37 K ?_; refine xmC 9 38 K ?_; refine xqC 10 39 rfl (.pointer (some ⟨w.heap.size+1+1,k,none⟩)) (fun w'=>x6o (w.heap.size+1+1) k hlt w' _ _ rfl rfl rfl) K ?_; refine ycC 11 40 (.int .i64 (R:Int)) (w.heap.size+1+1) k Tryz.underlying3 K (fun _ h=>by rw [h.ht.cell k hlt,e7]) ?_; refine yaC 12 41 (hR (hxr (g D) (g A)) _) ?_; rintro e w2 ⟨q,rfl,rfl⟩; replace K:=K.drewN q; refine ⟨_,rfl,K,nC ?_⟩; refine xqC 13 42 rfl (.pointer (some ⟨w.heap.size,D,none⟩)) (fun w'=>q8z w.heap.size D a3 w' _ _ rfl rfl rfl) K ?_; refine gJ (S2:=fun _=>True) none rfl .u32 (hrl R (hxr (g D) (g A))) w.heap.size D 118 _ _ JU rfl rfl rfl rfl rfl (by rw [K.hs.cell D a3]; rfl) (K.hs.free D a3) JU JU ?_; simp only [Act.put]; replace K:=K.set D a3 (hrl R (hxr (g D) (g A))); rw [← HU.out,← HT.out] at K; refine wE JU ?_ _; generalize ((w1.drew.drewN q).setCell ⟨w.heap.size,D,none⟩ (.int .u32 (hrl R (hxr (g D) (g A)))))=w3 at K ⊢; have HS:=show Hid _ from K; clear K e1 e2 e3 e4 e5 e6 e7 hR HU HT a1 a2 a3; go_wp2
    go_roundw
    case rel=>first | exact ⟨k+1,by omega,by go_num,HS.out⟩ | ((repeat apply Exists.intro); refine ⟨⟨k+1,by omega,?_,HS.out⟩,rfl⟩ <;> first | rfl | go_num)
    case measure=>simp [intOf]; omega
  obtain rfl:k=4:=by omega
  have hs:=K.hs.congr (g:=hqt x) (fun j hj=>q8c x j hj); have hz:=K.hr; have hB:=(K.fr.setAll (w.heap.size+1) JK (row .u32 4 (hqt x))).below; clear K hlt hk g1; generalize hf:hqt x=f at *; go_wp2_with (first | (refine yl (hs) Tryz.underlying154 (j1y _) ?_) | (refine ys .u32 4 (f) (q5b (hz)) (j4k _) ?_)); exact bRq (v:=(.agg (row .u32 4 (f)).toArray)) (jQ Tryz.results135 rfl (Has.all hz.there .u32 _).range Tryz.underlying154 rfl (j1y _)) rfl ⟨by first | rfl | rw [hf],hB⟩
end Go.Proofs.YtknodlefhclijaaGreatDoor
