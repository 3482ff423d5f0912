/- Texts of Hw Hb Ky Hc Hd He Hf Mk Hg Er Sc Lw Ij Om Ba Bm, joined. -/
import Derived.Test.YtknodlefhclijaaGreatDoorP2ShakePlays
set_option maxRecDepth 20000
set_option maxHeartbeats 64000000
namespace Go.Proofs.YtknodlefhclijaaGreatDoor
open Go.RowKit
theorem q3z (B o l c:Nat) (hl:4≤l) (x0 x1 x2 x3:Int) (h0:0≤x0∧x0<256) (h1:0≤x1∧x1<256) (h2:0≤x2∧x2<256) (h3:0≤x3∧x3<256) (w:World) (c0:w.cell? ⟨B,o,none⟩=some (.int .u8 x0)) (c1:w.cell? ⟨B,o+1,none⟩=some (.int .u8 x1)) (c2:w.cell? ⟨B,o+2,none⟩=some (.int .u8 x2)) (c3:w.cell? ⟨B,o+3,none⟩=some (.int .u8 x3)) :
 Calls Tryz.prog 162 #[.slice (some ⟨B,o,none⟩) l c] w fun e w'=>∃ q,e=.returned (.int .u32 (x0+x1*256+x2*65536+x3*16777216))∧w'=w.drewN q:=by
 have hg:=j1z x0 x1 x2 x3 h0 h1 h2 h3; have HG:=show Hid _ from hg
 have l0:(0:Int)<(l:Int):=by omega
 have l1:(1:Int)<(l:Int):=by omega
 have l2:(2:Int)<(l:Int):=by omega
 have l3:(3:Int)<(l:Int):=by omega
 clear hg h0 h1 h2 h3 hl
 go_enter Tryz.func162,Tryz.ntmps162
 exact Xg
theorem cS (B o n l c:Nat) (a:Nat→Int) (hl:4≤l) (ho:o+4≤n) (ha:In 256 n a) (w:World) (h:Has w B .u8 n a) :
 Calls Tryz.prog 162 #[.slice (some ⟨B,o,none⟩) l c] w fun e w'=>∃ q,e=.returned (.int .u32 (w32 a o))∧w'=w.drewN q :=
 q3z B o l c hl _ _ _ _ (ha o JK) (ha (o+1) JK) (ha (o+2) JK) (ha (o+3) JK) w (h.cell o JK) (h.cell (o+1) JK) (h.cell (o+2) JK) (h.cell (o+3) JK)
theorem q0m (B o l c:Nat) (hl:4≤l) (x:Int) (y0 y1 y2 y3:Int) (w:World) (c0:w.cell? ⟨B,o,none⟩=some (.int .u8 y0)) (f0:w.frozen? ⟨B,o,none⟩=false) (c1:w.cell? ⟨B,o+1,none⟩=some (.int .u8 y1)) (f1:w.frozen? ⟨B,o+1,none⟩=false) (c2:w.cell? ⟨B,o+2,none⟩=some (.int .u8 y2)) (f2:w.frozen? ⟨B,o+2,none⟩=false) (c3:w.cell? ⟨B,o+3,none⟩=some (.int .u8 y3)) (f3:w.frozen? ⟨B,o+3,none⟩=false) :
 Calls Tryz.prog 144 #[.slice (some ⟨B,o,none⟩) l c,.int .u32 x] w fun e w'=>e=.returned (.tuple #[])∧w'=((((w.setCell ⟨B,o,none⟩ (.int .u8 (x%256))).setCell ⟨B,o+1,none⟩ (.int .u8 (x/256%256))).setCell ⟨B,o+2,none⟩ (.int .u8 (x/65536%256))).setCell ⟨B,o+3,none⟩ (.int .u8 (x/16777216%256))):=by
 have l0:(0:Int)<(l:Int):=by omega
 have l1:(1:Int)<(l:Int):=by omega
 have l2:(2:Int)<(l:Int):=by omega
 have l3:(3:Int)<(l:Int):=by omega
 clear hl
 go_enter Tryz.func144,Tryz.ntmps144
 go_wp2
 go_end0
 exact ⟨rfl,rfl⟩
theorem wY (B o n l c:Nat) (hl:4≤l) (g:Nat→Int) (x:Int) (ho:o+4≤n) (w:World) (h:Has w B .u8 n g) :
 Calls Tryz.prog 144 #[.slice (some ⟨B,o,none⟩) l c,.int .u32 x] w fun e w'=>e=.returned (.tuple #[])∧w'=w.setCells B o (row .u8 4 (b32 x)) :=
 q0m B o l c hl x _ _ _ _ w (h.cell o JK) (h.free o JK) (h.cell (o+1) JK) (h.free (o+1) JK) (h.cell (o+2) JK) (h.free (o+2) JK) (h.cell (o+3) JK) (h.free (o+3) JK)
theorem lF (n:Nat) (hn:n=16∨n=12∨n=8∨n=7) (x:Int) (w:World) :
 Calls Tryz.prog 175 #[.int .u32 x,.int .i64 n] w fun e w'=>e=.returned (.int .u32 (hrl n x))∧w'=w:=by
 rcases hn with rfl | rfl | rfl | rfl
 · have hm:bits BinOp.and IntKind.u64 16 31=16:=by decide +kernel
   go_enter Tryz.func175,Tryz.ntmps175; exact ZQ
 · have hm:bits BinOp.and IntKind.u64 12 31=12:=by decide +kernel
   go_enter Tryz.func175,Tryz.ntmps175; exact ZQ
 · have hm:bits BinOp.and IntKind.u64 8 31=8:=by decide +kernel
   go_enter Tryz.func175,Tryz.ntmps175; exact ZQ
 have hm:bits BinOp.and IntKind.u64 7 31=7:=by decide +kernel
 go_enter Tryz.func175,Tryz.ntmps175
 exact ZQ
theorem rB {P:Program} {fn:Func} {tmps:Array Value} {w:World} {a b c d:Tmp} {u v x y:Value} (hr:fn.results=#[.tmp a,.tmp b,.tmp c,.tmp d])
 (ha:tmps.getD a undef=u) (hb:tmps.getD b undef=v) (hc:tmps.getD c undef=x) (hd:tmps.getD d undef=y) :
 (results fn tmps).run P w=.ok (.tuple #[u,v,x,y]) w:=by
 rw [Array.getD_eq_getD_getElem?] at ha hb hc hd
 simp [results,hr,ha,hb,hc,hd]
theorem rD (n:Int) (p:Nat) (hn:(n=-16∧p=16)∨(n=-12∧p=20)∨(n=-8∧p=24)∨(n=-7∧p=25)) (x:Int) (w:World) :
 Calls Tryz.prog 175 #[.int .u32 x,.int .i64 n] w fun e w'=>e=.returned (.int .u32 (hrl p x))∧w'=w:=by
 rcases hn with ⟨rfl,rfl⟩ | ⟨rfl,rfl⟩ | ⟨rfl,rfl⟩ | ⟨rfl,rfl⟩
 · have hm:bits BinOp.and IntKind.u64 (IntKind.u64.wrap (-16)) 31=16:=by decide +kernel
   go_enter Tryz.func175,Tryz.ntmps175; exact ZQ
 · have hm:bits BinOp.and IntKind.u64 (IntKind.u64.wrap (-12)) 31=20:=by decide +kernel
   go_enter Tryz.func175,Tryz.ntmps175; exact ZQ
 · have hm:bits BinOp.and IntKind.u64 (IntKind.u64.wrap (-8)) 31=24:=by decide +kernel
   go_enter Tryz.func175,Tryz.ntmps175; exact ZQ
 have hm:bits BinOp.and IntKind.u64 (IntKind.u64.wrap (-7)) 31=25:=by decide +kernel
 go_enter Tryz.func175,Tryz.ntmps175
 exact ZQ
theorem q2i (a b c d:Int) (w:World) :
 Calls Tryz.prog 174 #[.int .u32 a,.int .u32 b,.int .u32 c,.int .u32 d] w fun e w'=>e=.returned (.tuple #[.int .u32 (qA a b c d),.int .u32 (qB a b c d),.int .u32 (qC a b c d),.int .u32 (qD a b c d)])∧w'=w:=by
 go_enter Tryz.func174,Tryz.ntmps174
 go_wp2_with fail
 refine (lF 16 (.inl rfl) _ _).mono ?_; rintro e w16 ⟨rfl,rfl⟩
 go_wp2_with fail
 refine (lF 12 (.inr (.inl rfl)) _ _).mono ?_; rintro e w12 ⟨rfl,rfl⟩
 go_wp2_with fail
 refine (lF 8 (.inr (.inr (.inl rfl))) _ _).mono ?_; rintro e w8 ⟨rfl,rfl⟩
 go_wp2_with fail
 refine (lF 7 (.inr (.inr (.inr rfl))) _ _).mono ?_; rintro e w7 ⟨rfl,rfl⟩
 go_wp2_with fail
 exact bRq (rB Tryz.results174 rfl rfl rfl rfl) rfl ⟨by simp only [qA,qB,qC,qD,hA,hB,hC,hD,hxr,had,Int.emod_add_emod]; rfl,rfl⟩
theorem jJ (f:Nat→Int):(Tryz.prog.info? 23).map (·.size)=some (row .u8 32 f).length:=by rw [jX]; kernel_rfl
theorem jV (f:Nat→Int):(Tryz.prog.info? 23).map (·.size)=some (row .u8 32 f).toArray.size:=by rw [xA]; exact jJ f
theorem yQ {w:World} {b:Nat} {f g:Nat→Int} (h:Has w b .u8 32 f):w.there b 0 (row .u8 32 g).toArray.size:=by rw [xA,jX]; exact h.there
theorem jK (w:World) (t:TypeId) (b:Nat) (hb:b=w.heap.size):Has (w.alloc (.cells jY t)) b .u8 32 (fun _=>0):=Has.new w .u8 32 (fun _=>0) t b hb
theorem j1y (f:Nat→Int):(Tryz.prog.info? 154).map (·.size)=some (row .u32 4 f).length:=by rw [jX]; kernel_rfl
theorem j4k (f:Nat→Int):(Tryz.prog.info? 154).map (·.size)=some (row .u32 4 f).toArray.size:=by rw [xA]; exact j1y f
theorem q5b {w:World} {b:Nat} {f g:Nat→Int} (h:Has w b .u32 4 f):w.there b 0 (row .u32 4 g).toArray.size:=by rw [xA,jX]; exact h.there
theorem j1x (w:World) (t:TypeId) (b:Nat) (hb:b=w.heap.size):Has (w.alloc (.cells j5c t)) b .u32 4 (fun _=>0):=Has.new w .u32 4 (fun _=>0) t b hb
theorem tB (f:Nat→Int):(Tryz.prog.info? 171).map (·.size)=some (row .u32 16 f).length:=by rw [jX]; kernel_rfl
theorem sX (f:Nat→Int):(Tryz.prog.info? 171).map (·.size)=some (row .u32 16 f).toArray.size:=by rw [xA]; exact tB f
theorem eZ {w:World} {b:Nat} {f g:Nat→Int} (h:Has w b .u32 16 f):w.there b 0 (row .u32 16 g).toArray.size:=by rw [xA,jX]; exact h.there
theorem tL (w:World) (t:TypeId) (b:Nat) (hb:b=w.heap.size):Has (w.alloc (.cells yT t)) b .u32 16 (fun _=>0):=Has.new w .u32 16 (fun _=>0) t b hb
theorem zL (f:Nat→Int):(Tryz.prog.info? 96).map (·.size)=some (row .u8 12 f).length:=by rw [jX]; kernel_rfl
theorem pG (f:Nat→Int):(Tryz.prog.info? 134).map (·.size)=some (row .u8 64 f).length:=by rw [jX]; kernel_rfl
theorem gN (f:Nat→Int):(Tryz.prog.info? 134).map (·.size)=some (row .u8 64 f).toArray.size:=by rw [xA]; exact pG f
theorem uT (w:World) (t:TypeId) (b:Nat) (hb:b=w.heap.size):Has (w.alloc (.cells xL t)) b .u8 64 (fun _=>0):=Has.new w .u8 64 (fun _=>0) t b hb
def q5c:Nat→Int:=mV 1634760805 857760878 2036477234 1797285236
def plc (j:Nat):Int:=if j%4=0 then (pA (j/4):Int) else if j%4=1 then (pB (j/4):Int) else if j%4=2 then (pC (j/4):Int) else (pD (j/4):Int)
structure HGlob (w:World):Prop where
 first:∀ j,j<4→w.cell? ⟨6,j,none⟩=some (.int .u32 (q5c j))
 place:∀ j,j<32→w.cell? ⟨7,j,none⟩=some (.int .i64 (plc j))
 size:10≤w.heap.size
theorem HGlob.below {w w':World} (h:HGlob w) {B:Nat} (l:Below B w w') (hB:10≤B):HGlob w' :=
 ⟨fun j hj=>by rw [l.cell (p:=⟨6,j,none⟩) (xnL (show 6<10 by decide) hB)]; exact h.first j hj,fun j hj=>by rw [l.cell (p:=⟨7,j,none⟩) (xnL (show 7<10 by decide) hB)]; exact h.place j hj,by have:=h.size; have:=l.size; omega⟩
theorem HGlob.fr {w w':World} {k:Nat} (h:HGlob w) (g:Fr w k w'):HGlob w':=h.below g.below h.size
theorem HGlob.four {w:World} (h:HGlob w) (k:Nat) (hk:k<8):w.cell? ⟨7,k*4,none⟩=some (.int .i64 (pA k))∧w.cell? ⟨7,k*4+1,none⟩=some (.int .i64 (pB k))∧w.cell? ⟨7,k*4+2,none⟩=some (.int .i64 (pC k))∧w.cell? ⟨7,k*4+3,none⟩=some (.int .i64 (pD k)):=by
 have e1:plc (k*4)=(pA k:Int):=by unfold plc; rw [if_pos JK,show k*4/4=k by omega]
 have e2:plc (k*4+1)=(pB k:Int):=by unfold plc; rw [if_neg JK,if_pos JK,show (k*4+1)/4=k by omega]
 have e3:plc (k*4+2)=(pC k:Int):=by unfold plc; rw [if_neg JK,if_neg JK,if_pos JK,show (k*4+2)/4=k by omega]
 have e4:plc (k*4+3)=(pD k:Int):=by unfold plc; rw [if_neg JK,if_neg JK,if_neg JK,show (k*4+3)/4=k by omega]
 exact Xo
theorem fH (b i:Nat) (hi:i<16) (w:World) {o:Oper} {a:Act} (x y:Operand) (ho:o.op=.indexAddr 171 x y) (hx:a.eval x=.pointer (some ⟨b,0,none⟩)) (hy:a.eval y=.int .i64 (i:Int)) :
 (execOp a.eval o).run Tryz.prog w=.ok (.value (.pointer (some ⟨b,i,none⟩))) w:=by
 have h:=uD (P:=Tryz.prog) 171 118 16 .i64 b 0 i x y Tryz.underlying171 JW hi ho hx hy w
 exact XH
structure HDI (s:Nat→Int) (w:World) (k:Nat) (w':World):Prop where
 hs:Has w' w.heap.size .u32 16 (htN s k)
 hr:Has w' (w.heap.size+1) .u32 16 (fun _=>0)
 fr:Fr w 2 w'
theorem HDI.drewN {s:Nat→Int} {w:World} {k q:Nat} {w':World} (h:HDI s w k w'):HDI s w k (w'.drewN q):=⟨⟨h.hs.cell,h.hs.free⟩,⟨h.hr.cell,h.hr.free⟩,⟨zZ h.fr.below,h.fr.size⟩⟩
theorem HDI.drew {s:Nat→Int} {w:World} {k:Nat} {w':World} (h:HDI s w k w'):HDI s w k w'.drew:=⟨h.hs.drew,h.hr.drew,h.fr.drew⟩
theorem j4l (s:Nat→Int) (w:World) (hg:HGlob w) :
 Calls Tryz.prog 154 #[(.agg (row .u32 16 (s)).toArray)] w fun e w'=>e=.returned (.agg (row .u32 16 (htN s 8)).toArray)∧Below w.heap.size w w':=by
 go_enter Tryz.func154,Tryz.ntmps154
 go_wp2
 go_loopw [8] (fun i w'=>∃ k:Nat,k≤8∧i=.int .i64 k∧HDI s w k w') (fun i _=>8-(intOf i).toNat)
 case atStart=>exact ⟨0,by omega,rfl,⟨(Has.new w _ _ _ _ _ rfl).alloc _ Jf,tL _ _ _ Jf,((Fr.refl w).alloc _).alloc _⟩⟩
 case round =>
  obtain ⟨k,hk,rfl,hI⟩:=hrel; have hG:=hg.fr hI.fr; have g1:(0:Int)≤(k:Int):=by omega
  by_cases hlt:k<8
  · have HT:=show Hid _ from (show htN s (k+1)=tAt (htN s k) k from rfl)
    have HI:=show Hid _ from fun (q:Nat)=>(hI.drewN (q:=q)).drew
    have g2:(k:Int)<8:=by omega
    obtain ⟨p1,p2,p3,p4⟩:=hG.four k hlt; have l1:pA k<16:=by have:=q3t k; omega
    have l2:pB k<16:=by have:=j8k k; omega
    have l3:pC k<16:=by have:=q3s k; omega
    have l4:pD k<16:=j8j k; unfold tAt at HT; clear hI hG hk; generalize hA:pA k=A at *; generalize hB:pB k=B at *; generalize hC:pC k=C at *; generalize hD:pD k=D at *; clear hA hB hC hD; go_wp2; go_quiet (fail); go_upto_region 5 with fail; have hI:=HI.out nq; clear p1 p2 p3 p4 HI; refine qK (S:=fun w'=>HDI s w k w') 16 JU hI ?_; clear hI; intro K; refine xmC 0 28 K ?_; refine xmC 1 29 K ?_; refine xmC 2 30 K ?_; refine xmC 3 31 K ?_; refine xmC 4 32 K ?_; refine xqC 5 33 rfl _ (fun w'=>fH w.heap.size A l1 w' _ _ rfl rfl rfl) K ?_; refine ycC 6 34 (.int .u32 (htN s k A)) w.heap.size A Tryz.underlying118 K (fun _ h=>h.hs.cell A l1) ?_; refine xmC 7 35 K ?_; refine xqC 8 36 rfl _ (fun w'=>fH w.heap.size B l2 w' _ _ rfl rfl rfl) K ?_; refine ycC 9 37 (.int .u32 (htN s k B)) w.heap.size B Tryz.underlying118 K (fun _ h=>h.hs.cell B l2) ?_; refine xmC 10 38 K ?_; refine xqC 11 39 rfl _ (fun w'=>fH w.heap.size C l3 w' _ _ rfl rfl rfl) K ?_; refine ycC 12 40 (.int .u32 (htN s k C)) w.heap.size C Tryz.underlying118 K (fun _ h=>h.hs.cell C l3) ?_; refine xmC 13 41 K ?_; refine xqC 14 42 rfl _ (fun w'=>fH w.heap.size D l4 w' _ _ rfl rfl rfl) K ?_; refine ycC 15 43 (.int .u32 (htN s k D)) w.heap.size D Tryz.underlying118 K (fun _ h=>h.hs.cell D l4) ?_; refine x0v (S2:=fun _=>True) (some 44) rfl JU rfl rfl JW (q2i (htN s k A) (htN s k B) (htN s k C) (htN s k D) _) JU ?_; rintro e w' ⟨rfl,rfl⟩; refine ⟨_,rfl,nH ?_⟩; have T:True:=trivial; refine xmH 17 27 T ?_; refine xmH 18 45 T ?_; refine xmH 19 46 T ?_; refine xmH 20 47 T ?_; refine xmH 21 48 T ?_; have h0:=K.hs; have r0:=K.hr; have f0:=K.fr; clear K; refine xqH 22 49 rfl _ (fun w'=>fH w.heap.size A l1 w' _ _ rfl rfl rfl) T ?_; refine gM (i:=23) none rfl .u32 (qA (htN s k A) (htN s k B) (htN s k C) (htN s k D)) w.heap.size A 118 _ _ JU rfl rfl rfl rfl rfl (by rw [h0.cell A l1]; rfl) (h0.free A l1) JU T ?_; simp only [Act.put]; have h1:=h0.set A l1 (qA (htN s k A) (htN s k B) (htN s k C) (htN s k D)); have r1:=r0.set_other ⟨w.heap.size,A,none⟩ (.int .u32 (qA (htN s k A) (htN s k B) (htN s k C) (htN s k D))) Jf; have f1:=f0.set ⟨w.heap.size,A,none⟩ (.int .u32 (qA (htN s k A) (htN s k B) (htN s k C) (htN s k D))) Jf; clear h0 r0 f0; refine xqH 24 50 rfl _ (fun w'=>fH w.heap.size B l2 w' _ _ rfl rfl rfl) T ?_; refine gM (i:=25) none rfl .u32 (qB (htN s k A) (htN s k B) (htN s k C) (htN s k D)) w.heap.size B 118 _ _ JU rfl rfl rfl rfl rfl (by rw [h1.cell B l2]; rfl) (h1.free B l2) JU T ?_; simp only [Act.put]; have h2:=h1.set B l2 (qB (htN s k A) (htN s k B) (htN s k C) (htN s k D)); have r2:=r1.set_other ⟨w.heap.size,B,none⟩ (.int .u32 (qB (htN s k A) (htN s k B) (htN s k C) (htN s k D))) Jf; have f2:=f1.set ⟨w.heap.size,B,none⟩ (.int .u32 (qB (htN s k A) (htN s k B) (htN s k C) (htN s k D))) Jf; clear h1 r1 f1; refine xqH 26 51 rfl _ (fun w'=>fH w.heap.size C l3 w' _ _ rfl rfl rfl) T ?_; refine gM (i:=27) none rfl .u32 (qC (htN s k A) (htN s k B) (htN s k C) (htN s k D)) w.heap.size C 118 _ _ JU rfl rfl rfl rfl rfl (by rw [h2.cell C l3]; rfl) (h2.free C l3) JU T ?_; simp only [Act.put]; have h3:=h2.set C l3 (qC (htN s k A) (htN s k B) (htN s k C) (htN s k D)); have r3:=r2.set_other ⟨w.heap.size,C,none⟩ (.int .u32 (qC (htN s k A) (htN s k B) (htN s k C) (htN s k D))) Jf; have f3:=f2.set ⟨w.heap.size,C,none⟩ (.int .u32 (qC (htN s k A) (htN s k B) (htN s k C) (htN s k D))) Jf; clear h2 r2 f2; refine xqH 28 52 rfl _ (fun w'=>fH w.heap.size D l4 w' _ _ rfl rfl rfl) T ?_; refine gM (i:=29) none rfl .u32 (qD (htN s k A) (htN s k B) (htN s k C) (htN s k D)) w.heap.size D 118 _ _ JU rfl rfl rfl rfl rfl (by rw [h3.cell D l4]; rfl) (h3.free D l4) JU T ?_; simp only [Act.put]; have h4:=h3.set D l4 (qD (htN s k A) (htN s k B) (htN s k C) (htN s k D)); have r4:=r3.set_other ⟨w.heap.size,D,none⟩ (.int .u32 (qD (htN s k A) (htN s k B) (htN s k C) (htN s k D))) Jf; have f4:=f3.set ⟨w.heap.size,D,none⟩ (.int .u32 (qD (htN s k A) (htN s k B) (htN s k C) (htN s k D))) Jf; clear h3 r3 f3; refine wE JU ?_ _; rw [← HT.out] at h4; have HS:=show Hid _ from (HDI.mk h4 r4 f4); clear h4 r4 f4 T l1 l2 l3 l4; go_wp2
    exact Qf
  obtain rfl:k=8:=by omega
  have hs:=hI.hs; have hz:=hI.hr; have hB:=(hI.fr.setAll (w.heap.size+1) JK (row .u32 16 (htN s 8))).below; clear hI hlt hk hG; generalize hf:htN s 8=f at *; go_wp2_with (first | (refine yl (hs) Tryz.underlying171 (tB _) ?_) | (refine ys .u32 16 (f) (eZ (hz)) (sX _) ?_)); exact bRq (v:=(.agg (row .u32 16 (f)).toArray)) (jQ Tryz.results154 rfl (Has.all hz.there .u32 _).range Tryz.underlying171 rfl (tB _)) rfl ⟨by rw [hf],hB⟩
theorem q5e (b k:Nat) (hk:k<8) (w:World):(Instr.sliceAt 23 (.pointer (some ⟨b,0,none⟩)) (some (.int .i64 (4*(k:Int)))) none none).run Tryz.prog w=.ok (.slice (some ⟨b,4*k,none⟩) (32-4*k) (32-4*k)) w:=by
 exact ZV
theorem q5d (b k:Nat) (hk:k<3) (w:World):(Instr.sliceAt 96 (.pointer (some ⟨b,0,none⟩)) (some (.int .i64 (4*(k:Int)))) none none).run Tryz.prog w=.ok (.slice (some ⟨b,4*k,none⟩) (12-4*k) (12-4*k)) w:=by
 have hl:Tryz.prog.arrayLen 96=12:=by kernel_rfl
 have hs:∀ w,(sizeOf (Tryz.prog.elem 96)).run Tryz.prog w=.ok 1 w:=fun w=>by kernel_rfl
 rw [run_sliceAt_array_l w 96 ⟨b,0,none⟩ JU .i64 _ JK (by rw [hl]; omega),hs,hl]
 exact Ql
structure HBI (k:Nat→Int) (c:Int) (n:Nat→Int) (w:World) (m:Nat) (f:Nat→Int) (w':World):Prop where
 done:∀ j,j<m→f j=hst k c n j
 hk:Has w' w.heap.size .u8 32 k
 hn:Has w' (w.heap.size+1) .u8 12 n
 hr:Has w' (w.heap.size+1+1) .u32 16 (fun _=>0)
 hs:Has w' (w.heap.size+1+1+1) .u32 16 f
 fr:Fr w 4 w'
theorem HBI.drewN {k:Nat→Int} {c:Int} {n:Nat→Int} {w:World} {m:Nat} {f:Nat→Int} {w':World} (h:HBI k c n w m f w') (q:Nat):HBI k c n w m f (w'.drewN q) :=
 ⟨h.done,⟨h.hk.cell,h.hk.free⟩,⟨h.hn.cell,h.hn.free⟩,⟨h.hr.cell,h.hr.free⟩,⟨h.hs.cell,h.hs.free⟩,⟨zZ h.fr.below,h.fr.size⟩⟩
theorem HBI.step {k:Nat→Int} {c:Int} {n:Nat→Int} {w:World} {m:Nat} {f:Nat→Int} {w':World} (h:HBI k c n w m f w') (hm:m<16) (v:Int) (hv:hst k c n m=v):HBI k c n w (m+1) (upd f m v) (w'.setCell ⟨w.heap.size+1+1+1,m,none⟩ (.int .u32 v)):=by
 refine ⟨fun j hj=>?_,h.hk.set_other _ _ Ji,h.hn.set_other _ _ Ji,h.hr.set_other _ _ Jf,h.hs.set m hm v,h.fr.set _ _ Ji⟩
 by_cases e:j=m
 · subst e; rw [jP,hv]
 exact Qm
theorem q1c (k:Nat→Int) (c:Int) (n:Nat→Int) (j:Nat) (hj:j<4):hst k c n j=q5c j:=by
 match j,hj with
 | 0,_ | 1,_ | 2,_ | 3,_=>rfl
theorem j8y (k:Nat→Int) (c:Int) (n:Nat→Int) (j:Nat) (hj:j<8):hst k c n (4+j)=w32 k (4*j):=by
 match j,hj with
 | 0,_ | 1,_ | 2,_ | 3,_ | 4,_ | 5,_ | 6,_ | 7,_=>rfl
theorem j8x (k:Nat→Int) (c:Int) (n:Nat→Int) (j:Nat) (hj:j<3):hst k c n (13+j)=w32 n (4*j):=by
 match j,hj with
 | 0,_ | 1,_ | 2,_=>rfl
theorem j7d (k:Nat→Int) (c:Int) (n:Nat→Int) (hk:In 256 32 k) (hn:In 256 12 n) (w:World) (hg:HGlob w) :
 Calls Tryz.prog 153 #[(.agg (row .u8 32 (k)).toArray),.int .u32 c,(.agg (row .u8 12 (n)).toArray)] w fun e w'=>e=.returned (.agg (row .u32 16 (hst k c n)).toArray)∧Below w.heap.size w w':=by
 go_enter Tryz.func153,Tryz.ntmps153
 go_wp2
 go_loopw [11] (fun i w'=>∃ (m:Nat) (f:Nat→Int),m≤4∧i=.int .i64 m∧HBI k c n w m f w') (fun i _=>4-(intOf i).toNat)
 case atStart=>exact ⟨0,fun _=>0,by omega,rfl,⟨fun j hj=>by omega,(((Has.new w _ _ _ _ _ rfl).alloc _ Jf).alloc _ Ji).alloc _ Ji,((Has.new _ _ _ _ _ _ Jf).alloc _ Jf).alloc _ Jf,(tL _ _ _ Jf).alloc _ Jf,tL _ _ _ Jf,((((Fr.refl w).alloc _).alloc _).alloc _).alloc _⟩⟩
 case round =>
  obtain ⟨m,f,hm,rfl,hI⟩:=hrel; have g1:(0:Int)≤(m:Int):=by omega
  by_cases hlt:m<4
  · have HS:=show Hid _ from hI.step JK _ (q1c k c n m hlt)
    have g2:(m:Int)<4:=by omega
    have g3:(m:Int)<16:=by omega
    have p1:=(hg.fr hI.fr).first m hlt; have c1:=hI.hs.cell m JK; have f1:=hI.hs.free m JK; clear hI hm; generalize f m=y at *; generalize q5c m=z at *; go_wp2; go_roundw
    case rel=>exact ⟨m+1,_,by omega,by go_num,HS.out⟩
    case measure=>simp [intOf]; omega
  obtain rfl:m=4:=by omega
  clear hlt hm g1; go_wp2; go_loopw [20] (fun i w'=>∃ (m:Nat) (f:Nat→Int),m≤8∧i=.int .i64 m∧HBI k c n w (4+m) f w') (fun i _=>8-(intOf i).toNat)
  case atStart=>exact ⟨0,f,by omega,rfl,hI⟩
  case round =>
   obtain ⟨m,f,hm,rfl,hI⟩:=hrel; have g1:(0:Int)≤(m:Int):=by omega
   by_cases hlt:m<8
   · have hcut:=q5e w.heap.size m hlt; have HC:=show Hid _ from cS w.heap.size (4*m) 32 (32-4*m) (32-4*m) k JK JK hk wr hI.hk; have HS:=show Hid _ from fun q=>(hI.drewN q).step JK _ (j8y k c n m hlt)
     have g2:(m:Int)<8:=by omega
     have g3:(0:Int)≤4+(m:Int):=by omega
     have g4:4+(m:Int)<16:=by omega
     have g5:(4+(m:Int)).toNat=4+m:=by omega
     have cn:∀ q,(wr.drewN q).cell? ⟨w.heap.size+1+1+1,4+m,none⟩=some (.int .u32 (f (4+m))):=fun q=>hI.hs.cell (4+m) JK
     have fn:∀ q,(wr.drewN q).frozen? ⟨w.heap.size+1+1+1,4+m,none⟩=false:=fun q=>hI.hs.free (4+m) JK
     clear hI hm; generalize f (4+m)=y at *; generalize w32 k (4*m)=z at *; go_wp2_with fail; refine Calls.mono HC.out ?_; rintro e w' ⟨q,rfl,rfl⟩; exact Qw
   obtain rfl:m=8:=by omega
   have hI2:=hI.step JK c rfl; have c1:=hI.hs.cell 12 JK; have f1:=hI.hs.free 12 JK; clear hlt hm g1 hI; generalize f 12=y at *; go_wp2; go_loopw [33] (fun i w'=>∃ (m:Nat) (f:Nat→Int),m≤3∧i=.int .i64 m∧HBI k c n w (13+m) f w') (fun i _=>3-(intOf i).toNat)
   case atStart=>exact ⟨0,_,by omega,rfl,hI2⟩
   case round =>
    obtain ⟨m,f,hm,rfl,hI⟩:=hrel; have g1:(0:Int)≤(m:Int):=by omega
    clear hI2 c1 f1; by_cases hlt:m<3
    · have hcut:=q5d (w.heap.size+1) m hlt; have HC:=show Hid _ from cS (w.heap.size+1) (4*m) 12 (12-4*m) (12-4*m) n JK JK hn wr hI.hn; have HS:=show Hid _ from fun q=>(hI.drewN q).step JK _ (j8x k c n m hlt)
      have g2:(m:Int)<3:=by omega
      have g3:(0:Int)≤13+(m:Int):=by omega
      have g4:13+(m:Int)<16:=by omega
      have g5:(13+(m:Int)).toNat=13+m:=by omega
      have cn:∀ q,(wr.drewN q).cell? ⟨w.heap.size+1+1+1,13+m,none⟩=some (.int .u32 (f (13+m))):=fun q=>hI.hs.cell (13+m) JK
      have fn:∀ q,(wr.drewN q).frozen? ⟨w.heap.size+1+1+1,13+m,none⟩=false:=fun q=>hI.hs.free (13+m) JK
      clear hI hm; generalize f (13+m)=y at *; generalize w32 n (4*m)=z at *; go_wp2_with fail; refine Calls.mono HC.out ?_; rintro e w' ⟨q,rfl,rfl⟩; exact Qw
    obtain rfl:m=3:=by omega
    have hs:=hI.hs.congr (g:=hst k c n) (fun j hj=>hI.done j hj); have hz:=hI.hr; have hB:=(hI.fr.setAll (w.heap.size+1+1) JK (row .u32 16 (hst k c n))).below; clear hI hlt hm g1; generalize hf:hst k c n=g at *; go_wp2_with (first | (refine yl (hs) Tryz.underlying171 (tB _) ?_) | (refine ys .u32 16 (g) (eZ (hz)) (sX _) ?_)); exact bRq (v:=(.agg (row .u32 16 (g)).toArray)) (jQ Tryz.results153 rfl (Has.all hz.there .u32 _).range Tryz.underlying171 rfl (tB _)) rfl ⟨by rw [hf],hB⟩
theorem q9a (b k:Nat) (hk:k<16) (w:World):(Instr.sliceAt 134 (.pointer (some ⟨b,0,none⟩)) (some (.int .i64 (4*(k:Int)))) none none).run Tryz.prog w=.ok (.slice (some ⟨b,4*k,none⟩) (64-4*k) (64-4*k)) w:=by
 exact ZY
def HO (k:Nat→Int) (c:Int) (n:Nat→Int) (O i:Nat) (g:Nat→Int) (w':World):Prop:=Has w' O .u8 64 g∧∀ j,j<4*i→g j=yK k c n j
theorem q0s {k:Nat→Int} {c:Int} {n:Nat→Int} {i:Nat} {g:Nat→Int} (h:∀ j,j<4*i→g j=yK k c n j) (j:Nat) (hj:j<4*(i+1)):uA g (4*i) 4 (b32 (hwd k c n i)) j=yK k c n j:=by
 unfold uA
 by_cases e:4*i≤j∧j<4*i+4
 · rw [if_pos e]; unfold yK; rw [show j/4=i by omega,show j%4=j-4*i by omega]
 rw [if_neg e]; exact h j JK
theorem eU (k:Nat→Int) (c:Int) (n:Nat→Int) (hk:In 256 32 k) (hn:In 256 12 n) (w:World) (hg:HGlob w) :
 Calls Tryz.prog 131 #[(.agg (row .u8 32 (k)).toArray),.int .u32 c,(.agg (row .u8 12 (n)).toArray)] w fun e w'=>e=.returned (.agg (row .u8 64 (yK k c n)).toArray)∧Below w.heap.size w w':=by
 have K:=Kr.init w; replace K:=K.box .u8 32 k 23 w.heap.size rfl; replace K:=K.box .u8 12 n 96 (w.heap.size+1) Jf; replace K:=K.make 64 xL 134 (w.heap.size+1+1) Jf (uT _ _ _ Jf).there
 go_enter Tryz.func131,Tryz.ntmps131
 go_upto_region 1 with fail; generalize (((w.alloc (.cells (row .u8 32 k).toArray 23)).alloc (.cells (row .u8 12 n).toArray 96)).alloc (.cells xL 134))=w0 at K ⊢; refine wR ?_; refine tJ .u8 32 k w.heap.size 0 23 _ _ rfl rfl rfl Tryz.underlying23 rfl (jJ _) (K.get _ _ _ _ (mT _ mS)).range (nL ?_); refine xmL ?_
 refine tJ .u8 12 n (w.heap.size+1) 0 96 _ _ rfl rfl rfl Tryz.underlying96 rfl (zL _) (K.get _ _ _ _ mS).range (nL ?_); refine clT (j7d k c n hk hn _ (hg.below K.below hg.size)) K ?_; clear K; intro w1 K; refine qH yT 171 rfl JW (nL ?_)
 refine ysL .u32 16 (hst k c n) w1.heap.size (jM (tL _ _ _ rfl).there) (sX _) ?_; have z1:=K.size; replace K:=K.fresh .u32 16 (hst k c n) yT 171 (tL _ _ _ rfl).there; generalize ((w1.alloc (.cells yT 171)).setCells w1.heap.size 0 (row .u32 16 (hst k c n)))=w2 at K ⊢; generalize w1.heap.size=B at *; clear w1 w0
 show Exit.then _ _ _ _ _; go_upto_region 2 with fail; refine wR ?_; refine tJ .u32 16 (hst k c n) B 0 171 _ _ rfl rfl rfl Tryz.underlying171 rfl (tB _) (K.get _ _ _ _ mS).range (nL ?_); refine qH yT 171 rfl JW (nL ?_)
 refine ysL .u32 16 (hst k c n) w2.heap.size (jM (tL _ _ _ rfl).there) (sX _) ?_; have z2:=K.size; replace K:=K.fresh .u32 16 (hst k c n) yT 171 (tL _ _ _ rfl).there; generalize ((w2.alloc (.cells yT 171)).setCells w2.heap.size 0 (row .u32 16 (hst k c n)))=w3 at K ⊢; generalize w2.heap.size=S at *; clear w2
 show Exit.then _ _ _ _ _
 replace K:=K.sub [(S,.u32,16,hst k c n),(B,.u32,16,hst k c n)] (fun p hp=>by
  rcases xc1 hp with rfl | hp
  · exact mS
  rcases xc1 hp with rfl | hp
  · exact mT _ mS
  cases hp)
 go_wp2
 go_loopw [16] (fun i w'=>∃ t:Nat,t≤10∧i=.int .i64 t∧Kr w (S+1) [(S,.u32,16,drN (hst k c n) t),(B,.u32,16,hst k c n)] [(w.heap.size+1+1,64)] w') (fun i _=>10-(intOf i).toNat)
 case atStart=>exact ⟨0,by omega,rfl,K⟩
 case round =>
  clear K; obtain ⟨t,ht,rfl,K⟩:=hrel; have g1:(0:Int)≤(t:Int):=by omega
  by_cases hlt:t<10
  · have g2:(t:Int)<10:=by omega
    go_upto_region 5 with fail; refine wR ?_; refine tJ .u32 16 (drN (hst k c n) t) S 0 171 _ _ rfl rfl rfl Tryz.underlying171 rfl (tB _) (K.get _ _ _ _ mS).range (nL ?_); refine clT (j4l (drN (hst k c n) t) _ (hg.below K.below hg.size)) K ?_; clear K; intro w4 K; refine ysL .u32 16 (htN (drN (hst k c n) t) 8) S (eZ (K.get _ _ _ _ mS)) (sX _) ?_; have HS:=show Hid _ from K.set [(B,.u32,16,hst k c n)] S .u32 16 (drN (hst k c n) t) (drN (hst k c n) (t+1)) mS KX Jv (by have:=K.base; omega); clear K
    show Exit.inBlock _ _ _ _ _
    go_wp2; go_roundw
    case rel=>exact ⟨t+1,by omega,by go_num,HS.out⟩
    case measure=>simp [intOf]; omega
  obtain rfl:t=10:=by omega
  clear ht hlt g1; go_upto_region 8 with fail; have z3:=K.size; have H:=uT wr 134 wr.heap.size rfl; replace K:=K.make 64 xL 134 wr.heap.size rfl H.there; generalize wr.alloc (.cells xL 134)=w5 at K H ⊢; generalize wr.heap.size=O at *; have H0:HO k c n O 0 (fun _=>0) w5:=⟨H,fun j hj=>by omega⟩
  clear H; go_wp2; go_loopw [21] (fun i w'=>∃ (i':Nat) (g:Nat→Int),i'≤16∧i=.int .i64 i'∧Kr w (O+1) [(S,.u32,16,drN (hst k c n) 10),(B,.u32,16,hst k c n)] [(O,64),(w.heap.size+1+1,64)] w'∧HO k c n O i' g w') (fun i _=>16-(intOf i).toNat)
  case atStart=>exact ⟨0,_,by omega,rfl,K,H0⟩
  case round =>
   clear K H0; obtain ⟨i,g,hi,rfl,K,H,hd⟩:=hrel; have g1:(0:Int)≤(i:Int):=by omega
   by_cases hlt:i<16
   · have g2:(i:Int)<16:=by omega
     have HD:=show Hid _ from fun j hj=>q0s hd j hj; clear hd; go_upto_region 11 with fail; refine wD (S:=fun w'=>Kr w (O+1) [(S,.u32,16,drN (hst k c n) 10),(B,.u32,16,hst k c n)] [(O,64),(w.heap.size+1+1,64)] w') JU K.drew ?_; clear K; intro K; replace H:=H.drew; refine xmH 0 24 K ?_
     refine xqH 1 25 rfl (.int .i64 (4*(i:Int))) (fun w=>aM .i64 4 (i:Int) _ _ _ _ _ rfl rfl rfl Yj w) K ?_; refine xqH 2 26 rfl (.slice (some ⟨O,4*i,none⟩) (64-4*i) (64-4*i)) (fun w=>mY _ _ _ _ _ _ rfl rfl rfl (q9a O i hlt w)) K ?_; refine xmH 3 27 K ?_; refine xqH 4 28 rfl _ (fun w=>fH S i hlt w _ _ rfl rfl rfl) K ?_; refine ycH 5 29 (.int .u32 (drN (hst k c n) 10 i)) S i Tryz.underlying118 K (fun _ h=>(h.get _ _ _ _ mS).cell i hlt) ?_; refine xmH 6 30 K ?_; refine xqH 7 31 rfl _ (fun w=>fH B i hlt w _ _ rfl rfl rfl) K ?_; refine ycH 8 32 (.int .u32 (hst k c n i)) B i Tryz.underlying118 K (fun _ h=>(h.get _ _ _ _ (mT _ mS)).cell i hlt) ?_; refine xqH 9 33 rfl (.int .u32 (hwd k c n i)) Up K ?_; refine yaH 10 34 (wY O (4*i) 64 (64-4*i) (64-4*i) JK g (hwd k c n i) JK _ H) ?_; rintro e w' ⟨rfl,rfl⟩; replace K:=K.poke O 64 mS (4*i) (row .u8 4 (b32 (hwd k c n i))); replace H:=H.part (4*i) 4 JK (b32 (hwd k c n i)); refine ⟨_,rfl,K,nH ?_⟩; refine wE JU ?_ _; have HS:=show Hid _ from (And.intro K (show HO k c n O (i+1) _ _ from ⟨H,HD.out⟩)); clear K H HD; generalize (wr.drew.setCells O (4*i) (row .u8 4 (b32 (hwd k c n i))))=w6 at *; go_wp2
     exact Zs
   obtain rfl:i=16:=by omega
   have h1:=H.congr (g:=yK k c n) (fun j hj=>hd j JK); have hz:=(K.room _ (mT _ mS)).1; have hB:=(K.fill _ _ (mT _ mS) (row .u8 64 (yK k c n))).below; clear K H hd hlt hi g1; generalize hf:yK k c n=f at *; go_wp2_with (first | (refine yl (h1) Tryz.underlying134 (pG _) ?_) | (refine ys .u8 64 f (jM hz) (gN _) ?_)); exact bRq (v:=(.agg (row .u8 64 (f)).toArray)) (jQ Tryz.results131 rfl (Has.all hz .u8 _).range Tryz.underlying134 rfl (pG _)) rfl ⟨by first | rfl | rw [hf],hB⟩
theorem q4h (n:Nat) (hn:n≤281474976710656) (w:World):(Instr.makeSlice 32 (.int .i64 (n:Int)) (.int .i64 (n:Int))).run Tryz.prog w=.ok (.slice (some ⟨w.heap.size,0,none⟩) n n) (w.alloc (.cells (row .u8 n (fun _=>0)).toArray 5)):=by
 have h0:(Tryz.prog.info? 5).map (fun i=>(i.zero,i.bytes,i.size))=some (some (.int .u8 0),1,1):=by kernel_rfl
 obtain ⟨i,hi,he⟩:=Option.map_eq_some_iff.1 h0
 simp only [Prod.mk.injEq] at he
 obtain ⟨h1,h2,h3⟩:=he
 rw [run_make w 32 5 i _ Tryz.underlying32 hi h1 .i64 .i64 n n JK JK (by rw [h2]; omega) JK,h3]
 simp only [Int.toNat_natCast,Nat.mul_one]
 have e:madeCells (Value.int .u8 0).cells n=(row .u8 n (fun _=>0)).toArray:=by
  refine Array.toList_inj.1 ?_; unfold madeCells row; simp [Value.cells,Nat.mod_one]
 rw [e]
theorem j6i {P:Program} {o:Oper} {a:Act} {w w':World} (t:TypeId) (x y:Operand) (p q v:Value) (ho:o.op=.makeSlice t x y) (hx:a.eval x=p) (hy:a.eval y=q) (hr:(Instr.makeSlice t p q).run P w=.ok v w') :
 (execOp a.eval o).run P w=.ok (.value v) w':=by
 unfold execOp
 simp only [ho,hx,hy,Sem.run_bind,hr,xO,Sem.run_pure]
theorem vG:One Tryz.prog 5 .u8 1:=⟨by kernel_rfl⟩
theorem q4x (b len cap i:Nat) (hi:i<len) (w:World) {o:Oper} {a:Act} (x y:Operand) (ho:o.op=.indexAddr 32 x y) (hx:a.eval x=.slice (some ⟨b,0,none⟩) len cap) (hy:a.eval y=.int .i64 (i:Int)) :
 (execOp a.eval o).run Tryz.prog w=.ok (.value (.pointer (some ⟨b,i,none⟩))) w:=by
 have h:=mX (P:=Tryz.prog) 32 5 len cap .i64 ⟨b,0,none⟩ i x y Tryz.underlying32 JW hi ho hx hy w
 exact Xh
theorem x0q (b i:Nat) (hi:i<64) (w:World) {o:Oper} {a:Act} (x y:Operand) (ho:o.op=.indexAddr 134 x y) (hx:a.eval x=.pointer (some ⟨b,0,none⟩)) (hy:a.eval y=.int .i64 (i:Int)) :
 (execOp a.eval o).run Tryz.prog w=.ok (.value (.pointer (some ⟨b,i,none⟩))) w:=by
 exact Xv
def HX (k:Nat→Int) (c:Int) (n:Nat→Int) (z:Nat→Int) (O len m:Nat) (g:Nat→Int) (w':World):Prop:=Has w' O .u8 len g∧∀ j,j<m→g j=xB k c n z j
theorem j4j (k:Nat→Int) (c:Int) (n:Nat→Int) (hk:In 256 32 k) (hn:In 256 12 n) (hc:0≤c∧c<V) (sp:Option Addr) (len cap:Nat) (hlen:len≤140737488355328) (z:Nat→Int) (w:World) (hg:HGlob w) (hs:Src w sp len z) :
 Calls Tryz.prog 109 #[(.agg (row .u8 32 (k)).toArray),.int .u32 c,(.agg (row .u8 12 (n)).toArray),.slice sp len cap] w fun e w'=>∃ B,e=.returned (.slice (some ⟨B,0,none⟩) len len)∧(w.heap.size≤B∧B<w'.heap.size∧Has w' B .u8 len (xB k c n z))∧Below w.heap.size w w':=by
 have K:=Kr.init w; replace K:=K.box .u8 32 k 23 w.heap.size rfl; replace K:=K.box .u8 12 n 96 (w.heap.size+1) Jf
 go_enter Tryz.func109,Tryz.ntmps109
 go_upto_region 1 with fail; generalize ((w.alloc (.cells (row .u8 32 k).toArray 23)).alloc (.cells (row .u8 12 n).toArray 96))=w0 at K ⊢; refine wR (xmL ?_); refine xqL _ Jk ?_
 refine xaL (.slice (some ⟨w0.heap.size,0,none⟩) len len) (j6i _ _ _ _ _ _ rfl rfl rfl (q4h len JK w0)) ?_; refine xmL ?_; have z0:=K.size; have H:=Has.new w0 .u8 len (fun _=>0) 5 w0.heap.size rfl; replace K:=K.make len _ 5 w0.heap.size rfl H.there
 have HI:=show HX k c n z w0.heap.size len 0 (fun _=>0) _ from ⟨H,fun j hj=>by omega⟩; clear H; generalize (w0.alloc (.cells (row .u8 len (fun _=>0)).toArray 5))=w1 at K HI ⊢; generalize w0.heap.size=O at *; show Exit.then _ _ _ _ _; go_wp2
 go_loopw [1,10] (fun cv i w'=>∃ (t:Nat) (g:Nat→Int),64*t<len+64∧i=.int .i64 (64*(t:Int))∧cv=.int .u32 ((c+(t:Int))%4294967296)∧Kr w (O+1) [(w.heap.size+1,.u8,12,n),(w.heap.size,.u8,32,k)] [(O,len)] w'∧HX k c n z O len (min (64*t) len) g w') (fun _ i _=>len+64-(intOf i).toNat)
 case atStart=>exact ⟨0,_,by omega,rfl,by rw [show (c+((0:Nat):Int))%4294967296=c by simp only [V] at hc; omega],K,by rw [show min (64*0) len=0 by omega]; exact HI⟩
 case round =>
  clear K HI; obtain ⟨t,g,ht,rfl,rfl,K,H,hd⟩:=hrel; obtain ⟨C,hC⟩:∃ C,(c+(t:Int))%4294967296=C:=⟨_,rfl⟩
  rw [hC]; have g1:(0:Int)≤64*(t:Int):=by omega
  by_cases hlt:64*t<len
  · have g2:64*(t:Int)<(len:Int):=by omega
    have HCn:=show Hid _ from hC; clear hC; go_upto_region 5 with fail; refine wR ?_; refine tJ .u8 32 k w.heap.size 0 23 _ _ rfl rfl rfl Tryz.underlying23 rfl (jJ _) (K.get _ _ _ _ (mT _ mS)).range (nL ?_); refine xmL ?_
    refine tJ .u8 12 n (w.heap.size+1) 0 96 _ _ rfl rfl rfl Tryz.underlying96 rfl (zL _) (K.get _ _ _ _ mS).range (nL ?_); refine xcL (eU k C n hk hn _ (hg.below K.below hg.size)) ?_; rintro e w2 ⟨rfl,l⟩; have hO:=(K.room (O,len) mS).2.1; have hsz:=K.size; replace H:=H.below l JK; replace K:=K.call l; clear l; refine xeL ?_; refine qH xL 134 rfl JW (nL ?_); refine ysL .u8 64 (yK k C n) w2.heap.size (jM (uT _ _ _ rfl).there) (gN _) ?_; have z2:=K.size; replace H:=(H.alloc (.cells xL 134) JK).setAll_other w2.heap.size JK 0 (row .u8 64 (yK k C n)); replace K:=K.fresh .u8 64 (yK k C n) xL 134 (uT _ _ _ rfl).there; generalize ((w2.alloc (.cells xL 134)).setCells w2.heap.size 0 (row .u8 64 (yK k C n)))=w3 at K H ⊢; generalize w2.heap.size=D at *; clear w2 hsz; have HX0:=show HX k c n z O len (64*t) g w3 from ⟨H,fun j hj=>hd j JK⟩; clear H hd; show Exit.then _ _ _ _ _; go_wp2
    go_loopw [12] (fun i w'=>∃ (i':Nat) (g:Nat→Int),64*t≤i'∧i'≤min (64*t+64) len∧i=.int .i64 (i':Int)∧Kr w (D+1) [(D,.u8,64,yK k C n),(w.heap.size+1,.u8,12,n),(w.heap.size,.u8,32,k)] [(O,len)] w'∧HX k c n z O len i' g w') (fun i _=>len+64-(intOf i).toNat)
    case atStart=>exact ⟨64*t,g,by omega,by omega,by go_num,K,HX0⟩
    case round =>
     clear K HX0; obtain ⟨i,g,hi0,hi1,rfl,K,H,hd⟩:=hrel; have g3:(0:Int)≤(i:Int):=by omega
     obtain ⟨M,hM⟩:∃ M:Nat,M=min (64*t+64) len:=⟨_,rfl⟩
     have hm:(if (len:Int)<64*(t:Int)+64 then (len:Int) else 64*(t:Int)+64)=(M:Int):=by rw [hM]; split <;> omega
     go_upto_region 7 with fail; refine wR (xm2 ?_); refine xqL (.int .i64 (64*(t:Int)+64)) (fun w=>vM .i64 (64*(t:Int)) 64 _ _ _ _ _ rfl rfl rfl Yj w) ?_; refine xmL ?_; refine xqL _ Jk ?_; refine xqL (.int .i64 (M:Int)) Vr ?_; refine xqL (.bool (decide ((i:Int)<(M:Int)))) (fun w=>gP .i64 _ _ _ _ _ _ rfl rfl rfl _ rfl w) ?_; show Exit.then _ _ _ _ _
     by_cases hlt2:i<M
     · have e2:decide ((i:Int)<(M:Int))=true:=by simp; omega
       rw [e2]; have hil:i<len:=by omega
       have hit:i-64*t<64:=by omega
       obtain ⟨ad,rfl,ca⟩:=hs i hil; go_upto_region 9 with fail; have hv:bits .xor .u8 (z i) (yK k C n (i-64*t))=xB k c n z i:=by
        unfold xB; rw [show i/64=t by omega,show i%64=i-64*t by omega,HCn.out]
       have H2:=show Hid _ from hd; clear hd; refine wD (S:=fun w'=>Kr w (D+1) [(D,.u8,64,yK k C n),(w.heap.size+1,.u8,12,n),(w.heap.size,.u8,32,k)] [(O,len)] w') JU K.drew ?_; clear K; intro K; replace H:=H.drew; refine xmH 0 36 K ?_; refine xmH 1 37 K ?_
       refine xmH 2 38 K ?_; refine xmH 3 39 K ?_; refine xqH 4 40 rfl (.pointer (some (ad.add i))) WV K ?_; refine dA (i:=5) (some 41) rfl .u8 (.int .u8 (z i)) (ad.add i) 5 _ rfl rfl rfl rfl JU JU JU (fun _ _ _ h=>h) Tryz.underlying5 K WK (nH ?_); refine xmH 6 42 K ?_; refine xmH 7 43 K ?_; refine xqH 8 44 rfl (.int .i64 ((i-64*t:Nat):Int)) Wk K ?_; refine xqH 9 45 rfl (.pointer (some ⟨D,i-64*t,none⟩)) (fun w=>x0q D (i-64*t) hit w _ _ rfl rfl rfl) K ?_; refine ycH 10 46 (.int .u8 (yK k C n (i-64*t))) D (i-64*t) Tryz.underlying5 K (fun _ h=>(h.get _ _ _ _ mS).cell (i-64*t) hit) ?_; refine xqH 11 47 rfl _ (fun w=>j2i .u8 _ _ _ _ _ _ _ rfl rfl rfl hv w) K ?_; refine xqH 12 48 rfl (.pointer (some ⟨O,i,none⟩)) (fun w=>q4x O len len i hil w _ _ rfl rfl rfl) K ?_; refine gM (i:=13) none rfl .u8 (xB k c n z i) O i 5 _ _ JU rfl rfl rfl rfl rfl (by rw [H.cell i hil]; rfl) (H.free i hil) JU (K.poke O len mS i [.int .u8 (xB k c n z i)]) ?_; replace K:=K.poke O len mS i [.int .u8 (xB k c n z i)]; replace H:=H.set i hil (xB k c n z i); simp only [Act.put]; refine wE JU ?_ _; have HS:=show Hid _ from (And.intro K (show HX k c n z O len (i+1) _ _ from ⟨H,fun j hj=>by
        by_cases e:j=i
        · exact Zz
        rw [jR _ _ _ _ e]; exact H2.out j JK⟩))
       clear K H H2 hv ca hs e2; go_wp2; go_roundw
       case rel=>first | exact ⟨i+1,_,by omega,by omega,by go_num,HS.out⟩ | ((repeat apply Exists.intro); refine ⟨⟨i+1,_,by omega,by omega,?_,HS.out⟩,rfl⟩ <;> first | rfl | go_num)
       case measure=>simp [intOf]; omega
     have e2:decide ((i:Int)<(M:Int))=false:=by simp; omega
     rw [e2]; obtain rfl:i=M:=by omega
     have K0:=K.back [(w.heap.size+1,.u8,12,n),(w.heap.size,.u8,32,k)] (O+1) KX (fun p hp=>by
      rcases xc1 hp with rfl | hp
      · simp only; omega
      obtain rfl:=xm1 hp; simp only; omega) YW JK JK
     have HS:=show Hid _ from (And.intro K0 (show HX k c n z O len (min (64*(t+1)) len) g wr from ⟨H,fun j hj=>hd j JK⟩)); have HC2:=show Hid _ from (show (C+1)%4294967296=(c+((t+1:Nat):Int))%4294967296 by rw [← HCn.out]; omega); clear K K0 H hd HCn hs hlt2 hM hm; go_wp2
     go_roundw
     case rel=>first | exact ⟨t+1,g,by omega,by go_num,by rw [HC2.out],HS.out⟩ | ((repeat apply Exists.intro); refine ⟨⟨t+1,g,by omega,?_,?_,HS.out⟩,rfl⟩ <;> first | rfl | go_num | rw [HC2.out])
     case measure=>simp [intOf]; omega
  obtain ⟨e1,hall⟩:min (64*t) len=len∧len≤64*t:=by omega
  rw [e1] at hd; have HS:=show Hid _ from (H.congr (g:=xB k c n z) (fun j hj=>hd j hj)); have hlo:=(K.room (O,len) mS).2; have hsz:=K.size; have hbl:=K.below
  have g2:¬ 64*(t:Int)<(len:Int):=by omega
  clear K H hd hlt hC; go_wp2; go_ret; exact ⟨O,rfl,⟨hlo.2,by omega,HS.out⟩,hbl⟩
theorem mJ {P:Program} (w:World) (d:Nat) (t e:TypeId) (n:Nat) (k:IntKind) (ht:P.underlying t=some (.array n e)) (he:P.underlying e=some (.int k)) (hsz:∀ w,(sizeOf e).run P w=.ok 1 w) (f:Nat→Int) :
 (Op.equalIn (d+2) t (.agg (row k n f).toArray) (.agg (row k n f).toArray)).run P w=.ok true w:=by
 rw [Op.equalIn]
 simp only [Sem.run_bind,run_underlying ht,xO,hsz,Std.Legacy.Range.forIn_eq_forIn_range',Std.Legacy.Range.size,Nat.sub_zero,Nat.add_sub_cancel,Nat.div_one]
 have hl:∀ i∈List.range' 0 n 1,i<n:=fun i hi=>by simpa using (List.mem_range'_1.1 hi).2
 generalize List.range' 0 n 1=l at hl ⊢
 induction l with
 | nil=>simp
 | cons i l ih =>
   have hi:i<n:=hl i Jf; have px:(part e (row k n f).toArray (i*1)).run P w=.ok (.int k (f i)) w:=by
    simp [part,isAgg,run_underlying he,xG k n f i hi]
   have pe:(Op.equalIn (d+1) e (.int k (f i)) (.int k (f i))).run P w=.ok true w:=by
    rw [run_equalIn_int w d e k k _ _ he,beq_self_eq_true]
   simp only [List.forIn_cons,Sem.run_bind,px,pe,xO,Bool.not_true,Bool.false_eq_true,if_false,Sem.run_pure]; exact ih fun j hj=>hl j (by simp [hj])
theorem x6s {P:Program} {o:Oper} {a:Act} (p q:Bool) (t t':TypeId) (x y:Operand) (ho:o.op=.binOp .eql t x y t') (hx:a.eval x=.bool p) (hy:a.eval y=.bool q) (ht:P.underlying t=some .bool) (r:Bool) (hr:(p == q)=r) (w:World) :
 (execOp a.eval o).run P w=.ok (.value (.bool r)) w:=by
 unfold execOp
 simp only [ho,hx,hy,Sem.run_bind,eqGuard_at_bool,run_eql_bool w t p q ht,Sem.run_pure,xO,hr]
section
theorem Src.none {w:World} {sp:Option Addr} {len:Nat} {z:Nat→Int} (h:Src w sp len z):sp=none→len=0:=fun e=>by
 rcases Nat.eq_zero_or_pos len with h0 | h0
 · exact h0
 · obtain ⟨ad,he,_⟩:=h 0 h0
   rw [e] at he
   cases he
section
variable {P:Program} {o:Oper} {a:Act}
theorem x6m (k:IntKind) (n r:Int) (t:TypeId) (x:Operand) (ho:o.op=.unOp .neg t x) (hx:a.eval x=.int k n) (hr:k.wrap (0-n)=r) (w:World):(execOp a.eval o).run P w=.ok (.value (.int k r)) w:=by
 unfold execOp
 simp only [ho,hx,Op.unary,Op.intArith,Sem.run_bind,Sem.run_pure,xO,hr]
theorem q5u {t:TypeId} (ht:P.underlying t=some (.slice (P.elem t))) (hsz:∀ w,(sizeOf (P.elem t)).run P w=.ok 1 w) (sp:Option Addr) (len cap m:Nat) (hm:m≤len) (hc:len≤cap) :
 ∃ sp',(∀ w,(Instr.sliceAt t (.slice sp len cap) none (some (.int .i64 (m:Int))) none).run P w=.ok (.slice sp' m cap) w)∧∀ w z,Src w sp len z→Src w sp' m z:=by
 refine ⟨if cap=0 then sp else sp.map (·.add (0*1)),fun w=>?_,fun w z h j hj=>?_⟩
 · exact XY
 obtain ⟨ad,rfl,hc'⟩:=h j JK
 exact Zx
theorem j2e {t:TypeId} (ht:P.underlying t=some (.slice (P.elem t))) (hsz:∀ w,(sizeOf (P.elem t)).run P w=.ok 1 w) (sp:Option Addr) (len cap m:Nat) (hm:m≤len) (hc:len≤cap) :
 ∃ sp',(∀ w,(Instr.sliceAt t (.slice sp len cap) (some (.int .i64 (m:Int))) none none).run P w=.ok (.slice sp' (len-m) (cap-m)) w)∧∀ w z,Src w sp len z→Src w sp' (len-m) (fun j=>z (m+j)):=by
 refine ⟨if cap=m then sp else sp.map (·.add (m*1)),fun w=>?_,fun w z h j hj=>?_⟩
 · exact XU
 obtain ⟨ad,rfl,hc'⟩:=h (m+j) JK
 rw [if_neg JK]
 exact ⟨ad.add (m*1),rfl,by rw [Nat.mul_one,Addr.add_add]; exact hc'⟩
theorem j7g {t:TypeId} (ht:P.underlying t=some (.slice (P.elem t))) (hsz:∀ w,(sizeOf (P.elem t)).run P w=.ok 1 w) (sp:Option Addr) (len cap l h:Nat) (hl:l≤h) (hh:h≤len) (hc:len≤cap) :
 ∃ sp',(∀ w,(Instr.sliceAt t (.slice sp len cap) (some (.int .i64 (l:Int))) (some (.int .i64 (h:Int))) none).run P w=.ok (.slice sp' (h-l) (cap-l)) w)∧∀ w z,Src w sp len z→Src w sp' (h-l) (fun j=>z (l+j)):=by
 refine ⟨if cap=l then sp else sp.map (·.add (l*1)),fun w=>?_,fun w z hs j hj=>?_⟩
 · exact XX
 obtain ⟨ad,rfl,hc'⟩:=hs (l+j) JK
 rw [if_neg JK]
 exact ⟨ad.add (l*1),rfl,by rw [Nat.mul_one,Addr.add_add]; exact hc'⟩
theorem pN {w:World} (t:TypeId) (x y z:Operand) (p q r v:Value) (ho:o.op=.slice t x (some y) (some z) none) (hx:a.eval x=p) (hy:a.eval y=q) (hz:a.eval z=r) (hr:(Instr.sliceAt t p (some q) (some r) none).run P w=.ok v w) :
 (execOp a.eval o).run P w=.ok (.value v) w:=by
 unfold execOp
 simp only [ho,hx,hy,hz,Option.map_some,Option.map_none,Sem.run_bind,hr,xO,Sem.run_pure]
end
end
structure Str (w:World) (b:Nat) (k:Nat→Int) (c:Int) (n:Nat→Int):Prop where
 key:w.rangeAt b 0 (row .u8 32 k)
 ctr:w.cell? ⟨b,32,none⟩=some (.int .u32 c)
 non:w.rangeAt b 33 (row .u8 12 n)
 lt:b<w.heap.size
structure HL (w:World) (b:Nat) (k:Nat→Int) (c:Int) (n:Nat→Int) (L:List (Option Addr × Nat × (Nat→Int))) (w':World):Prop where
 st:Str w' b k c n
 src:∀ p∈L,Src w' p.1 p.2.1 p.2.2
 below:Below w.heap.size w w'
theorem j9r (x y:Int) (hx:0≤x∧x<256) (hy:0≤y∧y<256):bits .xor .u8 (bits .xor .u8 x y) y=x:=by
 obtain ⟨x,rfl⟩:=xiN hx.1
 obtain ⟨y,rfl⟩:=xiN hy.1
 rw [u8_xor_nat x y JK JK,u8_xor_nat _ y (Nat.xor_lt_two_pow (n:=8) JK JK) JK,Nat.xor_assoc,Nat.xor_self,Nat.xor_zero]
theorem j7c (k:Nat→Int) (c:Int) (n z:Nat→Int) (m:Nat) (hz:In 256 m z) (j:Nat) (hj:j<m):xB k c n (xB k c n z) j=z j :=
 j9r _ _ (hz j hj) (lB _ _ _ 64 _ (Nat.mod_lt _ JG))
theorem j9p (k n:Nat→Int) (bl:Nat) (b:Nat→Int) (len:Nat) (z:Nat→Int) (j:Nat) (hj:j<len):fV k n bl b len z j=xB k 1 n z j:=by
 unfold fV app
 rw [if_pos hj]
theorem q9p (k n:Nat→Int) (bl:Nat) (b:Nat→Int) (len:Nat) (z:Nat→Int) (j:Nat):fV k n bl b len z (len+j)=zU k n bl b len (xB k 1 n z) j:=by
 unfold fV app
 rw [if_neg JK,show len+j-len=j by omega]
theorem j5b (k n:Nat→Int) (bl:Nat) (b:Nat→Int) (len:Nat) (z:Nat→Int):aok k n bl b (len+16) (fV k n bl b len z):=by
 refine ⟨by omega,?_⟩
 rw [show len+16-16=len by omega,nU k n bl b b len _ (xB k 1 n z) (fun _ _=>rfl) (fun j hj=>j9p k n bl b len z j hj),← sM]
 exact qZ 256 16 fun j _=>(q9p k n bl b len z j).symm
theorem j7s (k n:Nat→Int) (bl:Nat) (b:Nat→Int) (len:Nat) (z:Nat→Int) (hz:In 256 len z) (j:Nat) (hj:j<len):xB k 1 n (fV k n bl b len z) j=z j:=by
 have e:=j7c k 1 n z len hz j hj
 unfold xB at e ⊢
 rw [j9p k n bl b len z j hj]
 exact e
theorem Below.grown {B:Nat} {w w1 w2:World} (l:Below B w w1) {r:Option Nat} (g:w1.grownBy w2 r) (hB:B≤w1.heap.size) (hr:∀ b,r=some b→B≤b):Below B w w2 :=
 ⟨g.os.trans l.os,g.tape.trans l.tape,g.output.trans l.output,xnT l.size g.size,fun j hj=>(g.block j (xnL hj hB) KJ).trans (l.block j hj)⟩
theorem Has.grown {w w':World} {b:Nat} {k:IntKind} {n:Nat} {f:Nat→Int} (h:Has w b k n f) {r:Option Nat} (g:w.grownBy w' r) (hb:b<w.heap.size) (hne:some b≠r):Has w' b k n f :=
 ⟨fun j hj=>by rw [World.cell?_of_block (a:=⟨b,j,none⟩) (g.block b hb hne)]; exact h.cell j hj,fun j hj=>by rw [World.frozen?_of_block (a:=⟨b,j,none⟩) (g.block b hb hne)]; exact h.free j hj⟩
theorem Own.more8 {w':World} {base m:Nat} {f:Nat→Int} {s:Value} (h:Own w' base 5 .u8 m f s) (hm:m<140737488355328) (x:Int) (hx:f m=x) (ty:TypeId) (hb:base≤w'.heap.size) :
 ∃ v w'',(Builtin.append_ #[32,32] ty #[s,.slice (some ⟨w'.heap.size,0,none⟩) 1 1]).run Tryz.prog (w'.alloc (.cells #[.int .u8 x] 5))=.ok v w''∧Own w'' base 5 .u8 (m+1) f v∧(w'.alloc (.cells #[.int .u8 x] 5)).grownBy w'' s.ownBlock:=by
 have H1:=Has.new w' .u8 1 (fun _=>x) 5 w'.heap.size rfl
 obtain ⟨v,w'',hr,ho,hg,_⟩:=jH (P:=Tryz.prog) (ty:=ty) Tryz.underlying32 vG (h.alloc (.cells (row .u8 1 (fun _=>x)).toArray 5)) (some ⟨w'.heap.size,0,none⟩) 1 1 (fun _=>x) (fun j hj=>⟨_,rfl,by rw [Addr.add_mid,nZ]; exact H1.cell j hj⟩) Jq Jj JK Ji
 refine ⟨v,w'',hr,ho.congr fun j hj=>?_,hg⟩
 unfold app
 by_cases e:j<m
 · rw [if_pos e]
 rw [if_neg e,← hx,show j=m by omega]
def j5n:Value→Nat
 | .slice _ n _=>n
 | _=>0
theorem Own.nilCap {w:World} {base:Nat} {e:TypeId} {k:IntKind} {n:Nat} {f:Nat→Int} {sp:Option Addr} {c:Nat} (h:Own w base e k n f (.slice sp n c)):sp=none→c=0:=fun e=>by
 rcases h.2 with ⟨hv,_⟩ | ⟨g,cap,cur,hv,_⟩
 · injection hv
 · injection hv with hv _ _
   rw [e] at hv
   cases hv
theorem Own.lower {w:World} {base base':Nat} {e:TypeId} {k:IntKind} {n:Nat} {f:Nat→Int} {v:Value} (h:Own w base e k n f v) (hb:base'≤base):Own w base' e k n f v:=by
 refine ⟨h.1,?_⟩
 rcases h.2 with h2 | ⟨g,cap,cur,h1,h2,h3⟩
 · exact .inl h2
 exact .inr ⟨g,cap,cur,h1,xnT hb h2,h3⟩
theorem Own.le {w:World} {base:Nat} {e:TypeId} {k:IntKind} {n:Nat} {f:Nat→Int} {sp:Option Addr} {c:Nat} (h:Own w base e k n f (.slice sp n c)):n≤c:=by
 rcases h.2 with ⟨hv,h0⟩ | ⟨g,cap,cur,hv,_,_,hc,_⟩
 · omega
 injection hv with _ _ hc2
 omega
def mA (a b x:Int):Int:=had (had a b) x
def mD (p:Nat) (d a:Int):Int:=hrl p (hxr d a)
def bA1 (a b x:Int):Int:=mA a b x
def bD1 (a b d x:Int):Int:=mD 16 d (bA1 a b x)
def bC1 (a b c d x:Int):Int:=had c (bD1 a b d x)
def bB1 (a b c d x:Int):Int:=mD 20 b (bC1 a b c d x)
def bA (a b c d x y:Int):Int:=mA (bA1 a b x) (bB1 a b c d x) y
def bD (a b c d x y:Int):Int:=mD 24 (bD1 a b d x) (bA a b c d x y)
def bC (a b c d x y:Int):Int:=had (bC1 a b c d x) (bD a b c d x y)
def bB (a b c d x y:Int):Int:=mD 25 (bB1 a b c d x) (bC a b c d x y)
theorem j8q (p:Nat) (d a:Int) (hd:0≤d∧d<V) (ha:0≤a∧a<V):0≤mD p d a∧mD p d a<V:=tC _ _ (yN _ _ hd ha)
theorem x1c (a b c d x y:Int):0≤bA a b c d x y∧bA a b c d x y<V:=vQ _ _
theorem x4a (a b d x:Int) (hd:0≤d∧d<V):0≤bD1 a b d x∧bD1 a b d x<V:=j8q _ _ _ hd (vQ _ _)
theorem x4b (a b c d x:Int) (hb:0≤b∧b<V):0≤bB1 a b c d x∧bB1 a b c d x<V:=j8q _ _ _ hb (vQ _ _)
theorem x0z (a b c d x y:Int) (hd:0≤d∧d<V):0≤bD a b c d x y∧bD a b c d x y<V:=j8q _ _ _ (x4a a b d x hd) (vQ _ _)
theorem x1a (a b c d x y:Int):0≤bC a b c d x y∧bC a b c d x y<V:=vQ _ _
theorem x1b (a b c d x y:Int) (hb:0≤b∧b<V):0≤bB a b c d x y∧bB a b c d x y<V:=j8q _ _ _ (x4b a b c d x hb) (vQ _ _)
def bMx (v:Nat→Int) (a b c d:Nat) (x y:Int):Nat→Int :=
 upd (upd (upd (upd v a (bA (v a) (v b) (v c) (v d) x y)) b (bB (v a) (v b) (v c) (v d) x y)) c (bC (v a) (v b) (v c) (v d) x y)) d (bD (v a) (v b) (v c) (v d) x y)
theorem x3z (v:Nat→Int) (a b c d:Nat) (x y:Int) (hb:b<16) (hd:d<16) (h:In V 16 v):In V 16 (bMx v a b c d x y) :=
 (((h.upd _ _ (x1c _ _ _ _ _ _).1 (x1c _ _ _ _ _ _).2).upd _ _ (x1b _ _ _ _ _ _ (h b hb)).1 (x1b _ _ _ _ _ _ (h b hb)).2).upd _ _ (x1a _ _ _ _ _ _).1 (x1a _ _ _ _ _ _).2).upd _ _ (x0z _ _ _ _ _ _ (h d hd)).1 (x0z _ _ _ _ _ _ (h d hd)).2
def sgL:List Nat:=[0,1,2,3,4,5,6,7,8,9,10,11,12,13,14,15,14,10,4,8,9,15,13,6,1,12,0,2,11,7,5,3,11,8,12,0,5,2,15,13,10,14,3,6,7,1,9,4,7,9,3,1,13,12,11,14,2,6,5,10,4,0,15,8,9,0,5,7,2,4,10,15,14,1,11,12,6,8,3,13,2,12,6,10,0,11,8,3,4,13,7,5,15,14,1,9,12,5,1,15,14,13,4,10,0,7,6,3,9,2,8,11,13,11,7,14,12,1,3,9,5,0,15,4,8,6,2,10,6,15,14,9,11,3,0,8,12,2,13,7,1,4,10,5,10,2,8,4,7,6,1,5,15,11,9,14,3,12,13,0]
def sg (r i:Nat):Nat:=sgL.getD (16*r+i) 0
theorem kC (r i:Nat):sg r i<16:=by
 unfold sg
 rw [List.getD_eq_getElem?_getD]
 cases e:sgL[16*r+i]? with
 | none=>simp
 | some x =>
   have h:∀ x∈sgL,x<16:=by decide +kernel
   simpa using h x (List.mem_of_getElem? e)
def bAt (m:Nat→Int) (s:Nat→Nat) (v:Nat→Int) (i:Nat):Nat→Int:=bMx v (pA i) (pB i) (pC i) (pD i) (m (s (2*i))) (m (s (2*i+1)))
def bN (m:Nat→Int) (s:Nat→Nat) (v:Nat→Int):Nat→Nat→Int
 | 0=>v
 | i+1=>bAt m s (bN m s v i) i
def bR (m:Nat→Int) (v:Nat→Int):Nat→Nat→Int
 | 0=>v
 | r+1=>bN m (sg r) (bR m v r) 8
theorem x4c (m:Nat→Int) (s:Nat→Nat) (v:Nat→Int) (i:Nat) (h:In V 16 v):In V 16 (bAt m s v i):=x3z _ _ _ _ _ _ _ (by have:=j8k i; omega) (by have:=j8j i; omega) h
theorem j0d (m:Nat→Int) (s:Nat→Nat) (v:Nat→Int) (h:In V 16 v):∀ i,In V 16 (bN m s v i)
 | 0=>h
 | i+1=>x4c _ _ _ _ (j0d m s v h i)
theorem aQ (m:Nat→Int) (v:Nat→Int) (h:In V 16 v):∀ r,In V 16 (bR m v r)
 | 0=>h
 | r+1=>j0d _ _ _ (aQ m v h r) 8
def iv:Nat→Int:=bl [1779033703,3144134277,1013904242,2773480762,1359893119,2600822924,528734635,1541459225]
theorem iv_in:In V 8 iv:=fun j hj=>by
 match j,hj with
 | 0,_ | 1,_ | 2,_ | 3,_ | 4,_ | 5,_ | 6,_ | 7,_=>decide
def bst (h:Nat→Int) (t:Int) (last:Bool):Nat→Int:=six (h 0) (h 1) (h 2) (h 3) (h 4) (h 5) (h 6) (h 7) (iv 0) (iv 1) (iv 2) (iv 3) (hxr (iv 4) (t%4294967296)) (hxr (iv 5) (t/4294967296%4294967296)) (if last then 4294967295-iv 6 else iv 6) (iv 7)
def bpw (z:Nat→Int):Nat→Int:=fun i=>w32 z (4*i)
def bpr (h:Nat→Int) (z:Nat→Int) (t:Int) (last:Bool):Nat→Int:=fun i=>hxr (hxr (h i) (bR (bpw z) (bst h t last) 10 i)) (bR (bpw z) (bst h t last) 10 (i+8))
theorem nQ (h:Nat→Int) (t:Int) (last:Bool) (hh:In V 8 h):In V 16 (bst h t last) :=
 x1u _ _ _ _ _ _ _ _ _ _ _ _ _ _ _ _ (hh 0 JK) (hh 1 JK) (hh 2 JK) (hh 3 JK) (hh 4 JK) (hh 5 JK) (hh 6 JK) (hh 7 JK) (iv_in 0 JK) (iv_in 1 JK) (iv_in 2 JK) (iv_in 3 JK)
  (yN _ _ (iv_in 4 JK) Un) (yN _ _ (iv_in 5 JK) Un) (by have h6:=iv_in 6 JK; simp only [V] at h6 ⊢; split <;> omega) (iv_in 7 JK)
theorem q6h (h z:Nat→Int) (t:Int) (last:Bool) (hh:In V 8 h):In V 8 (bpr h z t last):=fun j hj =>
 yN _ _ (yN _ _ (hh j hj) (aQ _ _ (nQ h t last hh) 10 j JK)) (aQ _ _ (nQ h t last hh) 10 (j+8) JK)
def btl (kl len:Nat):Nat:=(if kl=0 then 0 else 64)+len
def btx (kl:Nat) (key:Nat→Int) (len:Nat) (z:Nat→Int):Nat→Int:=fun j =>
 if kl=0 then (if j<len then z j else 0) else if j<64 then (if j<kl then key j else 0) else if j<64+len then z (j-64) else 0
def bnb (kl len:Nat):Nat:=if btl kl len=0 then 1 else (btl kl len+63)/64
theorem x3q (kl:Nat) (key:Nat→Int) (len:Nat) (z:Nat→Int) (hk:In 256 kl key) (hz:In 256 len z) (j:Nat):0≤btx kl key len z j∧btx kl key len z j<256:=by
 unfold btx
 split
 · split
   · exact hz _ KQ
   omega
 split
 · split
   · exact hk _ KQ
   omega
 split
 · exact hz _ JK
 omega
def bh0 (kl size:Nat):Nat→Int:=upd iv 0 (hxr (hxr (hxr (iv 0) 16842752) (256*(kl:Int))) (size:Int))
theorem q6n (kl size:Nat) (hk:kl≤32) (hs:size≤32):In V 8 (bh0 kl size):=by
 have h:=yN _ _ (yN _ _ (yN _ _ (iv_in 0 JK) (show 0≤(16842752:Int)∧(16842752:Int)<V by decide)) (show 0≤256*(kl:Int)∧256*(kl:Int)<V by simp only [V]; omega)) (show 0≤(size:Int)∧(size:Int)<V by simp only [V]; omega)
 exact iv_in.upd _ _ h.1 h.2
def bH (kl:Nat) (key:Nat→Int) (size len:Nat) (z:Nat→Int):Nat→Nat→Int
 | 0=>bh0 kl size
 | i+1=>bpr (bH kl key size len z i) (fun j=>btx kl key len z (64*i+j)) ((min (64*i+64) (btl kl len):Nat):Int) (decide (i+1=bnb kl len))
theorem x0y (kl:Nat) (key:Nat→Int) (size len:Nat) (z:Nat→Int) (hk:kl≤32) (hs:size≤32):∀ i,In V 8 (bH kl key size len z i)
 | 0=>q6n kl size hk hs
 | i+1=>q6h _ _ _ _ (x0y kl key size len z hk hs i)
def aN (kl:Nat) (key:Nat→Int) (size len:Nat) (z:Nat→Int):Nat→Int:=fun j=>b32 (bH kl key size len z (bnb kl len) (j/4)) (j%4)
theorem q9i (kl:Nat) (key:Nat→Int) (size len:Nat) (z:Nat→Int) (n:Nat):In 256 n (aN kl key size len z):=fun j _=>q6q _ _ (Nat.mod_lt _ JG)
def jB (len:Nat) (z:Nat→Int):Nat→Int:=aN 0 (fun _=>0) 32 len z
theorem sE (x y:Int) (hx:0≤x∧x<V) (hy:0≤y∧y<V):bits .or .u32 x y=bits .or .u32 y x:=by
 obtain ⟨x,rfl⟩:=xiN hx.1
 obtain ⟨y,rfl⟩:=xiN hy.1
 simp only [V] at hx hy
 rw [u32_or_nat x y JK JK,u32_or_nat y x JK JK,Nat.or_comm]
theorem lR (n:Nat) (hn:n=16∨n=12∨n=8∨n=7) (x:Int) (hx:0≤x∧x<V) (w:World) :
 Calls Tryz.prog 155 #[.int .u32 x,.int .i64 n] w fun e w'=>∃ q,e=.returned (.int .u32 (hrl (32-n) x))∧w'=w.drewN q:=by
 rcases hn with rfl | rfl | rfl | rfl
 · have e:hrl (32-16) x=bits .or .u32 (x/2^16) (x*2^16%4294967296):=sE _ _ Un KW; rw [e]; go_enter Tryz.func155,Tryz.ntmps155; exact Qr
 · have e:hrl (32-12) x=bits .or .u32 (x/2^12) (x*2^20%4294967296):=sE _ _ Un KW; rw [e]; go_enter Tryz.func155,Tryz.ntmps155; exact Qr
 · have e:hrl (32-8) x=bits .or .u32 (x/2^8) (x*2^24%4294967296):=sE _ _ Un KW; rw [e]; go_enter Tryz.func155,Tryz.ntmps155; exact Qr
 have e:hrl (32-7) x=bits .or .u32 (x/2^7) (x*2^25%4294967296):=sE _ _ Un KW
 rw [e]
 go_enter Tryz.func155,Tryz.ntmps155
 exact Qr
def mxA (f:Nat→Int) (a b:Nat) (x:Int):Nat→Int:=upd f a (had (had (f a) (f b)) x)
def mxD (p:Nat) (f:Nat→Int) (d a:Nat):Nat→Int:=upd f d (hrl p (hxr (f d) (f a)))
def mxC (f:Nat→Int) (c d:Nat):Nat→Int:=upd f c (had (f c) (f d))
theorem x2p (f:Nat→Int) (a b c d:Nat) (x y:Int) (hab:a≠b) (hac:a≠c) (had_:a≠d) (hbc:b≠c) (hbd:b≠d) (hcd:c≠d) :
 mxD 25 (mxC (mxD 24 (mxA (mxD 20 (mxC (mxD 16 (mxA f a b x) d a) c d) b c) a b y) d a) c d) b c=bMx f a b c d x y:=by
 have hba:=hab.symm; have hca:=hac.symm; have hda:=had_.symm; have hcb:=hbc.symm; have hdb:=hbd.symm; have hdc:=hcd.symm
 funext j
 unfold mxA mxC mxD bMx
 simp only [upd,hab,hac,had_,hbc,hbd,hcd,hba,hca,hda,hcb,hdb,hdc,if_false,if_true]
 by_cases ea:j=a
 · subst ea; simp only [hab,hac,had_,if_false,if_true]; rfl
 by_cases eb:j=b
 · subst eb; simp only [hbc,hbd,hba,if_false,if_true]; rfl
 by_cases ec:j=c
 · subst ec; simp only [hca,hcb,hcd,if_false,if_true]; rfl
 by_cases ed:j=d
 · subst ed; simp only [hda,hdb,hdc,if_false,if_true]; rfl
 simp only [ea,eb,ec,ed,if_false]
structure MI (w:World) (B:Nat) (f:Nat→Int) (w':World):Prop where
 has:Has w' B .u32 16 f
 lt:B<w.heap.size
 gr:w.grownBy w' (some B)
theorem MI.init {w:World} {B:Nat} {f:Nat→Int} (h:Has w B .u32 16 f) (hl:B<w.heap.size):MI w B f w:=⟨h,hl,⟨rfl,rfl,rfl,xnR _,fun _ _ _=>rfl⟩⟩
theorem MI.call {w w' w'':World} {B:Nat} {f:Nat→Int} (h:MI w B f w') (l:Below w'.heap.size w' w''):MI w B f w'' :=
 ⟨h.has.below l (xnL h.lt h.gr.size),h.lt,⟨l.os.trans h.gr.os,l.tape.trans h.gr.tape,l.output.trans h.gr.output,xnT h.gr.size l.size,fun j hj hne=>(l.block j (xnL hj h.gr.size)).trans (h.gr.block j hj hne)⟩⟩
theorem MI.drew {w w':World} {B:Nat} {f:Nat→Int} (h:MI w B f w'):MI w B f w'.drew:=h.call (Below.refl _ _).drew
theorem MI.drewN {w w':World} {B:Nat} {f:Nat→Int} (h:MI w B f w') (q:Nat):MI w B f (w'.drewN q):=h.call (zZ (Below.refl _ _))
theorem MI.set {w w':World} {B:Nat} {f:Nat→Int} (h:MI w B f w') (i:Nat) (hi:i<16) (x:Int):MI w B (upd f i x) (w'.setCell ⟨B,i,none⟩ (.int .u32 x)):=by
 have hb:Below B w' (w'.setCell ⟨B,i,none⟩ (.int .u32 x)):=jS (Below.refl B w') B (xnR _) i [.int .u32 x]
 exact ⟨h.has.set i hi x,h.lt,⟨hb.os.trans h.gr.os,hb.tape.trans h.gr.tape,hb.output.trans h.gr.output,xnT h.gr.size hb.size,fun j hj hne=>(heap_setCell_other w' ⟨B,i,none⟩ j _ (fun e=>hne (by rw [e]))).trans (h.gr.block j hj hne)⟩⟩
theorem q8w (b cap i:Nat) (hi:i<16) (w:World) {o:Oper} {a:Act} (x y:Operand) (ho:o.op=.indexAddr 131 x y) (hx:a.eval x=.slice (some ⟨b,0,none⟩) 16 cap) (hy:a.eval y=.int .i64 (i:Int)) :
 (execOp a.eval o).run Tryz.prog w=.ok (.value (.pointer (some ⟨b,i,none⟩))) w:=by
 have h:=mX (P:=Tryz.prog) 131 118 16 cap .i64 ⟨b,0,none⟩ i x y Tryz.underlying131 JW hi ho hx hy w
 exact Xh
theorem tF (B cap a b c d:Nat) (x y:Int) (f:Nat→Int) (hf:In V 16 f) (ha:a<16) (hb:b<16) (hc:c<16) (hd:d<16) (hab:a≠b) (hac:a≠c) (had_:a≠d) (hbc:b≠c) (hbd:b≠d) (hcd:c≠d) (w:World) (hB:Has w B .u32 16 f) (hl:B<w.heap.size) :
 Calls Tryz.prog 133 #[.slice (some ⟨B,0,none⟩) 16 cap,.int .i64 a,.int .i64 b,.int .i64 c,.int .i64 d,.int .u32 x,.int .u32 y] w fun e w'=>e=.returned (.tuple #[])∧MI w B (bMx f a b c d x y) w':=by
 have K:=MI.init hB hl
 go_enter Tryz.func133,Tryz.ntmps133
 have F0:=show Hid (In V 16 f) from hf; go_upto_region 0 with fail; refine qK (S:=fun w'=>MI w B (f) w') 14 JU K.drew ?_; clear K; intro K; generalize w.drew=v0 at K ⊢; refine xmC 0 14 K ?_; refine xmC 1 15 K ?_; refine xmC 2 16 K ?_
 refine xmC 3 17 K ?_; refine xqC 4 18 rfl _ VK K ?_; refine ycC 5 19 (.int .u32 ((f) a)) B a Tryz.underlying118 K (fun _ h=>h.has.cell a ha) ?_
 refine xmC 6 20 K ?_; refine xmC 7 21 K ?_; refine xqC 8 22 rfl _ VU K ?_
 refine ycC 9 23 (.int .u32 ((f) b)) B b Tryz.underlying118 K (fun _ h=>h.has.cell b hb) ?_
 refine xqC 10 24 rfl _ YJ K ?_; refine xmC 11 25 K ?_; refine xqC 12 26 rfl _ YJ K ?_
 refine xqC 13 27 rfl _ VK K ?_; refine gJ (S2:=fun _=>True) none rfl .u32 (had (had ((f) a) ((f) b)) x) B a 118 _ _ JU rfl rfl rfl rfl rfl (by rw [K.has.cell a ha]; rfl) (K.has.free a ha) JU JU ?_; simp only [Act.put]
 refine wE JU ?_ _
 have F1:=show Hid (In V 16 (mxA (f) a b x)) from F0.out.upd a _ (vQ _ _).1 (vQ _ _).2
 replace K:MI w B (mxA (f) a b x) _:=K.set a ha (had (had ((f) a) ((f) b)) x)
 generalize v0.setCell ⟨B,a,none⟩ (.int .u32 (had (had ((f) a) ((f) b)) x))=w1 at K ⊢; go_upto_region 1 with fail; refine hdC 13 K ?_; clear K; intro K; generalize w1.drew=v1 at K ⊢; refine xmC 0 28 K ?_; refine xmC 1 29 K ?_
 refine xmC 2 30 K ?_; refine xmC 3 31 K ?_; refine xqC 4 32 rfl _ VY K ?_
 refine ycC 5 33 (.int .u32 ((mxA (f) a b x) d)) B d Tryz.underlying118 K (fun _ h=>h.has.cell d hd) ?_; refine xmC 6 34 K ?_; refine xmC 7 35 K ?_
 refine xqC 8 36 rfl _ VK K ?_; refine ycC 9 37 (.int .u32 ((mxA (f) a b x) a)) B a Tryz.underlying118 K (fun _ h=>h.has.cell a ha) ?_
 refine xqC 10 38 rfl _ Js K ?_; refine yaC 11 39 (lR 16 JG _ (yN _ _ (F1.out d hd) (F1.out a ha)) _) ?_; rintro e u1 ⟨q1,rfl,rfl⟩; replace K:=K.drewN q1
 refine ⟨_,rfl,K,nC ?_⟩
 refine xqC 12 40 rfl _ VY K ?_; refine gJ (S2:=fun _=>True) none rfl .u32 (hrl 16 (hxr ((mxA (f) a b x) d) ((mxA (f) a b x) a))) B d 118 _ _ JU rfl rfl rfl rfl rfl (by rw [K.has.cell d hd]; rfl) (K.has.free d hd) JU JU ?_; simp only [Act.put]
 refine wE JU ?_ _
 have F2:=show Hid (In V 16 (mxD 16 (mxA (f) a b x) d a)) from F1.out.upd d _ (tC _ _ (yN _ _ (F1.out d hd) (F1.out a ha))).1 (tC _ _ (yN _ _ (F1.out d hd) (F1.out a ha))).2
 replace K:MI w B (mxD 16 (mxA (f) a b x) d a) _:=K.set d hd (hrl 16 (hxr ((mxA (f) a b x) d) ((mxA (f) a b x) a)))
 generalize (v1.drewN q1).setCell ⟨B,d,none⟩ (.int .u32 (hrl 16 (hxr ((mxA (f) a b x) d) ((mxA (f) a b x) a))))=w2 at K ⊢; go_upto_region 2 with fail; refine hdC 12 K ?_; clear K; intro K; generalize w2.drew=v2 at K ⊢; refine xmC 0 41 K ?_
 refine xmC 1 42 K ?_; refine xmC 2 43 K ?_; refine xmC 3 44 K ?_; refine xqC 4 45 rfl _ VV K ?_
 refine ycC 5 46 (.int .u32 ((mxD 16 (mxA (f) a b x) d a) c)) B c Tryz.underlying118 K (fun _ h=>h.has.cell c hc) ?_; refine xmC 6 47 K ?_; refine xmC 7 48 K ?_
 refine xqC 8 49 rfl _ VY K ?_; refine ycC 9 50 (.int .u32 ((mxD 16 (mxA (f) a b x) d a) d)) B d Tryz.underlying118 K (fun _ h=>h.has.cell d hd) ?_
 refine xqC 10 51 rfl _ YJ K ?_; refine xqC 11 52 rfl _ VV K ?_
 refine gJ (S2:=fun _=>True) none rfl .u32 (had ((mxD 16 (mxA (f) a b x) d a) c) ((mxD 16 (mxA (f) a b x) d a) d)) B c 118 _ _ JU rfl rfl rfl rfl rfl (by rw [K.has.cell c hc]; rfl) (K.has.free c hc) JU JU ?_; simp only [Act.put]
 refine wE JU ?_ _
 have F3:=show Hid (In V 16 (mxC (mxD 16 (mxA (f) a b x) d a) c d)) from F2.out.upd c _ (vQ _ _).1 (vQ _ _).2
 replace K:MI w B (mxC (mxD 16 (mxA (f) a b x) d a) c d) _:=K.set c hc (had ((mxD 16 (mxA (f) a b x) d a) c) ((mxD 16 (mxA (f) a b x) d a) d))
 generalize v2.setCell ⟨B,c,none⟩ (.int .u32 (had ((mxD 16 (mxA (f) a b x) d a) c) ((mxD 16 (mxA (f) a b x) d a) d)))=w3 at K ⊢; go_upto_region 3 with fail; refine hdC 13 K ?_; clear K; intro K; generalize w3.drew=v3 at K ⊢; refine xmC 0 53 K ?_
 refine xmC 1 54 K ?_; refine xmC 2 55 K ?_; refine xmC 3 56 K ?_; refine xqC 4 57 rfl _ VU K ?_
 refine ycC 5 58 (.int .u32 ((mxC (mxD 16 (mxA (f) a b x) d a) c d) b)) B b Tryz.underlying118 K (fun _ h=>h.has.cell b hb) ?_; refine xmC 6 59 K ?_
 refine xmC 7 60 K ?_; refine xqC 8 61 rfl _ VV K ?_
 refine ycC 9 62 (.int .u32 ((mxC (mxD 16 (mxA (f) a b x) d a) c d) c)) B c Tryz.underlying118 K (fun _ h=>h.has.cell c hc) ?_
 refine xqC 10 63 rfl _ Js K ?_; refine yaC 11 64 (lR 12 JG _ (yN _ _ (F3.out b hb) (F3.out c hc)) _) ?_; rintro e u3 ⟨q3,rfl,rfl⟩; replace K:=K.drewN q3
 refine ⟨_,rfl,K,nC ?_⟩
 refine xqC 12 65 rfl _ VU K ?_
 refine gJ (S2:=fun _=>True) none rfl .u32 (hrl 20 (hxr ((mxC (mxD 16 (mxA (f) a b x) d a) c d) b) ((mxC (mxD 16 (mxA (f) a b x) d a) c d) c))) B b 118 _ _ JU rfl rfl rfl rfl rfl (by rw [K.has.cell b hb]; rfl) (K.has.free b hb) JU JU ?_; simp only [Act.put]
 refine wE JU ?_ _
 have F4:=show Hid (In V 16 (mxD 20 (mxC (mxD 16 (mxA (f) a b x) d a) c d) b c)) from F3.out.upd b _ (tC _ _ (yN _ _ (F3.out b hb) (F3.out c hc))).1 (tC _ _ (yN _ _ (F3.out b hb) (F3.out c hc))).2
 replace K:MI w B (mxD 20 (mxC (mxD 16 (mxA (f) a b x) d a) c d) b c) _:=K.set b hb (hrl 20 (hxr ((mxC (mxD 16 (mxA (f) a b x) d a) c d) b) ((mxC (mxD 16 (mxA (f) a b x) d a) c d) c)))
 generalize (v3.drewN q3).setCell ⟨B,b,none⟩ (.int .u32 (hrl 20 (hxr ((mxC (mxD 16 (mxA (f) a b x) d a) c d) b) ((mxC (mxD 16 (mxA (f) a b x) d a) c d) c))))=w4 at K ⊢; go_upto_region 4 with fail; refine qK (S:=fun w'=>MI w B (mxD 20 (mxC (mxD 16 (mxA (f) a b x) d a) c d) b c) w') 14 JU K.drew ?_; clear K; intro K; generalize w4.drew=v4 at K ⊢
 refine xmC 0 66 K ?_; refine xmC 1 67 K ?_; refine xmC 2 68 K ?_; refine xmC 3 69 K ?_; refine xqC 4 70 rfl _ VK K ?_
 refine ycC 5 71 (.int .u32 ((mxD 20 (mxC (mxD 16 (mxA (f) a b x) d a) c d) b c) a)) B a Tryz.underlying118 K (fun _ h=>h.has.cell a ha) ?_; refine xmC 6 72 K ?_
 refine xmC 7 73 K ?_; refine xqC 8 74 rfl _ VU K ?_
 refine ycC 9 75 (.int .u32 ((mxD 20 (mxC (mxD 16 (mxA (f) a b x) d a) c d) b c) b)) B b Tryz.underlying118 K (fun _ h=>h.has.cell b hb) ?_
 refine xqC 10 76 rfl (.int .u32 (had ((mxD 20 (mxC (mxD 16 (mxA (f) a b x) d a) c d) b c) a) ((mxD 20 (mxC (mxD 16 (mxA (f) a b x) d a) c d) b c) b))) YJ K ?_; refine xmC 11 77 K ?_
 refine xqC 12 78 rfl (.int .u32 (had (had ((mxD 20 (mxC (mxD 16 (mxA (f) a b x) d a) c d) b c) a) ((mxD 20 (mxC (mxD 16 (mxA (f) a b x) d a) c d) b c) b)) y)) YJ K ?_; refine xqC 13 79 rfl _ VK K ?_
 refine gJ (S2:=fun _=>True) none rfl .u32 (had (had ((mxD 20 (mxC (mxD 16 (mxA (f) a b x) d a) c d) b c) a) ((mxD 20 (mxC (mxD 16 (mxA (f) a b x) d a) c d) b c) b)) y) B a 118 _ _ JU rfl rfl rfl rfl rfl (by rw [K.has.cell a ha]; rfl) (K.has.free a ha) JU JU ?_; simp only [Act.put]
 refine wE JU ?_ _
 have F5:=show Hid (In V 16 (mxA (mxD 20 (mxC (mxD 16 (mxA (f) a b x) d a) c d) b c) a b y)) from F4.out.upd a _ (vQ _ _).1 (vQ _ _).2
 replace K:MI w B (mxA (mxD 20 (mxC (mxD 16 (mxA (f) a b x) d a) c d) b c) a b y) _:=K.set a ha (had (had ((mxD 20 (mxC (mxD 16 (mxA (f) a b x) d a) c d) b c) a) ((mxD 20 (mxC (mxD 16 (mxA (f) a b x) d a) c d) b c) b)) y)
 generalize v4.setCell ⟨B,a,none⟩ (.int .u32 (had (had ((mxD 20 (mxC (mxD 16 (mxA (f) a b x) d a) c d) b c) a) ((mxD 20 (mxC (mxD 16 (mxA (f) a b x) d a) c d) b c) b)) y))=w5 at K ⊢; go_upto_region 5 with fail; refine qK (S:=fun w'=>MI w B (mxA (mxD 20 (mxC (mxD 16 (mxA (f) a b x) d a) c d) b c) a b y) w') 13 JU K.drew ?_; clear K; intro K
 generalize w5.drew=v5 at K ⊢; refine xmC 0 80 K ?_; refine xmC 1 81 K ?_; refine xmC 2 82 K ?_; refine xmC 3 83 K ?_; refine xqC 4 84 rfl _ VY K ?_
 refine eP (i:=5) (some 85) rfl .u32 (.int .u32 ((mxA (mxD 20 (mxC (mxD 16 (mxA (f) a b x) d a) c d) b c) a b y) d)) B d 118 _ rfl rfl JU rfl rfl rfl JU JU JU JU (fun _ _ _ h=>h) Tryz.underlying118 K (fun _ h=>h.has.cell d hd) (nC ?_); refine xmC 6 86 K ?_
 refine xmC 7 87 K ?_; refine xqC 8 88 rfl _ VK K ?_
 refine eP (i:=9) (some 89) rfl .u32 (.int .u32 ((mxA (mxD 20 (mxC (mxD 16 (mxA (f) a b x) d a) c d) b c) a b y) a)) B a 118 _ rfl rfl JU rfl rfl rfl JU JU JU JU (fun _ _ _ h=>h) Tryz.underlying118 K (fun _ h=>h.has.cell a ha) (nC ?_)
 refine xqC 10 90 rfl (.int .u32 (hxr ((mxA (mxD 20 (mxC (mxD 16 (mxA (f) a b x) d a) c d) b c) a b y) d) ((mxA (mxD 20 (mxC (mxD 16 (mxA (f) a b x) d a) c d) b c) a b y) a))) Js K ?_; refine yaC 11 91 (lR 8 JG _ (yN _ _ (F5.out d hd) (F5.out a ha)) _) ?_
 rintro e u5 ⟨q5,rfl,rfl⟩; replace K:=K.drewN q5
 refine ⟨_,rfl,K,nC ?_⟩
 refine xqC 12 92 rfl _ VY K ?_
 refine gJ (S2:=fun _=>True) none rfl .u32 (hrl 24 (hxr ((mxA (mxD 20 (mxC (mxD 16 (mxA (f) a b x) d a) c d) b c) a b y) d) ((mxA (mxD 20 (mxC (mxD 16 (mxA (f) a b x) d a) c d) b c) a b y) a))) B d 118 _ _ JU rfl rfl rfl rfl rfl (by rw [K.has.cell d hd]; rfl) (K.has.free d hd) JU JU ?_; simp only [Act.put]
 refine wE JU ?_ _
 have F6:=show Hid (In V 16 (mxD 24 (mxA (mxD 20 (mxC (mxD 16 (mxA (f) a b x) d a) c d) b c) a b y) d a)) from F5.out.upd d _ (tC _ _ (yN _ _ (F5.out d hd) (F5.out a ha))).1 (tC _ _ (yN _ _ (F5.out d hd) (F5.out a ha))).2
 replace K:MI w B (mxD 24 (mxA (mxD 20 (mxC (mxD 16 (mxA (f) a b x) d a) c d) b c) a b y) d a) _:=K.set d hd (hrl 24 (hxr ((mxA (mxD 20 (mxC (mxD 16 (mxA (f) a b x) d a) c d) b c) a b y) d) ((mxA (mxD 20 (mxC (mxD 16 (mxA (f) a b x) d a) c d) b c) a b y) a)))
 generalize (v5.drewN q5).setCell ⟨B,d,none⟩ (.int .u32 (hrl 24 (hxr ((mxA (mxD 20 (mxC (mxD 16 (mxA (f) a b x) d a) c d) b c) a b y) d) ((mxA (mxD 20 (mxC (mxD 16 (mxA (f) a b x) d a) c d) b c) a b y) a))))=w6 at K ⊢; go_upto_region 6 with fail
 refine qK (S:=fun w'=>MI w B (mxD 24 (mxA (mxD 20 (mxC (mxD 16 (mxA (f) a b x) d a) c d) b c) a b y) d a) w') 12 JU K.drew ?_; clear K; intro K; generalize w6.drew=v6 at K ⊢; refine xmC 0 93 K ?_; refine xmC 1 94 K ?_; refine xmC 2 95 K ?_
 refine xmC 3 96 K ?_; refine xqC 4 97 rfl _ VV K ?_
 refine eP (i:=5) (some 98) rfl .u32 (.int .u32 ((mxD 24 (mxA (mxD 20 (mxC (mxD 16 (mxA (f) a b x) d a) c d) b c) a b y) d a) c)) B c 118 _ rfl rfl JU rfl rfl rfl JU JU JU JU (fun _ _ _ h=>h) Tryz.underlying118 K (fun _ h=>h.has.cell c hc) (nC ?_)
 refine xmC 6 99 K ?_; refine xmC 7 100 K ?_; refine xqC 8 101 rfl _ VY K ?_
 refine eP (i:=9) (some 102) rfl .u32 (.int .u32 ((mxD 24 (mxA (mxD 20 (mxC (mxD 16 (mxA (f) a b x) d a) c d) b c) a b y) d a) d)) B d 118 _ rfl rfl JU rfl rfl rfl JU JU JU JU (fun _ _ _ h=>h) Tryz.underlying118 K (fun _ h=>h.has.cell d hd) (nC ?_)
 refine xqC 10 103 rfl (.int .u32 (had ((mxD 24 (mxA (mxD 20 (mxC (mxD 16 (mxA (f) a b x) d a) c d) b c) a b y) d a) c) ((mxD 24 (mxA (mxD 20 (mxC (mxD 16 (mxA (f) a b x) d a) c d) b c) a b y) d a) d))) YJ K ?_; refine xqC 11 104 rfl _ VV K ?_
 refine gJ (S2:=fun _=>True) none rfl .u32 (had ((mxD 24 (mxA (mxD 20 (mxC (mxD 16 (mxA (f) a b x) d a) c d) b c) a b y) d a) c) ((mxD 24 (mxA (mxD 20 (mxC (mxD 16 (mxA (f) a b x) d a) c d) b c) a b y) d a) d)) B c 118 _ _ JU rfl rfl rfl rfl rfl (by rw [K.has.cell c hc]; rfl) (K.has.free c hc) JU JU ?_; simp only [Act.put]
 refine wE JU ?_ _
 have F7:=show Hid (In V 16 (mxC (mxD 24 (mxA (mxD 20 (mxC (mxD 16 (mxA (f) a b x) d a) c d) b c) a b y) d a) c d)) from F6.out.upd c _ (vQ _ _).1 (vQ _ _).2
 replace K:MI w B (mxC (mxD 24 (mxA (mxD 20 (mxC (mxD 16 (mxA (f) a b x) d a) c d) b c) a b y) d a) c d) _:=K.set c hc (had ((mxD 24 (mxA (mxD 20 (mxC (mxD 16 (mxA (f) a b x) d a) c d) b c) a b y) d a) c) ((mxD 24 (mxA (mxD 20 (mxC (mxD 16 (mxA (f) a b x) d a) c d) b c) a b y) d a) d))
 generalize v6.setCell ⟨B,c,none⟩ (.int .u32 (had ((mxD 24 (mxA (mxD 20 (mxC (mxD 16 (mxA (f) a b x) d a) c d) b c) a b y) d a) c) ((mxD 24 (mxA (mxD 20 (mxC (mxD 16 (mxA (f) a b x) d a) c d) b c) a b y) d a) d)))=w7 at K ⊢; go_upto_region 7 with fail
 refine qK (S:=fun w'=>MI w B (mxC (mxD 24 (mxA (mxD 20 (mxC (mxD 16 (mxA (f) a b x) d a) c d) b c) a b y) d a) c d) w') 13 JU K.drew ?_; clear K; intro K; generalize w7.drew=v7 at K ⊢; refine xmC 0 105 K ?_; refine xmC 1 106 K ?_; refine xmC 2 107 K ?_
 refine xmC 3 108 K ?_; refine xqC 4 109 rfl _ VU K ?_
 refine eP (i:=5) (some 110) rfl .u32 (.int .u32 ((mxC (mxD 24 (mxA (mxD 20 (mxC (mxD 16 (mxA (f) a b x) d a) c d) b c) a b y) d a) c d) b)) B b 118 _ rfl rfl JU rfl rfl rfl JU JU JU JU (fun _ _ _ h=>h) Tryz.underlying118 K (fun _ h=>h.has.cell b hb) (nC ?_)
 refine xmC 6 111 K ?_; refine xmC 7 112 K ?_; refine xqC 8 113 rfl _ VV K ?_
 refine eP (i:=9) (some 114) rfl .u32 (.int .u32 ((mxC (mxD 24 (mxA (mxD 20 (mxC (mxD 16 (mxA (f) a b x) d a) c d) b c) a b y) d a) c d) c)) B c 118 _ rfl rfl JU rfl rfl rfl JU JU JU JU (fun _ _ _ h=>h) Tryz.underlying118 K (fun _ h=>h.has.cell c hc) (nC ?_)
 refine xqC 10 115 rfl (.int .u32 (hxr ((mxC (mxD 24 (mxA (mxD 20 (mxC (mxD 16 (mxA (f) a b x) d a) c d) b c) a b y) d a) c d) b) ((mxC (mxD 24 (mxA (mxD 20 (mxC (mxD 16 (mxA (f) a b x) d a) c d) b c) a b y) d a) c d) c))) Js K ?_
 refine yaC 11 116 (lR 7 JG _ (yN _ _ (F7.out b hb) (F7.out c hc)) _) ?_; rintro e u7 ⟨q7,rfl,rfl⟩; replace K:=K.drewN q7
 refine ⟨_,rfl,K,nC ?_⟩
 refine xqC 12 117 rfl _ VU K ?_
 refine gJ (S2:=fun _=>True) none rfl .u32 (hrl 25 (hxr ((mxC (mxD 24 (mxA (mxD 20 (mxC (mxD 16 (mxA (f) a b x) d a) c d) b c) a b y) d a) c d) b) ((mxC (mxD 24 (mxA (mxD 20 (mxC (mxD 16 (mxA (f) a b x) d a) c d) b c) a b y) d a) c d) c))) B b 118 _ _ JU rfl rfl rfl rfl rfl (by rw [K.has.cell b hb]; rfl) (K.has.free b hb) JU JU ?_; simp only [Act.put]
 refine wE JU ?_ _
 have F8:=show Hid (In V 16 (mxD 25 (mxC (mxD 24 (mxA (mxD 20 (mxC (mxD 16 (mxA (f) a b x) d a) c d) b c) a b y) d a) c d) b c)) from F7.out.upd b _ (tC _ _ (yN _ _ (F7.out b hb) (F7.out c hc))).1 (tC _ _ (yN _ _ (F7.out b hb) (F7.out c hc))).2
 replace K:MI w B (mxD 25 (mxC (mxD 24 (mxA (mxD 20 (mxC (mxD 16 (mxA (f) a b x) d a) c d) b c) a b y) d a) c d) b c) _:=K.set b hb (hrl 25 (hxr ((mxC (mxD 24 (mxA (mxD 20 (mxC (mxD 16 (mxA (f) a b x) d a) c d) b c) a b y) d a) c d) b) ((mxC (mxD 24 (mxA (mxD 20 (mxC (mxD 16 (mxA (f) a b x) d a) c d) b c) a b y) d a) c d) c)))
 generalize (v7.drewN q7).setCell ⟨B,b,none⟩ (.int .u32 (hrl 25 (hxr ((mxC (mxD 24 (mxA (mxD 20 (mxC (mxD 16 (mxA (f) a b x) d a) c d) b c) a b y) d a) c d) b) ((mxC (mxD 24 (mxA (mxD 20 (mxC (mxD 16 (mxA (f) a b x) d a) c d) b c) a b y) d a) c d) c))))=w8 at K ⊢
 rw [x2p f a b c d x y hab hac had_ hbc hbd hcd] at K
 go_wp2
 go_end0
 exact ⟨rfl,K⟩
end Go.Proofs.YtknodlefhclijaaGreatDoor
