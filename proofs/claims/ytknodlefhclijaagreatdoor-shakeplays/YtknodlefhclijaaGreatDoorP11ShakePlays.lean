/- Texts of Hs Ht Ir, joined. -/
import Derived.Test.YtknodlefhclijaaGreatDoorP10ShakePlays
set_option maxRecDepth 20000
set_option maxHeartbeats 64000000
namespace Go.Proofs.YtknodlefhclijaaGreatDoor
open Go.RowKit
theorem q2d (B o c:Nat) (x0 x1 x2 x3:Int) (h0:0≤x0∧x0<256) (h1:0≤x1∧x1<256) (h2:0≤x2∧x2<256) (h3:0≤x3∧x3<256) (w:World) (c0:w.cell? ⟨B,o,none⟩=some (.int .u8 x0)) (c1:w.cell? ⟨B,o+1,none⟩=some (.int .u8 x1)) (c2:w.cell? ⟨B,o+2,none⟩=some (.int .u8 x2)) (c3:w.cell? ⟨B,o+3,none⟩=some (.int .u8 x3)) :
 Calls Tryz.prog 134 #[.slice (some ⟨B,o,none⟩) 4 c] w fun e w'=>∃ q,e=.returned (.int .u32 (x0+x1*256+x2*65536+x3*16777216))∧w'=w.drewN q:=by
 have hg:=j1z x0 x1 x2 x3 h0 h1 h2 h3; have HG:=show Hid _ from hg; clear hg h0 h1 h2 h3
 go_enter Tryz.func134,Tryz.ntmps134
 exact Xg
theorem j2m (B o n c:Nat) (a:Nat→Int) (ho:o+4≤n) (ha:In 256 n a) (w:World) (h:Has w B .u8 n a) :
 Calls Tryz.prog 134 #[.slice (some ⟨B,o,none⟩) 4 c] w fun e w'=>∃ q,e=.returned (.int .u32 (w32 a o))∧w'=w.drewN q :=
 q2d B o c _ _ _ _ (ha o JK) (ha (o+1) JK) (ha (o+2) JK) (ha (o+3) JK) w (h.cell o JK) (h.cell (o+1) JK) (h.cell (o+2) JK) (h.cell (o+3) JK)
theorem q3j (b k:Nat) (hk:k<8) (w:World):(Instr.sliceAt 23 (.pointer (some ⟨b,0,none⟩)) (some (.int .i64 (4*(k:Int)))) (some (.int .i64 (4*(k:Int)+4))) none).run Tryz.prog w=.ok (.slice (some ⟨b,4*k,none⟩) 4 (32-4*k)) w:=by
 have hl:Tryz.prog.arrayLen 23=32:=by kernel_rfl
 have hs:∀ w,(sizeOf (Tryz.prog.elem 23)).run Tryz.prog w=.ok 1 w:=fun w=>by kernel_rfl
 rw [run_sliceAt_array_lh w 23 ⟨b,0,none⟩ JU .i64 .i64 _ _ JK JK (by rw [hl]; omega),hs,hl]
 exact Zt
theorem q3i (b k:Nat) (hk:k<3) (w:World):(Instr.sliceAt 96 (.pointer (some ⟨b,0,none⟩)) (some (.int .i64 (4*(k:Int)))) (some (.int .i64 (4*(k:Int)+4))) none).run Tryz.prog w=.ok (.slice (some ⟨b,4*k,none⟩) 4 (12-4*k)) w:=by
 have hl:Tryz.prog.arrayLen 96=12:=by kernel_rfl
 have hs:∀ w,(sizeOf (Tryz.prog.elem 96)).run Tryz.prog w=.ok 1 w:=fun w=>by kernel_rfl
 rw [run_sliceAt_array_lh w 96 ⟨b,0,none⟩ JU .i64 .i64 _ _ JK JK (by rw [hl]; omega),hs,hl]
 exact Zt
theorem x5e (b i:Nat) (hi:i<64) (w:World) {o:Oper} {a:Act} (x y:Operand) (ho:o.op=.indexAddr 134 x y) (hx:a.eval x=.pointer (some ⟨b,0,none⟩)) (hy:a.eval y=.int .i64 (i:Int)) :
 (execOp a.eval o).run Tryz.prog w=.ok (.value (.pointer (some ⟨b,i,none⟩))) w:=by
 exact Xv
theorem q9m (x:Int) (e:Nat) (he:e<4):IntKind.u8.wrap (x/2^(8*e))=b32 x e:=by
 rw [IntKind.wrap_u8']
 match e,he with
 | 0,_=>show x/1%256=x%256; rw [Int.ediv_one]
 | 1,_=>rfl
 | 2,_=>rfl
 | 3,_=>rfl
structure HWI (k:Nat→Int) (c:Int) (n:Nat→Int) (w:World) (m:Nat) (s:Value) (w':World):Prop where
 K:Kr w (w.heap.size+1+1+1) [(w.heap.size+1,.u8,12,n),(w.heap.size,.u8,32,k)] [(w.heap.size+1+1,64)] w'
 own:Own w' (w.heap.size+1+1+1) 118 .u32 m (hst k c n) s
theorem HWI.drewN {k:Nat→Int} {c:Int} {n:Nat→Int} {w:World} {m:Nat} {s:Value} {w':World} (h:HWI k c n w m s w') (q:Nat):HWI k c n w m s (w'.drewN q):=⟨h.K.drewN,h.own.below (zZ (Below.refl _ _))⟩
theorem HWI.more {k:Nat→Int} {c:Int} {n:Nat→Int} {w:World} {m:Nat} {s:Value} {w':World} (h:HWI k c n w m s w') (hm:m<16) (x:Int) (hx:hst k c n m=x) (ty:TypeId) :
 ∃ v w'',(Builtin.append_ #[131,131] ty #[s,.slice (some ⟨w'.heap.size,0,none⟩) 1 1]).run Tryz.prog (w'.alloc (.cells #[.int .u32 x] 118))=.ok v w''∧HWI k c n w (m+1) v w'':=by
 have H1:=Has.new w' .u32 1 (fun _=>x) 118 w'.heap.size rfl; have K1:=h.K.call ((Below.refl w'.heap.size w').alloc (xnR _) (.cells (row .u32 1 (fun _=>x)).toArray 118))
 obtain ⟨v,w'',hr,ho,hg,_⟩:=jH (P:=Tryz.prog) (ty:=ty) Tryz.underlying131 j3v (h.own.alloc (.cells (row .u32 1 (fun _=>x)).toArray 118)) (some ⟨w'.heap.size,0,none⟩) 1 1 (fun _=>x) (fun j hj=>⟨_,rfl,by rw [Addr.add_mid,nZ]; exact H1.cell j hj⟩) Jq Jj JK (by have:=h.K.size; simp; omega)
 refine ⟨v,w'',hr,K1.grown hg (fun b hb=>?_),ho.congr fun j hj=>?_⟩
 · exact (World.ownsRow.lt h.own b hb).1
 unfold app
 by_cases e:j<m
 · rw [if_pos e]
 rw [if_neg e,← hx,show j=m by omega]
theorem fK (k:Nat→Int) (c:Int) (n:Nat→Int) (hk:In 256 32 k) (hn:In 256 12 n) (w:World) :
 Calls Tryz.prog 113 #[(.agg (row .u8 32 (k)).toArray),.int .u32 c,(.agg (row .u8 12 (n)).toArray)] w fun e w'=>e=.returned (.agg (row .u8 64 (yK k c n)).toArray)∧Below w.heap.size w w':=by
 have K:=Kr.init w; replace K:=K.box .u8 32 k 23 w.heap.size rfl; replace K:=K.box .u8 12 n 96 (w.heap.size+1) Jf; replace K:=K.make 64 xL 134 (w.heap.size+1+1) Jf (uT _ _ _ Jf).there
 go_enter Tryz.func113,Tryz.ntmps113
 go_upto_region 1 with fail
 have s0:(((w.alloc (.cells (row .u8 32 k).toArray 23)).alloc (.cells (row .u8 12 n).toArray 96)).alloc (.cells xL 134)).heap.size=w.heap.size+1+1+1:=by simp
 generalize (((w.alloc (.cells (row .u8 32 k).toArray 23)).alloc (.cells (row .u8 12 n).toArray 96)).alloc (.cells xL 134))=w0 at K s0 ⊢; refine wR (xaL (w':=w0.alloc (.cells #[.int .u32 1634760805,.int .u32 857760878,.int .u32 2036477234,.int .u32 1797285236] 118)) (.slice (some ⟨w0.heap.size,0,none⟩) 4 4) JU ?_)
 refine xmL ?_
 have HI:HWI k c n w 4 (.slice (some ⟨w0.heap.size,0,none⟩) 4 4) (w0.alloc (.cells #[.int .u32 1634760805,.int .u32 857760878,.int .u32 2036477234,.int .u32 1797285236] 118)) :=
  ⟨K.call ((Below.refl w0.heap.size w0).alloc (xnR _) _),Own.lit w0 (w.heap.size+1+1+1) 118 .u32 4 (hst k c n) JK Jj⟩
 clear K; generalize (w0.alloc (.cells #[.int .u32 1634760805,.int .u32 857760878,.int .u32 2036477234,.int .u32 1797285236] 118))=w1 at HI ⊢; generalize (Value.slice (some ⟨w0.heap.size,0,none⟩) 4 4)=s1 at HI ⊢; show Exit.then _ _ _ _ _; go_wp2
 go_loopw [7,8] (fun s i w'=>∃ m:Nat,m≤8∧i=.int .i64 m∧HWI k c n w (4+m) s w') (fun _ i _=>8-(intOf i).toNat)
 case atStart=>exact ⟨0,by omega,rfl,HI⟩
 case round =>
  clear HI; obtain ⟨m,hm,rfl,HI⟩:=hrel; have g1:(0:Int)≤(m:Int):=by omega
  by_cases hlt:m<8
  · have g2:(m:Int)<8:=by omega
    go_upto_region 5 with fail; refine wR (xm2 ?_); refine xqL (.int .i64 (4*(m:Int))) UV ?_; refine xmL ?_; refine xqL (.int .i64 (4*(m:Int))) UV ?_; refine xqL (.int .i64 (4*(m:Int)+4)) Wx ?_; refine xqL (.slice (some ⟨w.heap.size,4*m,none⟩) 4 (32-4*m)) (fun w'=>pN _ _ _ _ _ _ _ _ rfl rfl rfl rfl (q3j (w.heap.size) m hlt w')) ?_; refine xcL (j2m (w.heap.size) (4*m) 32 (32-4*m) k JK hk wr (HI.K.get _ _ _ _ (mT _ mS))) ?_; rintro e w2 ⟨q,rfl,rfl⟩; replace HI:=HI.drewN q; generalize wr.drewN q=w2 at HI ⊢; refine ⟨_,rfl,nL ?_⟩; refine xaL (w':=w2.alloc (.cells #[.int .u32 (w32 k (4*m))] 118)) (.slice (some ⟨w2.heap.size,0,none⟩) 1 1) JU ?_; obtain ⟨v,w3,hr,HI⟩:=HI.more JK _ (j8y k c n m hlt) 131; exact Qv
  obtain rfl:m=8:=by omega
  clear hlt hm g1; go_upto_region 6 with fail; refine wR (xm2 ?_); refine xaL (w':=wr.alloc (.cells #[.int .u32 c] 118)) (.slice (some ⟨wr.heap.size,0,none⟩) 1 1) JU ?_; obtain ⟨v,w3,hr,HJ⟩:=HI.more JK c rfl 131; refine xaL v (jW _ _ 131 _ _ _ rfl rfl rfl hr) ?_; refine xmL ?_; clear HI hr; show Exit.then _ _ _ _ _; go_wp2
  go_loopw [7,9] (fun s i w'=>∃ m:Nat,m≤3∧i=.int .i64 m∧HWI k c n w (13+m) s w') (fun _ i _=>3-(intOf i).toNat)
  case atStart=>exact ⟨0,by omega,rfl,HJ⟩
  case round =>
   clear HJ; obtain ⟨m,hm,rfl,HI⟩:=hrel; have g1:(0:Int)≤(m:Int):=by omega
   by_cases hlt:m<3
   · have g2:(m:Int)<3:=by omega
     go_upto_region 10 with fail; refine wR (xm2 ?_); refine xqL (.int .i64 (4*(m:Int))) UV ?_; refine xmL ?_; refine xqL (.int .i64 (4*(m:Int))) UV ?_; refine xqL (.int .i64 (4*(m:Int)+4)) Wx ?_; refine xqL (.slice (some ⟨w.heap.size+1,4*m,none⟩) 4 (12-4*m)) (fun w'=>pN _ _ _ _ _ _ _ _ rfl rfl rfl rfl (q3i (w.heap.size+1) m hlt w')) ?_; refine xcL (j2m (w.heap.size+1) (4*m) 12 (12-4*m) n JK hn wr (HI.K.get _ _ _ _ mS)) ?_; rintro e w2 ⟨q,rfl,rfl⟩; replace HI:=HI.drewN q; generalize wr.drewN q=w2 at HI ⊢; refine ⟨_,rfl,nL ?_⟩; refine xaL (w':=w2.alloc (.cells #[.int .u32 (w32 n (4*m))] 118)) (.slice (some ⟨w2.heap.size,0,none⟩) 1 1) JU ?_; obtain ⟨v,w3,hr,HI⟩:=HI.more JK _ (j8x k c n m hlt) 131; exact Qv
   obtain rfl:m=3:=by omega
   clear hlt hm g1; obtain ⟨gs,cs,rfl,hgs,hgl,hhs⟩:=HI.own.has JK; have K:=HI.K.own hgs hgl hhs; clear HI hhs; go_upto_region 11 with fail; refine wR (xaL (w':=wr.alloc (.cells #[] 118)) (.slice (some ⟨wr.heap.size,0,none⟩) 0 0) JU ?_); refine xmL ?_; have K1:=K.call ((Below.refl wr.heap.size wr).alloc (xnR _) (.cells #[] 118)); obtain ⟨v,w3,hr,ho,hg,_⟩:=jH (P:=Tryz.prog) (ty:=131) Tryz.underlying131 j3v (show Own (wr.alloc (.cells #[] 118)) wr.heap.size 118 .u32 0 (hst k c n) (.slice (some ⟨wr.heap.size,0,none⟩) 0 0) from Own.lit wr wr.heap.size 118 .u32 0 (hst k c n) (xnR _) Jj) (some ⟨gs,0,none⟩) 16 cs (hst k c n) (fun j hj=>⟨_,rfl,by rw [Addr.add_mid,nZ]; exact (K1.get _ _ _ _ mS).cell j hj⟩) Jq Jj JK Jf; refine xaL v (jW _ _ 131 _ _ _ rfl rfl rfl hr) ?_; refine xmL ?_; clear hr K; replace K:=K1.grown hg Uo; clear K1 hg; obtain ⟨gx,cx,rfl,hgx,hgl2,hhx⟩:=(ho.congr (g:=hst k c n) (fun j _=>by unfold app; rw [if_neg JK,Nat.sub_zero])).has JK; clear ho; replace K:=(K.own hgx hgl2 hhx).sub [(gx,.u32,16,hst k c n),(gs,.u32,16,hst k c n)] (fun p hp=>by
    rcases xc1 hp with rfl | hp
    · exact mS
    obtain rfl:=xm1 hp; exact mT _ mS)
   have hsx:gs<gx:=by omega
   have hlo:w.heap.size+1+1+1≤gs:=hgs; obtain ⟨M,hM⟩:∃ M,w3.heap.size=M:=⟨_,rfl⟩
   rw [hM] at K; have hxM:gx<M:=by omega
   clear hM hgl2 hhx hgx hgl hgs; show Exit.then _ _ _ _ _; go_wp2
   go_loopw [11] (fun i w'=>∃ t:Nat,t≤10∧i=.int .i64 t∧Kr w M [(gx,.u32,16,drN (hst k c n) t),(gs,.u32,16,hst k c n)] [(w.heap.size+1+1,64)] w') (fun i _=>10-(intOf i).toNat)
   case atStart=>exact ⟨0,by omega,rfl,K⟩
   case round =>
    clear K; obtain ⟨t,ht,rfl,K⟩:=hrel; have g1:(0:Int)≤(t:Int):=by omega
    by_cases hlt:t<10
    · have g2:(t:Int)<10:=by omega
      obtain ⟨F,hF⟩:∃ F,drN (hst k c n) t=F:=⟨_,rfl⟩
      have HF:=show Hid _ from (show drN (hst k c n) (t+1)=htN F 8 by rw [← hF]; rfl)
      rw [hF] at K; clear hF; go_wp2; go_loopw [12] (fun i w'=>∃ j:Nat,j≤8∧i=.int .i64 j∧Kr w M [(gx,.u32,16,htN F j),(gs,.u32,16,hst k c n)] [(w.heap.size+1+1,64)] w') (fun i _=>8-(intOf i).toNat)
      case atStart=>exact ⟨0,by omega,rfl,K⟩
      case round =>
       clear K; obtain ⟨j,hj,rfl,K⟩:=hrel; have g3:(0:Int)≤(j:Int):=by omega
       by_cases hlt2:j<8
       · have g4:(j:Int)<8:=by omega
         have HT:=show Hid _ from (show htN F (j+1)=tAt (htN F j) j from rfl)
         have a1:pA j<16:=by have:=q3t j; omega
         have a2:pB j<16:=by have:=j8k j; omega
         have a3:pC j<16:=by have:=q3s j; omega
         have a4:pD j<16:=j8j j; have e0:((j:Int)).tmod 4=(pA j:Int):=by rw [Int.tmod_eq_emod_of_nonneg g3]; unfold pA; omega
         have m4:∀ x:Nat,((x:Int)).tmod 4=((x%4:Nat):Int):=fun x=>by rw [Int.tmod_eq_emod_of_nonneg JK]; omega
         unfold tAt at HT; by_cases h4:4≤j
         · have g5:(j:Int)≥4:=by omega
           have e1:IntKind.i64.wrap ((j:Int)+1)=((j+1:Nat):Int):=by rw [xw6]; omega
           have e2:IntKind.i64.wrap (4+(((j+1)%4:Nat):Int))=(pB j:Int):=by rw [xw6]; unfold pB; omega
           have e3:IntKind.i64.wrap ((j:Int)+2)=((j+2:Nat):Int):=by rw [xw6]; omega
           have e4:IntKind.i64.wrap (8+(((j+2)%4:Nat):Int))=(pC j:Int):=by rw [xw6]; unfold pC; omega
           have e5:IntKind.i64.wrap ((j:Int)+3)=((j+3:Nat):Int):=by rw [xw6]; omega
           have e6:IntKind.i64.wrap (12+(((j+3)%4:Nat):Int))=(pD j:Int):=by rw [xw6]; unfold pD; omega
           generalize pA j=A at *; generalize pB j=B at *; generalize pC j=C at *; generalize pD j=D at *; generalize htN F j=f at *; go_upto_region 21 with fail; refine wR (xmL ?_); refine xqL (.int .i64 (A:Int)) (fun w=>mU .i64 _ _ _ _ _ _ _ rfl rfl rfl JG e0 w) ?_; refine xmL ?_; show Exit.then _ _ _ _ _; go_upto_region 22 with fail; refine wR ?_
           refine xm2 ?_; refine xqL (.int .i64 ((j+1:Nat):Int)) (fun w=>vM .i64 _ _ _ _ _ _ _ rfl rfl rfl e1 w) ?_; refine xqL (.int .i64 (((j+1)%4:Nat):Int)) Yw ?_; refine xqL (.int .i64 (B:Int)) Km ?_; refine xmL ?_; show Exit.then _ _ _ _ _; go_upto_region 23 with fail; refine wR (xm2 ?_); refine xpL (.int .i64 2) ?_; refine xqL (.int .i64 ((j+2:Nat):Int)) Kl ?_
           refine xqL (.int .i64 (((j+2)%4:Nat):Int)) Yw ?_; refine xqL (.int .i64 (C:Int)) (fun w=>vM .i64 _ _ _ _ _ _ _ rfl rfl rfl e4 w) ?_; refine xmL ?_; show Exit.then _ _ _ _ _; go_upto_region 24 with fail; refine wR (xm2 ?_); refine xpL (.int .i64 3) ?_; refine xqL (.int .i64 ((j+3:Nat):Int)) Kk ?_
           refine xqL (.int .i64 (((j+3)%4:Nat):Int)) Yw ?_; refine xqL (.int .i64 (D:Int)) (fun w=>vM .i64 _ _ _ _ _ _ _ rfl rfl rfl e6 w) ?_; refine xmL ?_; show Exit.then _ _ _ _ _; clear e0 e1 e2 e3 e4 e5 e6 m4; go_upto_region 25 with fail; refine wD (S:=fun w'=>Kr w M [(gx,.u32,16,f),(gs,.u32,16,hst k c n)] [(w.heap.size+1+1,64)] w') JU K.drew ?_
           clear K; intro K; refine xmH 0 88 K ?_; refine xmH 1 89 K ?_; refine xqH 2 90 rfl _ (fun w'=>fZ _ _ _ _ a1 w' _ _ rfl rfl rfl) K ?_; refine ycH 3 91 (.int .u32 (f A)) gx A Tryz.underlying118 K (fun _ h=>(h.get _ _ _ _ mS).cell A a1) ?_; refine xmH 4 92 K ?_; refine xmH 5 93 K ?_; refine xqH 6 94 rfl _ (fun w'=>fZ _ _ _ _ a2 w' _ _ rfl rfl rfl) K ?_; refine ycH 7 95 (.int .u32 (f B)) gx B Tryz.underlying118 K (fun _ h=>(h.get _ _ _ _ mS).cell B a2) ?_; refine xmH 8 96 K ?_; refine xmH 9 97 K ?_; refine xqH 10 98 rfl _ (fun w'=>fZ _ _ _ _ a3 w' _ _ rfl rfl rfl) K ?_; refine ycH 11 99 (.int .u32 (f C)) gx C Tryz.underlying118 K (fun _ h=>(h.get _ _ _ _ mS).cell C a3) ?_; refine xmH 12 100 K ?_; refine xmH 13 101 K ?_; refine xqH 14 102 rfl _ (fun w'=>fZ _ _ _ _ a4 w' _ _ rfl rfl rfl) K ?_; refine ycH 15 103 (.int .u32 (f D)) gx D Tryz.underlying118 K (fun _ h=>(h.get _ _ _ _ mS).cell D a4) ?_; refine xpH 16 104 (.agg (row .u32 4 (mV (f A) (f B) (f C) (f D))).toArray) K ?_; refine Chain.go (z:=18) (t:=18) (n:=4) (w0:=M) (k:=1) ?_ j5c 154 rfl rfl rfl YG (fun _=>(j1x _ _ _ rfl).there) (fun _ h=>h.size) (fun _ _ h l=>h.call l) _ K; refine Chain.call 17 105 (fun v=>v=.agg (row .u32 4 (hqt (mV (f A) (f B) (f C) (f D)))).toArray) JU JU rfl rfl rfl JG JG Uw Jw JW Uy ?_; rintro _ rfl; simp only [Act.put,lI,l0,lS]; refine Chain.last JU ?_; clear K; intro G w4 K hFb; exact Qb
         have g5:¬ (j:Int)≥4:=by omega
         have e1:IntKind.i64.wrap ((j:Int)+0)=((j+0:Nat):Int):=by rw [xw6]; omega
         have e2:IntKind.i64.wrap (4+(((j+0)%4:Nat):Int))=(pB j:Int):=by rw [xw6]; unfold pB; omega
         have e3:IntKind.i64.wrap ((j:Int)+0)=((j+0:Nat):Int):=by rw [xw6]; omega
         have e4:IntKind.i64.wrap (8+(((j+0)%4:Nat):Int))=(pC j:Int):=by rw [xw6]; unfold pC; omega
         have e5:IntKind.i64.wrap ((j:Int)+0)=((j+0:Nat):Int):=by rw [xw6]; omega
         have e6:IntKind.i64.wrap (12+(((j+0)%4:Nat):Int))=(pD j:Int):=by rw [xw6]; unfold pD; omega
         generalize pA j=A at *; generalize pB j=B at *; generalize pC j=C at *; generalize pD j=D at *; generalize htN F j=f at *; go_upto_region 21 with fail; refine wR (xmL ?_); refine xqL (.int .i64 (A:Int)) (fun w=>mU .i64 _ _ _ _ _ _ _ rfl rfl rfl JG e0 w) ?_; refine xmL ?_; show Exit.then _ _ _ _ _; go_upto_region 22 with fail; refine wR ?_
         refine xm2 ?_; refine xqL (.int .i64 ((j+0:Nat):Int)) (fun w=>vM .i64 _ _ _ _ _ _ _ rfl rfl rfl e1 w) ?_; refine xqL (.int .i64 (((j+0)%4:Nat):Int)) Yw ?_; refine xqL (.int .i64 (B:Int)) Km ?_; refine xmL ?_; show Exit.then _ _ _ _ _; go_upto_region 23 with fail; refine wR (xm2 ?_); refine xpL (.int .i64 0) ?_; refine xqL (.int .i64 ((j+0:Nat):Int)) Kl ?_
         refine xqL (.int .i64 (((j+0)%4:Nat):Int)) Yw ?_; refine xqL (.int .i64 (C:Int)) (fun w=>vM .i64 _ _ _ _ _ _ _ rfl rfl rfl e4 w) ?_; refine xmL ?_; show Exit.then _ _ _ _ _; go_upto_region 24 with fail; refine wR (xm2 ?_); refine xpL (.int .i64 0) ?_; refine xqL (.int .i64 ((j+0:Nat):Int)) Kk ?_
         refine xqL (.int .i64 (((j+0)%4:Nat):Int)) Yw ?_; refine xqL (.int .i64 (D:Int)) (fun w=>vM .i64 _ _ _ _ _ _ _ rfl rfl rfl e6 w) ?_; refine xmL ?_; show Exit.then _ _ _ _ _; clear e0 e1 e2 e3 e4 e5 e6 m4; go_upto_region 25 with fail; refine wD (S:=fun w'=>Kr w M [(gx,.u32,16,f),(gs,.u32,16,hst k c n)] [(w.heap.size+1+1,64)] w') JU K.drew ?_
         clear K; intro K; refine xmH 0 88 K ?_; refine xmH 1 89 K ?_; refine xqH 2 90 rfl _ (fun w'=>fZ _ _ _ _ a1 w' _ _ rfl rfl rfl) K ?_; refine ycH 3 91 (.int .u32 (f A)) gx A Tryz.underlying118 K (fun _ h=>(h.get _ _ _ _ mS).cell A a1) ?_; refine xmH 4 92 K ?_; refine xmH 5 93 K ?_; refine xqH 6 94 rfl _ (fun w'=>fZ _ _ _ _ a2 w' _ _ rfl rfl rfl) K ?_; refine ycH 7 95 (.int .u32 (f B)) gx B Tryz.underlying118 K (fun _ h=>(h.get _ _ _ _ mS).cell B a2) ?_; refine xmH 8 96 K ?_; refine xmH 9 97 K ?_; refine xqH 10 98 rfl _ (fun w'=>fZ _ _ _ _ a3 w' _ _ rfl rfl rfl) K ?_; refine ycH 11 99 (.int .u32 (f C)) gx C Tryz.underlying118 K (fun _ h=>(h.get _ _ _ _ mS).cell C a3) ?_; refine xmH 12 100 K ?_; refine xmH 13 101 K ?_; refine xqH 14 102 rfl _ (fun w'=>fZ _ _ _ _ a4 w' _ _ rfl rfl rfl) K ?_; refine ycH 15 103 (.int .u32 (f D)) gx D Tryz.underlying118 K (fun _ h=>(h.get _ _ _ _ mS).cell D a4) ?_; refine xpH 16 104 (.agg (row .u32 4 (mV (f A) (f B) (f C) (f D))).toArray) K ?_; refine Chain.go (z:=18) (t:=18) (n:=4) (w0:=M) (k:=1) ?_ j5c 154 rfl rfl rfl YG (fun _=>(j1x _ _ _ rfl).there) (fun _ h=>h.size) (fun _ _ h l=>h.call l) _ K; refine Chain.call 17 105 (fun v=>v=.agg (row .u32 4 (hqt (mV (f A) (f B) (f C) (f D)))).toArray) JU JU rfl rfl rfl JG JG Uw Jw JW Uy ?_; rintro _ rfl; simp only [Act.put,lI,l0,lS]; refine Chain.last JU ?_; clear K; intro G w4 K hFb; exact Qb
       obtain rfl:j=8:=by omega
       rw [← HF.out] at K; have HS:=show Hid _ from K; clear K HF; go_wp2
       exact Qq
    obtain rfl:t=10:=by omega
    clear hlt ht g1; go_upto_region 30 with fail; refine wR (xpL (.agg (row .u8 64 (fun _=>0)).toArray) ?_); refine qH xL 134 rfl JW (nL ?_); refine ysL .u8 64 (fun _=>0) wr.heap.size (jM (uT _ _ _ rfl).there) (gN _) ?_; have z1:=K.size; replace K:=K.fresh .u8 64 (fun _=>0) xL 134 (uT _ _ _ rfl).there; generalize ((wr.alloc (.cells xL 134)).setCells wr.heap.size 0 (row .u8 64 (fun _=>0)))=w4 at K ⊢; generalize wr.heap.size=O at *; show Exit.then _ _ _ _ _; go_wp2
    go_loopw [20] (fun i w'=>∃ (i':Nat) (g:Nat→Int),i'≤16∧i=.int .i64 i'∧Kr w (O+1) [(O,.u8,64,g),(gx,.u32,16,drN (hst k c n) 10),(gs,.u32,16,hst k c n)] [(w.heap.size+1+1,64)] w'∧∀ j,j<4*i'→g j=yK k c n j) (fun i _=>16-(intOf i).toNat)
    case atStart=>exact ⟨0,_,by omega,rfl,K,fun j hj=>by omega⟩
    case round =>
     clear K; obtain ⟨i,g,hi,rfl,K,hd⟩:=hrel; have g1:(0:Int)≤(i:Int):=by omega
     by_cases hlt:i<16
     · have g2:(i:Int)<16:=by omega
       go_upto_region 34 with fail; refine wD (S:=fun w'=>Kr w (O+1) [(O,.u8,64,g),(gx,.u32,16,drN (hst k c n) 10),(gs,.u32,16,hst k c n)] [(w.heap.size+1+1,64)] w') JU K.drew ?_; clear K; intro K; refine xmH 0 131 K ?_; refine xmH 1 132 K ?_; refine xqH 2 133 rfl _ Uc K ?_; refine ycH 3 134 (.int .u32 (drN (hst k c n) 10 i)) gx i Tryz.underlying118 K (fun _ h=>(h.get _ _ _ _ (mT _ mS)).cell i hlt) ?_; refine xmH 4 135 K ?_; refine xmH 5 136 K ?_; refine xqH 6 137 rfl _ Uc K ?_; refine ycH 7 138 (.int .u32 (hst k c n i)) gs i Tryz.underlying118 K (fun _ h=>(h.get _ _ _ _ (mI 2 rfl)).cell i hlt) ?_; refine xqH 8 139 rfl (.int .u32 (hwd k c n i)) Up K ?_; refine xmH 9 21 K ?_; refine wE JU ?_ _; generalize wr.drew=w5 at K ⊢; obtain ⟨X,hX⟩:∃ X,hwd k c n i=X:=⟨_,rfl⟩
       have HX:=show Hid _ from hX
       rw [hX]; clear hX; go_wp2; go_loopw [22] (fun v w'=>∃ (e:Nat) (g:Nat→Int),e≤4∧v=.int .i64 e∧Kr w (O+1) [(O,.u8,64,g),(gx,.u32,16,drN (hst k c n) 10),(gs,.u32,16,hst k c n)] [(w.heap.size+1+1,64)] w'∧∀ j,j<4*i+e→g j=yK k c n j) (fun v _=>4-(intOf v).toNat)
       case atStart=>exact ⟨0,g,by omega,rfl,K,hd⟩
       case round =>
        clear K hd; obtain ⟨e,g,he,rfl,K,hd⟩:=hrel; have g3:(0:Int)≤(e:Int):=by omega
        by_cases hlt2:e<4
        · have g4:(e:Int)<4:=by omega
          have hp:4*i+e<64:=by omega
          have e1:IntKind.i64.wrap (4*(i:Int))=((4*i:Nat):Int):=by rw [xw6]; omega
          have e2:IntKind.i64.wrap (((4*i:Nat):Int)+(e:Int))=((4*i+e:Nat):Int):=by rw [xw6]; omega
          have e3:IntKind.i64.wrap (8*(e:Int))=((8*e:Nat):Int):=by rw [xw6]; omega
          have e4:X/2^min (((8*e:Nat):Int)).toNat IntKind.u32.bits=X/2^(8*e):=by rw [Int.toNat_natCast,Nat.min_eq_left (show 8*e≤IntKind.u32.bits by show 8*e≤32; omega)]
          have e5:=q9m X e hlt2; have hv:b32 X e=yK k c n (4*i+e):=by unfold yK; rw [show (4*i+e)/4=i by omega,show (4*i+e)%4=e by omega,HX.out]
          go_upto_region 38 with fail; refine wR (xmL ?_); refine xqL (.int .i64 ((4*i:Nat):Int)) (fun w=>aM .i64 4 (i:Int) _ _ _ _ _ rfl rfl rfl e1 w) ?_; refine xmL ?_; refine xqL (.int .i64 ((4*i+e:Nat):Int)) Km ?_; refine xm2 ?_; refine xqL (.int .i64 ((8*e:Nat):Int)) (fun w=>aM .i64 8 (e:Int) _ _ _ _ _ rfl rfl rfl e3 w) ?_; refine xqL (.int .u32 (X/2^(8*e))) (fun w=>q0f .u32 .i64 _ _ _ _ _ _ _ rfl rfl rfl JK e4 w) ?_; refine xqL (.int .u8 (b32 X e)) (fun w=>mZ .u32 .u8 _ _ _ _ _ rfl JU Tryz.underlying5 JU rfl e5 w) ?_; refine xqL (.pointer (some ⟨O,4*i+e,none⟩)) (fun w'=>x5e O (4*i+e) hp w' _ _ rfl rfl rfl) ?_; refine ywL .u8 (b32 X e) O (4*i+e) (by rw [(K.get _ _ _ _ mS).cell _ hp]; rfl) ((K.get _ _ _ _ mS).free _ hp) JU ?_; replace K:=K.setCell [(gx,.u32,16,drN (hst k c n) 10),(gs,.u32,16,hst k c n)] O .u8 64 g (4*i+e) hp (b32 X e) mS KX Jm JK; have HS:=show Hid _ from (And.intro K (show ∀ j,j<4*i+(e+1)→upd g (4*i+e) (b32 X e) j=yK k c n j from fun j hj=>by
           by_cases ej:j=4*i+e
           · subst ej; rw [jP,hv]
           rw [jR _ _ _ _ ej]; exact hd j JK))
          clear K hd e1 e2 e3 e4 e5 hv hp; generalize wr.setCell ⟨O,4*i+e,none⟩ (.int .u8 (b32 X e))=w6 at HS ⊢; show Exit.inBlock _ _ _ _ _
          go_wp2; go_roundw
          case rel=>first | exact ⟨e+1,_,by omega,by go_num,HS.out⟩ | ((repeat apply Exists.intro); refine ⟨⟨e+1,_,by omega,?_,HS.out⟩,rfl⟩ <;> first | rfl | go_num)
          case measure=>simp [intOf]; omega
        obtain rfl:e=4:=by omega
        have HS:=show Hid _ from (And.intro K (show ∀ j,j<4*(i+1)→g j=yK k c n j from fun j hj=>hd j JK)); clear K hd HX; go_wp2
        exact Zs
     obtain rfl:i=16:=by omega
     have h1:=(K.get _ _ _ _ mS).congr (g:=yK k c n) (fun j hj=>hd j JK); have hz:=(K.room _ mS).1; have hB:=(K.fill _ _ mS (row .u8 64 (yK k c n))).below; clear K hd hlt hi g1; generalize hf:yK k c n=f at *; go_wp2_with (first | (refine yl (h1) Tryz.underlying134 (pG _) ?_) | (refine ys .u8 64 f (jM hz) (gN _) ?_)); exact bRq (v:=(.agg (row .u8 64 (f)).toArray)) (jQ Tryz.results113 rfl (Has.all hz .u8 _).range Tryz.underlying134 rfl (pG _)) rfl ⟨by first | rfl | rw [hf],hB⟩
structure HXI (k:Nat→Int) (c:Int) (n:Nat→Int) (z:Nat→Int) (w:World) (m:Nat) (s:Value) (w':World):Prop where
 K:Kr w (w.heap.size+1+1) [(w.heap.size+1,.u8,12,n),(w.heap.size,.u8,32,k)] [] w'
 own:Own w' (w.heap.size+1+1) 5 .u8 m (xB k c n z) s
structure HXD (k:Nat→Int) (c:Int) (n:Nat→Int) (z:Nat→Int) (C:Int) (D:Nat) (w:World) (m:Nat) (s:Value) (w':World):Prop where
 K:Kr w (D+1) [(D,.u8,64,yK k C n),(w.heap.size+1,.u8,12,n),(w.heap.size,.u8,32,k)] [] w'
 own:Own w' (w.heap.size+1+1) 5 .u8 m (xB k c n z) s
 ne:s.ownBlock≠some D
theorem HXD.more {k:Nat→Int} {c:Int} {n:Nat→Int} {z:Nat→Int} {C:Int} {D:Nat} {w:World} {m:Nat} {s:Value} {w':World} (h:HXD k c n z C D w m s w') (hD:w.heap.size+1+1≤D) (hm:m<140737488355328) (x:Int) (hx:xB k c n z m=x) (ty:TypeId) :
 ∃ v w'',(Builtin.append_ #[32,32] ty #[s,.slice (some ⟨w'.heap.size,0,none⟩) 1 1]).run Tryz.prog (w'.alloc (.cells #[.int .u8 x] 5))=.ok v w''∧HXD k c n z C D w (m+1) v w'':=by
 have H1:=Has.new w' .u8 1 (fun _=>x) 5 w'.heap.size rfl; have K1:=h.K.call ((Below.refl w'.heap.size w').alloc (xnR _) (.cells (row .u8 1 (fun _=>x)).toArray 5)); have hDs:=(h.K.rows (D,.u8,64,yK k C n) mS).2; have hsz:=h.K.size
 obtain ⟨v,w'',hr,ho,hg,hw⟩:=jH (P:=Tryz.prog) (ty:=ty) Tryz.underlying32 vG (h.own.alloc (.cells (row .u8 1 (fun _=>x)).toArray 5)) (some ⟨w'.heap.size,0,none⟩) 1 1 (fun _=>x) (fun j hj=>⟨_,rfl,by rw [Addr.add_mid,nZ]; exact H1.cell j hj⟩) Jq Jj JK Ji
 have hlo:∀ b,s.ownBlock=some b→w.heap.size+1+1≤b:=fun b hb=>(World.ownsRow.lt h.own b hb).1
 refine ⟨v,w'',hr,K1.grown' hg (fun p hp=>?_) (fun q hq=>by cases hq) (fun b hb=>by have:=hlo b hb; omega),ho.congr fun j hj=>?_,fun e=>?_⟩
 · intro e; have:=hlo _ e; rcases xc1 hp with rfl | hp
   · exact h.ne e
   rcases xc1 hp with rfl | hp
   · simp only at this; omega
   obtain rfl:=xm1 hp; simp only at this; omega
 · unfold app; by_cases e:j<m
   · rw [if_pos e]
   rw [if_neg e,← hx,show j=m by omega]
 rcases hw D e with h1 | h1
 · exact h.ne h1
 simp at h1; omega
theorem bW (k:Nat→Int) (c:Int) (n:Nat→Int) (hk:In 256 32 k) (hn:In 256 12 n) (sp:Option Addr) (len cap:Nat) (hlen:len≤140737488355328) (z:Nat→Int) (w:World) (hs:Src w sp len z) :
 Calls Tryz.prog 96 #[(.agg (row .u8 32 (k)).toArray),.int .u32 c,(.agg (row .u8 12 (n)).toArray),.slice sp len cap] w fun e w'=>∃ sp' cap',e=.returned (.slice sp' len cap')∧Own w' w.heap.size 5 .u8 len (xB k c n z) (.slice sp' len cap')∧Below w.heap.size w w':=by
 have K:=Kr.init w; replace K:=K.box .u8 32 k 23 w.heap.size rfl; replace K:=K.box .u8 12 n 96 (w.heap.size+1) Jf
 go_enter Tryz.func96,Tryz.ntmps96
 go_upto_region 1 with fail
 have s0:((w.alloc (.cells (row .u8 32 k).toArray 23)).alloc (.cells (row .u8 12 n).toArray 96)).heap.size=w.heap.size+1+1:=by simp
 generalize ((w.alloc (.cells (row .u8 32 k).toArray 23)).alloc (.cells (row .u8 12 n).toArray 96))=w0 at K s0 ⊢; refine wR (xaL (w':=w0.alloc (.cells #[] 5)) (.slice (some ⟨w0.heap.size,0,none⟩) 0 0) JU ?_); refine xmL ?_
 have HI:HXI k c n z w 0 (.slice (some ⟨w0.heap.size,0,none⟩) 0 0) (w0.alloc (.cells #[] 5)) :=
  ⟨K.call ((Below.refl w0.heap.size w0).alloc (xnR _) _),Own.lit w0 (w.heap.size+1+1) 5 .u8 0 (xB k c n z) JK Jj⟩
 clear K; generalize (w0.alloc (.cells #[] 5))=w1 at HI ⊢; generalize (Value.slice (some ⟨w0.heap.size,0,none⟩) 0 0)=s1 at HI ⊢; show Exit.then _ _ _ _ _; go_wp2
 go_loopw [9,10] (fun s i w'=>∃ t:Nat,64*t<len+64∧i=.int .i64 (64*(t:Int))∧HXI k c n z w (min (64*t) len) s w') (fun _ i _=>len+64-(intOf i).toNat)
 case atStart=>exact ⟨0,by omega,rfl,by rw [show min (64*0) len=0 by omega]; exact HI⟩
 case round =>
  clear HI; obtain ⟨t,ht,rfl,HI⟩:=hrel; have g1:(0:Int)≤64*(t:Int):=by omega
  by_cases hlt:64*t<len
  · have g2:64*(t:Int)<(len:Int):=by omega
    obtain ⟨C,hC⟩:∃ C,(c+(t:Int))%4294967296=C:=⟨_,rfl⟩
    have HC:=show Hid _ from hC
    rw [show min (64*t) len=64*t by omega] at HI; have K:=HI.K; have O:=HI.own; clear HI; go_upto_region 5 with fail; refine wR ?_; refine tJ .u8 32 k w.heap.size 0 23 _ _ rfl rfl rfl Tryz.underlying23 rfl (jJ _) (K.get _ _ _ _ (mT _ mS)).range (nL ?_); refine xm2 ?_; refine xqL (.int .i64 (t:Int)) (fun w=>x2d .i64 _ _ _ _ _ _ _ rfl rfl rfl JG (by rw [Int.tdiv_eq_ediv_of_nonneg g1,xw6]; omega) w) ?_; refine xqL _ (fun w=>mZ .i64 .u32 _ _ _ _ _ rfl JU Tryz.underlying118 JU rfl (IntKind.wrap_u32' _) w) ?_; refine xqL (.int .u32 C) (fun w=>vM .u32 _ _ _ _ _ _ _ rfl rfl rfl (by rw [IntKind.wrap_u32',← hC]; omega) w) ?_; refine tJ .u8 12 n (w.heap.size+1) 0 96 _ _ rfl rfl rfl Tryz.underlying96 rfl (zL _) (K.get _ _ _ _ mS).range (nL ?_); refine xcL (fK k C n hk hn _) ?_; rintro e w2 ⟨rfl,l⟩; replace O:=O.below l; replace K:=K.call l; clear l hC; refine xeL ?_; refine qH xL 134 rfl JW (nL ?_); refine ysL .u8 64 (yK k C n) w2.heap.size (jM (uT _ _ _ rfl).there) (gN _) ?_; have z2:=K.size; have hOl:u9.ownBlock≠some w2.heap.size:=fun e=>by have:=(World.ownsRow.lt O _ e).2; omega
    have hbl:Below w2.heap.size w2 ((w2.alloc (.cells xL 134)).setCells w2.heap.size 0 (row .u8 64 (yK k C n))):=jS ((Below.refl w2.heap.size w2).alloc (xnR _) _) _ (xnR _) 0 _; have K2:=K.fresh .u8 64 (yK k C n) xL 134 (uT _ _ _ rfl).there; have O2:=O.below hbl; clear K O hbl; generalize ((w2.alloc (.cells xL 134)).setCells w2.heap.size 0 (row .u8 64 (yK k C n)))=w3 at K2 O2 ⊢; generalize w2.heap.size=D at *; have HJ:=HXD.mk K2 O2 hOl; clear K2 O2 hOl; show Exit.then _ _ _ _ _; go_wp2
    go_loopw [9,12] (fun s v w'=>∃ i:Nat,64*t≤i∧i≤min (64*t+64) len∧v=.int .i64 (i:Int)∧HXD k c n z C D w i s w') (fun _ v _=>len+64-(intOf v).toNat)
    case atStart=>exact ⟨64*t,by omega,by omega,by go_num,HJ⟩
    case round =>
     clear HJ; obtain ⟨i,hi0,hi1,rfl,HJ⟩:=hrel; have g3:(0:Int)≤(i:Int):=by omega
     by_cases hlt2:i<min (64*t+64) len
     · have g4:(i:Int)<(len:Int):=by omega
       have g5:(i:Int)<64*(t:Int)+64:=by omega
       have hil:i<len:=by omega
       have hit:i-64*t<64:=by omega
       obtain ⟨ad,rfl,ca⟩:=hs i hil; go_upto_region 9 with fail; have hv:bits .xor .u8 (z i) (yK k C n (i-64*t))=xB k c n z i:=by
        unfold xB; rw [show i/64=t by omega,show i%64=i-64*t by omega,HC.out]
       have K:=HJ.K; have O:=HJ.own; have N:=HJ.ne; clear HJ; refine hdG K ?_; clear K; intro K; replace O:=O.drew; generalize wr.drew=w4 at K O ⊢; refine xmH 0 41 K ?_; refine xmH 1 42 K ?_; refine xmH 2 43 K ?_; refine xqH 3 44 rfl (.pointer (some (ad.add i))) WV K ?_; refine dA (i:=4) (some 45) rfl .u8 (.int .u8 (z i)) (ad.add i) 5 _ rfl rfl rfl rfl JU JU JU (fun _ _ _ h=>h) Tryz.underlying5 K WK (nH ?_); refine xmH 5 46 K ?_; refine xmH 6 47 K ?_; refine xqH 7 48 rfl (.int .i64 ((i-64*t:Nat):Int)) Wk K ?_; refine xqH 8 49 rfl (.pointer (some ⟨D,i-64*t,none⟩)) (fun w=>x0q D (i-64*t) hit w _ _ rfl rfl rfl) K ?_; refine ycH 9 50 (.int .u8 (yK k C n (i-64*t))) D (i-64*t) Tryz.underlying5 K (fun _ h=>(h.get _ _ _ _ mS).cell (i-64*t) hit) ?_; refine xqH 10 51 rfl _ (fun w=>j2i .u8 _ _ _ _ _ _ _ rfl rfl rfl hv w) K ?_; refine rY (i:=11) (w':=w4.alloc (.cells #[.int .u8 (xB k c n z i)] 5)) (some 52) rfl (.slice (some ⟨w4.heap.size,0,none⟩) 1 1) JU rfl rfl JU (K.call ((Below.refl w4.heap.size w4).alloc (xnR _) _)) ?_; simp only [aP,lI,l0,lS]; obtain ⟨v,w5,hr,HJ⟩:=(HXD.mk K O N).more z2 JK _ rfl 32; clear K O N; have K:=HJ.K; refine rY (i:=12) (some 53) rfl v JU rfl rfl (jW _ _ 32 _ _ _ rfl rfl rfl hr) K ?_; simp only [aP,lI,l0,lS]; refine xmH 13 9 K ?_; refine wE JU ?_ _; have HS:=show Hid _ from HJ; clear K HJ hr hv ca hs; go_wp2
       go_roundw
       case rel=>first | exact ⟨i+1,by omega,by omega,by go_num,HS.out⟩ | ((repeat apply Exists.intro); refine ⟨⟨i+1,by omega,by omega,?_,HS.out⟩,rfl⟩ <;> first | rfl | go_num)
       case measure=>simp [intOf]; omega
     have K0:=HJ.K.back [(w.heap.size+1,.u8,12,n),(w.heap.size,.u8,32,k)] (w.heap.size+1+1) KX (fun p hp=>by
      rcases xc1 hp with rfl | hp
      · simp only; omega
      obtain rfl:=xm1 hp; simp only; omega) (fun q hq=>by cases hq) JK JK
     obtain ⟨hi2,hi3⟩:i=min (64*(t+1)) len∧(i=len∨i=64*t+64):=by omega
     have O:=HJ.own; have HS:=show Hid _ from (show HXI k c n z w (min (64*(t+1)) len) u9 wr from ⟨K0,by rw [← hi2]; exact O⟩); clear K0 O HJ HC hs hi2 hlt2
     have g5:(len:Int)≤(i:Int)∨(i:Int)=64*(t:Int)+64:=by omega
     rcases Nat.lt_or_ge i len with h | h
     · have g6:(i:Int)<(len:Int):=by omega
       have g7:¬ (i:Int)<64*(t:Int)+64:=by omega
       clear g5 hi3; go_wp2; exact Qq
     have g6:¬ (i:Int)<(len:Int):=by omega
     clear g5 hi3; go_wp2; exact Qq
  have g2:¬ 64*(t:Int)<(len:Int):=by omega
  have O:=HI.own; rw [show min (64*t) len=len by omega] at O; have hbl:=HI.K.below; obtain ⟨sp',cap',rfl,hno,hsr⟩:=O.isSlice; have HS:=show Hid _ from (Own.lower O (show w.heap.size≤w.heap.size+1+1 by omega)); clear HI O hsr; go_wp2; go_ret
  exact ⟨sp',cap',rfl,HS.out,hbl⟩
theorem rA (x:Nat) (w:World) :
 Calls Tryz.prog 115 #[.int .i64 (x:Int)] w fun e w'=>∃ v,e=.returned v∧Own w' w.heap.size 5 .u8 8 (dig x) v∧Below w.heap.size w w':=by
 go_enter Tryz.func115,Tryz.ntmps115
 go_upto_region 1 with fail; refine wR (xaL (w':=w.alloc (.cells #[] 5)) (.slice (some ⟨w.heap.size,0,none⟩) 0 0) JU ?_); refine xmL ?_; have K:=(Below.refl w.heap.size w).alloc (xnR _) (.cells #[] 5)
 have HO:Own (w.alloc (.cells #[] 5)) w.heap.size 5 .u8 0 (dig x) (.slice (some ⟨w.heap.size,0,none⟩) 0 0):=Own.lit w w.heap.size 5 .u8 0 (dig x) (xnR _) Jj
 generalize w.alloc (.cells #[] 5)=w0 at K HO ⊢; generalize Value.slice (some ⟨w.heap.size,0,none⟩) 0 0=v0 at HO ⊢; show Exit.then _ _ _ _ _; go_wp2
 go_loopw [3,4] (fun bw i w'=>∃ (n:Nat) (v:Value),n≤8∧i=.int .i64 (n:Int)∧v=bw∧Own w' w.heap.size 5 .u8 n (dig x) v∧Below w.heap.size w w') (fun _ i _=>8-(intOf i).toNat)
 case atStart=>exact ⟨0,_,by omega,rfl,rfl,HO,K⟩
 case round =>
  clear K HO; obtain ⟨n,v,hn,rfl,rfl,HO,K⟩:=hrel; have g1:(0:Int)≤(n:Int):=by omega
  by_cases hlt:n<8
  · have g2:(n:Int)<8:=by omega
    go_upto_region 5 with fail; refine wR (xm3 ?_); refine xqL (.int .i64 ((8*n:Nat):Int)) Jr ?_; refine xqL (.int .i64 ((x/256^n:Nat):Int)) (fun w=>q0f .i64 .i64 _ _ _ _ _ _ _ rfl rfl rfl JK (j2c x n hlt) w) ?_; refine xqL (.int .u8 (dig x n)) (fun w=>mZ .i64 .u8 _ _ _ _ _ rfl JU Tryz.underlying5 JU rfl (by rw [IntKind.wrap_u8']; unfold dig; omega) w) ?_; refine xaL (w':=wr.alloc (.cells #[.int .u8 (dig x n)] 5)) (.slice (some ⟨wr.heap.size,0,none⟩) 1 1) JU ?_; obtain ⟨v2,w2,hr,ho,hg⟩:=HO.more8 JK (dig x n) rfl 32 K.size; refine xaL v2 (jW _ _ 32 _ _ _ rfl rfl rfl hr) ?_; refine xmL ?_; have hb:=Below.grown (K.alloc K.size (.cells #[.int .u8 (dig x n)] 5)) hg GX (fun b hb=>(World.ownsRow.lt HO b hb).1); have HS:=show Hid _ from (And.intro ho hb); clear K HO hr ho hg hb
    show Exit.inBlock _ _ _ _ _
    go_wp2; go_roundw
    case rel=>first | exact ⟨n+1,v2,by omega,by go_num,rfl,HS.out⟩ | ((repeat apply Exists.intro); refine ⟨⟨n+1,v2,by omega,by go_num,rfl,HS.out⟩,rfl⟩)
    case measure=>simp [intOf]; omega
  obtain rfl:n=8:=by omega
  clear hlt hn g1; go_wp2; go_ret; exact ⟨v,rfl,HO,K⟩
theorem j0o (n:Nat):n≤yC n∧yC n≤n+15∧yC n%16=0:=by unfold yC; omega
theorem nM (sp:Option Addr) (len cap:Nat) (hlen:len≤35184372088832) (hnil:sp=none→cap=0) (z:Nat→Int) (w:World) (hs:Src w sp len z) :
 Calls Tryz.prog 114 #[.slice sp len cap] w fun e w'=>∃ v,e=.returned v∧Own w' w.heap.size 5 .u8 (yC len) (xJ len z) v∧Below w.heap.size w w':=by
 obtain ⟨hu1,hu2,hu3⟩:=j0o len
 go_enter Tryz.func114,Tryz.ntmps114
 go_upto_region 1 with fail; refine wR (xaL (w':=w.alloc (.cells #[] 5)) (.slice (some ⟨w.heap.size,0,none⟩) 0 0) JU ?_); refine xmL ?_; have K:=(Below.refl w.heap.size w).alloc (xnR _) (.cells #[] 5)
 have HO:Own (w.alloc (.cells #[] 5)) w.heap.size 5 .u8 0 (xJ len z) (.slice (some ⟨w.heap.size,0,none⟩) 0 0):=Own.lit w w.heap.size 5 .u8 0 (xJ len z) (xnR _) Jj
 obtain ⟨v,w1,hr,ho,hg,_⟩:=jH (P:=Tryz.prog) (ty:=32) Tryz.underlying32 vG HO sp len cap z (hs.below K (xnR _)) hnil Jj JK K.size
 have hb:=Below.grown K hg Jf (fun b hb=>(World.ownsRow.lt HO b hb).1); refine xaL v (jW _ _ 32 _ _ _ rfl rfl rfl hr) ?_; refine xmL ?_
 replace HO:Own w1 w.heap.size 5 .u8 len (xJ len z) v:=by
  rw [nZ] at ho; exact ho.congr fun j hj=>by unfold app xJ; rw [if_neg (xnZ j),if_pos hj,Nat.sub_zero]
 replace K:=hb; clear hr ho hg hb hs; show Exit.then _ _ _ _ _; go_wp2
 go_loopw [3] (fun ow w'=>∃ (n:Nat) (v:Value),v=ow∧len≤n∧n≤yC len∧Own w' w.heap.size 5 .u8 n (xJ len z) v∧Below w.heap.size w w') (fun ow _=>yC len-j5n ow)
 case atStart=>exact ⟨len,v,rfl,xnR _,hu1,HO,K⟩
 case round =>
  clear K HO; obtain ⟨n,v,rfl,hn1,hn2,HO,K⟩:=hrel; obtain ⟨ts,tc,rfl,_,_⟩:=HO.bytes; by_cases hm:n%16=0
  · have hm1:¬ 0<(n:Int)%16:=by omega
    have hm2:(n:Int)%16=0:=by omega
    have hm3:(n:Int).tmod 16=0:=by rw [Int.tmod_eq_emod_of_nonneg JK]; omega
    have HS:=show Hid _ from (show n=yC len by omega); clear hm hu1 hu2 hu3; go_wp2; go_ret
    exact ⟨_,rfl,by rw [← HS.out]; exact HO,K⟩
  have hm1:0<(n:Int)%16:=by omega
  have hm4:1≤(n:Int)%16:=by omega
  have hm3:(n:Int).tmod 16=(n:Int)%16:=Int.tmod_eq_emod_of_nonneg JK; go_upto_region 3 with fail; refine wR (xmL ?_); refine xaL (w':=wr.alloc (.cells #[.int .u8 0] 5)) (.slice (some ⟨wr.heap.size,0,none⟩) 1 1) JU ?_; obtain ⟨v2,w2,hr,ho,hg⟩:=HO.more8 JK 0 (by unfold xJ; rw [if_neg JK]) 32 K.size; refine xaL v2 (jW _ _ 32 _ _ _ rfl rfl rfl hr) ?_; refine xmL ?_; have hb:=Below.grown (K.alloc K.size (.cells #[.int .u8 0] 5)) hg GX (fun b hb=>(World.ownsRow.lt HO b hb).1); obtain ⟨ts2,tc2,rfl,_,_⟩:=ho.bytes; have HS:=show Hid _ from (And.intro ho hb); clear K HO hr ho hg hb hm1 hm4 hm3
  show Exit.inBlock _ _ _ _ _
  go_wp2; exact Zv
theorem cJ (k n:Nat→Int) (hk:In 256 32 k) (hn:In 256 12 n) (bp:Option Addr) (bl bc:Nat) (hbl:bl≤35184372088832) (hbn:bp=none→bc=0) (b:Nat→Int) (hb:In 256 bl b) (sp:Option Addr) (sl sc:Nat) (hsl:sl≤35184372088832) (hsn:sp=none→sc=0) (s:Nat→Int) (hs:In 256 sl s) (w:World) (hsb:Src w bp bl b) (hss:Src w sp sl s) :
 Calls Tryz.prog 97 #[(.agg (row .u8 32 (k)).toArray),(.agg (row .u8 12 (n)).toArray),.slice bp bl bc,.slice sp sl sc] w fun e w'=>e=.returned (.agg (row .u8 16 (zU k n bl b sl s)).toArray)∧Below w.heap.size w w':=by
 obtain ⟨ub1,ub2,_⟩:=j0o bl
 obtain ⟨us1,us2,_⟩:=j0o sl
 have K:=Kr.init w; replace K:=K.box .u8 32 k 23 (w.heap.size) rfl; replace K:=K.box .u8 12 n 96 (w.heap.size+1) Jf; replace K:=K.make 16 qR 120 (w.heap.size+1+1) Jf (xQ _ _ _ Jf).there
 go_enter Tryz.func97,Tryz.ntmps97
 go_upto_region 1 with fail; generalize (((w.alloc (.cells (row .u8 32 k).toArray 23)).alloc (.cells (row .u8 12 n).toArray 96)).alloc (.cells qR 120))=w0 at K ⊢; refine wR (ykL .u8 32 (k) (w.heap.size) 0 Tryz.underlying23 (jJ _) ((K.get _ _ _ _ (mT _ mS)).range) ?_)
 refine ykL .u8 12 (n) (w.heap.size+1) 0 Tryz.underlying96 (zL _) ((K.get _ _ _ _ mS).range) ?_; refine clT (fK k 0 n hk hn _) K ?_; clear K; intro w1 K; refine qH xL 134 rfl JW (nL ?_)
 refine ysL .u8 64 (yK k 0 n) w1.heap.size (jM (uT _ _ _ rfl).there) (gN _) ?_; have zS:=K.size; replace K:=K.fresh .u8 64 (yK k 0 n) xL 134 (uT _ _ _ rfl).there; generalize ((w1.alloc (.cells xL 134)).setCells w1.heap.size 0 (row .u8 64 (yK k 0 n)))=w2 at K ⊢; generalize w1.heap.size=S at *
 show Exit.then _ _ _ _ _; go_upto_region 2 with fail; refine wR (xpL (.agg (row .u8 32 (fun _=>0)).toArray) ?_); refine qH jY 23 rfl JW (nL ?_); refine ysL .u8 32 (fun _=>0) w2.heap.size (jM (jK _ _ _ rfl).there) (jV _) ?_; have zY:=K.size
 replace K:=K.fresh .u8 32 (fun _=>0) jY 23 (jK _ _ _ rfl).there; generalize ((w2.alloc (.cells jY 23)).setCells w2.heap.size 0 (row .u8 32 (fun _=>0)))=w3 at K ⊢; generalize w2.heap.size=Y at *; show Exit.then _ _ _ _ _; have hkk:=lB k 0 n 32; generalize hBe:yK k 0 n=B at *; go_wp2
 go_loopw [11] (fun i w'=>∃ (m:Nat) (f:Nat→Int),m≤32∧i=.int .i64 (m:Int)∧Kr w (Y+1) [(Y,.u8,32,f),(S,.u8,64,B)] [(w.heap.size+1+1,16)] w'∧∀ j,j<m→f j=B j) (fun i _=>32-(intOf i).toNat)
 case atStart=>exact ⟨0,_,by omega,rfl,K.sub _ WJ,fun j hj=>by omega⟩
 case round =>
  clear K; obtain ⟨m,f,hm,rfl,K,hd⟩:=hrel; have g1:(0:Int)≤(m:Int):=by omega
  by_cases hlt:m<32
  · have g2:(m:Int)<32:=by omega
    go_upto_region 6 with fail; refine wR (xm2 ?_); refine xqL (.pointer (some ⟨S,m,none⟩)) (fun w'=>x5e S m JK w' _ _ rfl rfl rfl) ?_; refine ycL (.int .u8 (B m)) S m Tryz.underlying5 ((K.get _ _ _ _ (mT _ mS)).cell m JK) ?_; refine xqL (.pointer (some ⟨Y,m,none⟩)) (fun w'=>q4y Y m hlt w' _ _ rfl rfl rfl) ?_; refine ywL .u8 (B m) Y m (by rw [(K.get _ _ _ _ mS).cell m hlt]; rfl) ((K.get _ _ _ _ mS).free m hlt) JU ?_; replace K:=K.setCell [(S,.u8,64,B)] Y .u8 32 f m hlt (B m) mS Jx Jv JK; have HS:=show Hid _ from (And.intro K (show ∀ j,j<m+1→upd f m (B m) j=B j from fun j hj=>by
     by_cases e:j=m
     · exact Zz
     rw [jR _ _ _ _ e]; exact hd j JK))
    clear K hd; generalize wr.setCell ⟨Y,m,none⟩ (.int .u8 (B m))=w4 at HS ⊢; generalize upd f m (B m)=f' at HS; show Exit.inBlock _ _ _ _ _
    go_wp2; go_roundw
    case rel=>first | exact ⟨m+1,f',by omega,by go_num,HS.out⟩ | ((repeat apply Exists.intro); refine ⟨⟨m+1,f',by omega,by go_num,HS.out⟩,rfl⟩)
    case measure=>simp [intOf]; omega
  obtain rfl:m=32:=by omega
  replace K:=K.congr B (fun j hj=>hd j hj); replace K:=K.sub [(Y,.u8,32,B)] (fun p hp=>by obtain rfl:=xm1 hp; exact mS); clear hd hlt hm g1; go_upto_region 7 with fail; refine wR (xmL ?_); refine xcL (nM bp bl bc hbl hbn b _ (hsb.below K.below (xnR _))) ?_; rintro e w5 ⟨P1v,rfl,P1,l⟩; replace P1:=P1.lower K.size; replace K:=K.call l; clear l; refine xeL ?_; refine xmL ?_; refine xcL (nM sp sl sc hsl hsn s _ (hss.below K.below (xnR _))) ?_; rintro e w6 ⟨P2v,rfl,P2,l⟩; replace P2:=P2.lower K.size; replace K:=K.call l; replace P1:=P1.below l; clear l; refine xeL ?_; obtain ⟨q2,c2,rfl,hq1,hq2⟩:=P2.bytes; obtain ⟨v7,w7,hr,ho,hg,_⟩:=jH (P:=Tryz.prog) (ty:=32) Tryz.underlying32 vG P1 q2 (yC sl) c2 (xJ sl s) hq2 P2.nilCap Jj JK K.size; refine xaL v7 (jW _ _ 32 _ _ _ rfl rfl rfl hr) ?_; refine xmL ?_; replace K:=K.grown hg (fun b hb=>(World.ownsRow.lt P1 b hb).1); replace P1:=ho; clear hr ho hg hq1 hq2 P2; show Exit.then _ _ _ _ _; go_upto_region 8 with fail; refine wR (xm2 ?_)
  refine xqL _ Jk ?_; refine xcL (rA bl _) ?_; rintro e w8 ⟨p8,rfl,P8,l⟩; replace P8:=P8.lower K.size; replace K:=K.call l; replace P1:=P1.below l; clear l; refine xeL ?_; obtain ⟨q2,c2,rfl,hq1,hq2⟩:=P8.bytes; obtain ⟨v9,w9,hr,ho,hg,_⟩:=jH (P:=Tryz.prog) (ty:=32) Tryz.underlying32 vG P1 q2 (8) c2 (dig bl) hq2 P8.nilCap Jj JK K.size; refine xaL v9 (jW _ _ 32 _ _ _ rfl rfl rfl hr) ?_; refine xmL ?_; replace K:=K.grown hg (fun b hb=>(World.ownsRow.lt P1 b hb).1); replace P1:=ho; clear hr ho hg hq1 hq2 P8; show Exit.then _ _ _ _ _; go_upto_region 9 with fail; refine wR (xm2 ?_)
  refine xqL _ Jk ?_; refine xcL (rA sl _) ?_; rintro e w10 ⟨p8,rfl,P8,l⟩; replace P8:=P8.lower K.size; replace K:=K.call l; replace P1:=P1.below l; clear l; refine xeL ?_; obtain ⟨q2,c2,rfl,hq1,hq2⟩:=P8.bytes; obtain ⟨v11,w11,hr,ho,hg,_⟩:=jH (P:=Tryz.prog) (ty:=32) Tryz.underlying32 vG P1 q2 (8) c2 (dig sl) hq2 P8.nilCap Jj JK K.size; refine xaL v11 (jW _ _ 32 _ _ _ rfl rfl rfl hr) ?_; refine xmL ?_; replace K:=K.grown hg (fun b hb=>(World.ownsRow.lt P1 b hb).1); replace P1:=ho; clear hr ho hg hq1 hq2 P8; show Exit.then _ _ _ _ _
  obtain ⟨q3,c3,rfl,hq1,hq2⟩:=P1.bytes; clear P1; go_upto_region 10 with fail; refine wR (ykL .u8 32 (B) (Y) 0 Tryz.underlying23 (jJ _) ((K.get _ _ _ _ mS).range) ?_); refine xmL ?_; refine xcL (j5v B hkk q3 (yC bl+yC sl+8+8) c3 JK hq1 (amx bl b sl s) (q6z bl b sl s hb hs) _ hq2) ?_; rintro e w12 ⟨f2,rfl,⟨hf1,hf2⟩,l⟩; replace K:=K.call l; clear l; refine xeL ?_; have HE:=show Hid _ from (show row .u8 16 f2=row .u8 16 (dig (cH B (amt bl sl) (amx bl b sl s)).toNat) from yV .u8 16 (fun j hj=>by
   have h0:0≤cH B (amt bl sl) (amx bl b sl s)∧cH B (amt bl sl) (amx bl b sl s)<340282366920938463463374607431768211456:=by
    unfold cH; generalize acc _ _ _ _%Q+pS _=y; omega
   exact hH 256 JG f2 _ 16 hf1 (rJ _ _) (by rw [hf2,lV,show (256:Nat)^16=340282366920938463463374607431768211456 from by decide]; show cH B (amt bl sl) (amx bl b sl s)=_; omega) j hj))
  have hz':=(K.room _ mS).1; refine ysL .u8 16 f2 (w.heap.size+1+1) (jM hz') (xM _) ?_; have hB:=(K.fill _ _ mS (row .u8 16 f2)).below; clear K hf1 hf2 hq1 hq2; show Exit.then _ _ _ _ _; go_wp2
  exact bRq (v:=(.agg (row .u8 16 (f2)).toArray)) (jQ Tryz.results97 rfl (Has.all hz' .u8 f2).range Tryz.underlying120 rfl (xP f2)) rfl ⟨by rw [HE.out,← hBe]; rfl,hB⟩
end Go.Proofs.YtknodlefhclijaaGreatDoor
