/- Texts of Bs Mw Bp Az Bb Bu Vl, joined. -/
import Derived.Test.YtknodlefhclijaaGreatDoorP3ShakePlays
set_option maxRecDepth 20000
set_option maxHeartbeats 64000000
namespace Go.Proofs.YtknodlefhclijaaGreatDoor
open Go.RowKit
theorem rE (w:World) :
 Calls Tryz.prog 111 #[] w fun e w'=>∃ B,e=.returned (.slice (some ⟨B,0,none⟩) 8 8)∧(w.heap.size≤B∧B<w'.heap.size∧Has w' B .u32 8 iv)∧Below w.heap.size w w':=by
 have H:=Has.new w .u32 8 iv 118 w.heap.size rfl; have hb:=(Below.refl w.heap.size w).alloc (xnR _) (.cells (row .u32 8 iv).toArray 118); have hz:=mM w (.cells (row .u32 8 iv).toArray 118)
 go_enter Tryz.func111,Tryz.ntmps111
 go_upto_region 1 with fail; refine wR (xaL (w':=w.alloc (.cells (row .u32 8 iv).toArray 118)) (.slice (some ⟨w.heap.size,0,none⟩) 8 8) JU ?_); refine xmL ?_; show Exit.then _ _ _ _ _; generalize w.alloc (.cells (row .u32 8 iv).toArray 118)=w1 at H hb hz ⊢; go_wp2; go_ret
 exact ⟨w.heap.size,rfl,⟨xnR _,by omega,H⟩,hb⟩
structure SGT (w':World) (O:Nat) (bs:Nat→Nat):Prop where
 top:∀ r,r<10→w'.cell? ⟨O,r,none⟩=some (.slice (some ⟨bs r,0,none⟩) 16 16)
 rows:∀ r,r<10→Has w' (bs r) .i64 16 (fun i=>((sg r i:Nat):Int))∧bs r<w'.heap.size
 lt:O<w'.heap.size
theorem SGT.below {w w':World} {O:Nat} {bs:Nat→Nat} (h:SGT w O bs) {B:Nat} (l:Below B w w') (hB:w.heap.size≤B):SGT w' O bs :=
 ⟨fun r hr=>by rw [l.cell (p:=⟨O,r,none⟩) (xnL h.lt hB)]; exact h.top r hr,fun r hr=>⟨(h.rows r hr).1.below l (xnL (h.rows r hr).2 hB),xnL (h.rows r hr).2 l.size⟩,xnL h.lt l.size⟩
theorem nT (w:World) :
 Calls Tryz.prog 132 #[] w fun e w'=>∃ O bs,e=.returned (.slice (some ⟨O,0,none⟩) 10 10)∧(w.heap.size≤O∧(∀ r,r<10→w.heap.size≤bs r)∧SGT w' O bs)∧Below w.heap.size w w':=by
 have K:=Kr.init w
 go_enter Tryz.func132,Tryz.ntmps132
 go_upto_region 1 with fail; refine wR ?_; refine sS (w':=w.alloc (.cells (row .i64 16 (fun i=>((sg 0 i:Nat):Int))).toArray 3)) (.slice (some ⟨w.heap.size,0,none⟩) 16 16) rfl JU (nL ?_); have z0:=K.size; replace K:=K.box .i64 16 (fun i=>((sg 0 i:Nat):Int)) 3 w.heap.size rfl
 generalize w.alloc (.cells (row .i64 16 (fun i=>((sg 0 i:Nat):Int))).toArray 3)=w0 at K ⊢; refine sS (w':=w0.alloc (.cells (row .i64 16 (fun i=>((sg 1 i:Nat):Int))).toArray 3)) (.slice (some ⟨w0.heap.size,0,none⟩) 16 16) rfl JU (nL ?_); have z1:=K.size; replace K:=K.box .i64 16 (fun i=>((sg 1 i:Nat):Int)) 3 w0.heap.size rfl
 generalize w0.alloc (.cells (row .i64 16 (fun i=>((sg 1 i:Nat):Int))).toArray 3)=w1 at K ⊢; generalize w0.heap.size=B1 at K z1 ⊢; refine sS (w':=w1.alloc (.cells (row .i64 16 (fun i=>((sg 2 i:Nat):Int))).toArray 3)) (.slice (some ⟨w1.heap.size,0,none⟩) 16 16) rfl JU (nL ?_); have z2:=K.size
 replace K:=K.box .i64 16 (fun i=>((sg 2 i:Nat):Int)) 3 w1.heap.size rfl; generalize w1.alloc (.cells (row .i64 16 (fun i=>((sg 2 i:Nat):Int))).toArray 3)=w2 at K ⊢; generalize w1.heap.size=B2 at K z2 ⊢; refine sS (w':=w2.alloc (.cells (row .i64 16 (fun i=>((sg 3 i:Nat):Int))).toArray 3)) (.slice (some ⟨w2.heap.size,0,none⟩) 16 16) rfl JU (nL ?_)
 have z3:=K.size; replace K:=K.box .i64 16 (fun i=>((sg 3 i:Nat):Int)) 3 w2.heap.size rfl; generalize w2.alloc (.cells (row .i64 16 (fun i=>((sg 3 i:Nat):Int))).toArray 3)=w3 at K ⊢; generalize w2.heap.size=B3 at K z3 ⊢
 refine sS (w':=w3.alloc (.cells (row .i64 16 (fun i=>((sg 4 i:Nat):Int))).toArray 3)) (.slice (some ⟨w3.heap.size,0,none⟩) 16 16) rfl JU (nL ?_); have z4:=K.size; replace K:=K.box .i64 16 (fun i=>((sg 4 i:Nat):Int)) 3 w3.heap.size rfl; generalize w3.alloc (.cells (row .i64 16 (fun i=>((sg 4 i:Nat):Int))).toArray 3)=w4 at K ⊢
 generalize w3.heap.size=B4 at K z4 ⊢; refine sS (w':=w4.alloc (.cells (row .i64 16 (fun i=>((sg 5 i:Nat):Int))).toArray 3)) (.slice (some ⟨w4.heap.size,0,none⟩) 16 16) rfl JU (nL ?_); have z5:=K.size; replace K:=K.box .i64 16 (fun i=>((sg 5 i:Nat):Int)) 3 w4.heap.size rfl
 generalize w4.alloc (.cells (row .i64 16 (fun i=>((sg 5 i:Nat):Int))).toArray 3)=w5 at K ⊢; generalize w4.heap.size=B5 at K z5 ⊢; refine sS (w':=w5.alloc (.cells (row .i64 16 (fun i=>((sg 6 i:Nat):Int))).toArray 3)) (.slice (some ⟨w5.heap.size,0,none⟩) 16 16) rfl JU (nL ?_); have z6:=K.size
 replace K:=K.box .i64 16 (fun i=>((sg 6 i:Nat):Int)) 3 w5.heap.size rfl; generalize w5.alloc (.cells (row .i64 16 (fun i=>((sg 6 i:Nat):Int))).toArray 3)=w6 at K ⊢; generalize w5.heap.size=B6 at K z6 ⊢; refine sS (w':=w6.alloc (.cells (row .i64 16 (fun i=>((sg 7 i:Nat):Int))).toArray 3)) (.slice (some ⟨w6.heap.size,0,none⟩) 16 16) rfl JU (nL ?_)
 have z7:=K.size; replace K:=K.box .i64 16 (fun i=>((sg 7 i:Nat):Int)) 3 w6.heap.size rfl; generalize w6.alloc (.cells (row .i64 16 (fun i=>((sg 7 i:Nat):Int))).toArray 3)=w7 at K ⊢; generalize w6.heap.size=B7 at K z7 ⊢
 refine sS (w':=w7.alloc (.cells (row .i64 16 (fun i=>((sg 8 i:Nat):Int))).toArray 3)) (.slice (some ⟨w7.heap.size,0,none⟩) 16 16) rfl JU (nL ?_); have z8:=K.size; replace K:=K.box .i64 16 (fun i=>((sg 8 i:Nat):Int)) 3 w7.heap.size rfl; generalize w7.alloc (.cells (row .i64 16 (fun i=>((sg 8 i:Nat):Int))).toArray 3)=w8 at K ⊢
 generalize w7.heap.size=B8 at K z8 ⊢; refine sS (w':=w8.alloc (.cells (row .i64 16 (fun i=>((sg 9 i:Nat):Int))).toArray 3)) (.slice (some ⟨w8.heap.size,0,none⟩) 16 16) rfl JU (nL ?_); have z9:=K.size; replace K:=K.box .i64 16 (fun i=>((sg 9 i:Nat):Int)) 3 w8.heap.size rfl
 generalize w8.alloc (.cells (row .i64 16 (fun i=>((sg 9 i:Nat):Int))).toArray 3)=w9 at K ⊢; generalize w8.heap.size=B9 at K z9 ⊢
 refine xaL (w':=w9.alloc (.cells #[.slice (some ⟨w.heap.size,0,none⟩) 16 16,.slice (some ⟨B1,0,none⟩) 16 16,.slice (some ⟨B2,0,none⟩) 16 16,.slice (some ⟨B3,0,none⟩) 16 16,.slice (some ⟨B4,0,none⟩) 16 16,.slice (some ⟨B5,0,none⟩) 16 16,.slice (some ⟨B6,0,none⟩) 16 16,.slice (some ⟨B7,0,none⟩) 16 16,.slice (some ⟨B8,0,none⟩) 16 16,.slice (some ⟨B9,0,none⟩) 16 16] 113)) (.slice (some ⟨w9.heap.size,0,none⟩) 10 10) JU ?_
 refine xmL ?_
 have K2:=K.call ((Below.refl w9.heap.size w9).alloc (xnR _) (.cells #[.slice (some ⟨w.heap.size,0,none⟩) 16 16,.slice (some ⟨B1,0,none⟩) 16 16,.slice (some ⟨B2,0,none⟩) 16 16,.slice (some ⟨B3,0,none⟩) 16 16,.slice (some ⟨B4,0,none⟩) 16 16,.slice (some ⟨B5,0,none⟩) 16 16,.slice (some ⟨B6,0,none⟩) 16 16,.slice (some ⟨B7,0,none⟩) 16 16,.slice (some ⟨B8,0,none⟩) 16 16,.slice (some ⟨B9,0,none⟩) 16 16] 113))
 have hc:∀ i,(w9.alloc (.cells #[.slice (some ⟨w.heap.size,0,none⟩) 16 16,.slice (some ⟨B1,0,none⟩) 16 16,.slice (some ⟨B2,0,none⟩) 16 16,.slice (some ⟨B3,0,none⟩) 16 16,.slice (some ⟨B4,0,none⟩) 16 16,.slice (some ⟨B5,0,none⟩) 16 16,.slice (some ⟨B6,0,none⟩) 16 16,.slice (some ⟨B7,0,none⟩) 16 16,.slice (some ⟨B8,0,none⟩) 16 16,.slice (some ⟨B9,0,none⟩) 16 16] 113)).cell? ⟨w9.heap.size,i,none⟩=#[.slice (some ⟨w.heap.size,0,none⟩) 16 16,.slice (some ⟨B1,0,none⟩) 16 16,.slice (some ⟨B2,0,none⟩) 16 16,.slice (some ⟨B3,0,none⟩) 16 16,.slice (some ⟨B4,0,none⟩) 16 16,.slice (some ⟨B5,0,none⟩) 16 16,.slice (some ⟨B6,0,none⟩) 16 16,.slice (some ⟨B7,0,none⟩) 16 16,.slice (some ⟨B8,0,none⟩) 16 16,.slice (some ⟨B9,0,none⟩) 16 16][i]?:=fun i=>World.cell?_alloc_at _ _ _ _ rfl
 have hz:=mM w9 (.cells #[.slice (some ⟨w.heap.size,0,none⟩) 16 16,.slice (some ⟨B1,0,none⟩) 16 16,.slice (some ⟨B2,0,none⟩) 16 16,.slice (some ⟨B3,0,none⟩) 16 16,.slice (some ⟨B4,0,none⟩) 16 16,.slice (some ⟨B5,0,none⟩) 16 16,.slice (some ⟨B6,0,none⟩) 16 16,.slice (some ⟨B7,0,none⟩) 16 16,.slice (some ⟨B8,0,none⟩) 16 16,.slice (some ⟨B9,0,none⟩) 16 16] 113)
 generalize w9.alloc (.cells #[.slice (some ⟨w.heap.size,0,none⟩) 16 16,.slice (some ⟨B1,0,none⟩) 16 16,.slice (some ⟨B2,0,none⟩) 16 16,.slice (some ⟨B3,0,none⟩) 16 16,.slice (some ⟨B4,0,none⟩) 16 16,.slice (some ⟨B5,0,none⟩) 16 16,.slice (some ⟨B6,0,none⟩) 16 16,.slice (some ⟨B7,0,none⟩) 16 16,.slice (some ⟨B8,0,none⟩) 16 16,.slice (some ⟨B9,0,none⟩) 16 16] 113)=w10 at K2 hc hz ⊢
 have hs9:=K.size; have hb9:=K.base; clear K; show Exit.then _ _ _ _ _
 have hS:SGT w10 w9.heap.size (fun r=>[w.heap.size,B1,B2,B3,B4,B5,B6,B7,B8,B9].getD r 0):=⟨fun r hr=>by
  rw [hc]
  match r,hr with
  | 0,_ | 1,_ | 2,_ | 3,_ | 4,_ | 5,_ | 6,_ | 7,_ | 8,_ | 9,_=>rfl,fun r hr=>by
  match r,hr with
  | 0,_=>exact ⟨K2.get _ _ _ _ (mI 9 rfl),by show w.heap.size<w10.heap.size; omega⟩
  | 1,_=>exact ⟨K2.get _ _ _ _ (mI 8 rfl),by show B1<w10.heap.size; omega⟩
  | 2,_=>exact ⟨K2.get _ _ _ _ (mI 7 rfl),by show B2<w10.heap.size; omega⟩
  | 3,_=>exact ⟨K2.get _ _ _ _ (mI 6 rfl),by show B3<w10.heap.size; omega⟩
  | 4,_=>exact ⟨K2.get _ _ _ _ (mI 5 rfl),by show B4<w10.heap.size; omega⟩
  | 5,_=>exact ⟨K2.get _ _ _ _ (mI 4 rfl),by show B5<w10.heap.size; omega⟩
  | 6,_=>exact ⟨K2.get _ _ _ _ (mI 3 rfl),by show B6<w10.heap.size; omega⟩
  | 7,_=>exact ⟨K2.get _ _ _ _ (mI 2 rfl),by show B7<w10.heap.size; omega⟩
  | 8,_=>exact ⟨K2.get _ _ _ _ (mT _ mS),by show B8<w10.heap.size; omega⟩
  | 9,_=>exact ⟨K2.get _ _ _ _ mS,by show B9<w10.heap.size; omega⟩,by omega⟩
 have hB:=K2.below
 have hge:∀ r,r<10→w.heap.size≤[w.heap.size,B1,B2,B3,B4,B5,B6,B7,B8,B9].getD r 0:=fun r hr=>by
  match r,hr with
  | 0,_=>show w.heap.size≤w.heap.size; omega
  | 1,_=>show w.heap.size≤B1; omega
  | 2,_=>show w.heap.size≤B2; omega
  | 3,_=>show w.heap.size≤B3; omega
  | 4,_=>show w.heap.size≤B4; omega
  | 5,_=>show w.heap.size≤B5; omega
  | 6,_=>show w.heap.size≤B6; omega
  | 7,_=>show w.heap.size≤B7; omega
  | 8,_=>show w.heap.size≤B8; omega
  | 9,_=>show w.heap.size≤B9; omega
 clear K2 hc; go_wp2; go_ret
 exact ⟨w9.heap.size,_,rfl,⟨by omega,hge,hS⟩,hB⟩
theorem j3v:One Tryz.prog 118 .u32 4:=⟨by kernel_rfl⟩
theorem fZ (b len cap i:Nat) (hi:i<len) (w:World) {o:Oper} {a:Act} (x y:Operand) (ho:o.op=.indexAddr 131 x y) (hx:a.eval x=.slice (some ⟨b,0,none⟩) len cap) (hy:a.eval y=.int .i64 (i:Int)) :
 (execOp a.eval o).run Tryz.prog w=.ok (.value (.pointer (some ⟨b,i,none⟩))) w:=by
 have h:=mX (P:=Tryz.prog) 131 118 len cap .i64 ⟨b,0,none⟩ i x y Tryz.underlying131 JW hi ho hx hy w
 exact Xh
theorem j9j {P:Program} {o:Oper} {a:Act} (k yk:IntKind) (n y r:Int) (t t':TypeId) (x x':Operand) (ho:o.op=.binOp .shl t x x' t') (hx:a.eval x=.int k n) (hy:a.eval x'=.int yk y) (h0:0≤y) (hr:k.wrap (n*2^min y.toNat k.bits)=r) (w:World):(execOp a.eval o).run P w=.ok (.value (.int k r)) w:=by
 exact Xw
theorem orW {P:Program} {o:Oper} {a:Act} (k:IntKind) (n n' r:Int) (t t':TypeId) (x y:Operand) (ho:o.op=.binOp .or t x y t') (hx:a.eval x=.int k n) (hy:a.eval y=.int k n') (hr:bits .or k n n'=r) (w:World):(execOp a.eval o).run P w=.ok (.value (.int k r)) w:=by
 unfold execOp
 simp only [ho,hx,hy,Sem.run_bind,eqGuard_at_int,binOp_or,intBits_or,Sem.run_pure,xO,hr]
theorem Own.more32 {w':World} {base m:Nat} {f:Nat→Int} {s:Value} (h:Own w' base 118 .u32 m f s) (hm:m<4294967296) (x:Int) (hx:f m=x) (ty:TypeId) (hb:base≤w'.heap.size) :
 ∃ v w'',(Builtin.append_ #[131,131] ty #[s,.slice (some ⟨w'.heap.size,0,none⟩) 1 1]).run Tryz.prog (w'.alloc (.cells #[.int .u32 x] 118))=.ok v w''∧Own w'' base 118 .u32 (m+1) f v∧(w'.alloc (.cells #[.int .u32 x] 118)).grownBy w'' s.ownBlock:=by
 have H1:=Has.new w' .u32 1 (fun _=>x) 118 w'.heap.size rfl
 obtain ⟨v,w'',hr,ho,hg,_⟩:=jH (P:=Tryz.prog) (ty:=ty) Tryz.underlying131 j3v (h.alloc (.cells (row .u32 1 (fun _=>x)).toArray 118)) (some ⟨w'.heap.size,0,none⟩) 1 1 (fun _=>x) (fun j hj=>⟨_,rfl,by rw [Addr.add_mid,nZ]; exact H1.cell j hj⟩) Jq Jj JK Ji
 refine ⟨v,w'',hr,ho.congr fun j hj=>?_,hg⟩
 unfold app
 by_cases e:j<m
 · rw [if_pos e]
 rw [if_neg e,← hx,show j=m by omega]
theorem q8y (ad:Addr) (cap i:Nat) (hi:i<64) (w:World) {o:Oper} {a:Act} (x y:Operand) (ho:o.op=.indexAddr 32 x y) (hx:a.eval x=.slice (some ad) 64 cap) (hy:a.eval y=.int .i64 (i:Int)) :
 (execOp a.eval o).run Tryz.prog w=.ok (.value (.pointer (some (ad.add i)))) w :=
 mX (P:=Tryz.prog) 32 5 64 cap .i64 ad i x y Tryz.underlying32 JW hi ho hx hy w
theorem q1q (z:Nat→Int) (hz:In 256 64 z) (n:Nat) (hn:n<16) :
 bits .or .u32 (bits .or .u32 (bits .or .u32 (z (4*n)%4294967296) (z (4*n+1)%4294967296*256%4294967296)) (z (4*n+2)%4294967296*65536%4294967296)) (z (4*n+3)%4294967296*16777216%4294967296)=bpw z n :=
 j1z _ _ _ _ (hz _ JK) (hz _ JK) (hz _ JK) (hz _ JK)
theorem x7a {P:Program} {o:Oper} {a:Act} (k:IntKind) (n n' r:Int) (t t':TypeId) (x y:Operand) (ho:o.op=.binOp .and t x y t') (hx:a.eval x=.int k n) (hy:a.eval y=.int k n') (hr:bits .and k n n'=r) (w:World):(execOp a.eval o).run P w=.ok (.value (.int k r)) w:=by
 unfold execOp
 simp only [ho,hx,hy,Sem.run_bind,eqGuard_at_int,binOp_and,intBits_and,Sem.run_pure,xO,hr]
theorem x4t {P:Program} {o:Oper} {a:Act} (k:IntKind) (n r:Int) (t:TypeId) (x:Operand) (ho:o.op=.unOp .xor t x) (hx:a.eval x=.int k n) (hr:bits .xor k (if k.signed then -1 else k.max) n=r) (w:World):(execOp a.eval o).run P w=.ok (.value (.int k r)) w:=by
 unfold execOp
 simp only [ho,hx,unary_xor,intBits_xor,Sem.run_bind,Sem.run_pure,xO,hr]
theorem q9r (t:Int) (ht:0≤t∧t<18446744073709551616):bits .and .u64 t 4294967295=t%4294967296:=by
 obtain ⟨t,rfl⟩:=xiN ht.1
 have h:=u64_and_nat t 4294967295 JK JG
 have e:t &&& 4294967295=t%4294967296:=Nat.and_two_pow_sub_one_eq_mod t 32
 rw [e] at h
 exact h.trans JK
theorem q6f (h:Nat→Int) (t:Int) (f:Nat→Int) (last:Bool) (he:∀ j,f j=upd (upd (app h 8 iv) 12 (hxr (iv 4) (t%4294967296))) 13 (hxr (iv 5) (t/4294967296%4294967296)) j):∀ j,j<16→(if last then upd f 14 (4294967295-iv 6) else f) j=bst h t last j:=fun j hj=>by
 have e14:bst h t last 14=if last then 4294967295-iv 6 else iv 6:=rfl
 have hne:j≠14→f j=bst h t last j:=fun e=>by
  rw [he j]
  match j,hj,e with
  | 0,_,_ | 1,_,_ | 2,_,_ | 3,_,_ | 4,_,_ | 5,_,_ | 6,_,_ | 7,_,_ | 8,_,_ | 9,_,_ | 10,_,_ | 11,_,_ | 12,_,_ | 13,_,_ | 15,_,_=>rfl
  | 14,_,e=>exact absurd rfl e
  | _+16,hj,_=>omega
 have h14:f 14=iv 6:=he 14
 by_cases e:j=14
 · subst e
   rw [e14]
   cases last
   · rw [if_neg JG,if_neg JG]; exact h14
   · rw [if_pos rfl,if_pos rfl,jP]
 · cases last
   · rw [if_neg JG]; exact hne e
   · rw [if_pos rfl,jR _ _ _ _ e]; exact hne e
structure PI (z:Nat→Int) (w:World) (X M O:Nat) (bs:Nat→Nat) (f:Nat→Int) (w':World):Prop where
 has:Has w' X .u32 16 f
 hm:Has w' M .u32 16 (bpw z)
 sg:SGT w' O bs
 lt:X<w'.heap.size
 ltM:M<w'.heap.size
 below:Below w.heap.size w w'
theorem PI.call {z:Nat→Int} {w w' w'':World} {X M O:Nat} {bs:Nat→Nat} {f:Nat→Int} (h:PI z w X M O bs f w') (l:Below w'.heap.size w' w''):PI z w X M O bs f w'' :=
 ⟨h.has.below l h.lt,h.hm.below l h.ltM,h.sg.below l (xnR _),xnL h.lt l.size,xnL h.ltM l.size,h.below.trans (l.mono h.below.size)⟩
theorem PI.drew {z:Nat→Int} {w w':World} {X M O:Nat} {bs:Nat→Nat} {f:Nat→Int} (h:PI z w X M O bs f w'):PI z w X M O bs f w'.drew:=h.call (Below.refl _ _).drew
theorem PI.mix {z:Nat→Int} {w w' w'':World} {X M O:Nat} {bs:Nat→Nat} {f f':Nat→Int} (h:PI z w X M O bs f w') (g:MI w' X f' w'') (hX0:w.heap.size≤X) (hXM:M<X) (hXO:X<O) (hXb:∀ r,r<10→X<bs r):PI z w X M O bs f' w'' :=
 ⟨g.has,h.hm.grown g.gr h.ltM (fun e=>by injection e with e; omega),⟨fun r hr=>by rw [World.cell?_of_block (a:=⟨O,r,none⟩) (g.gr.block O h.sg.lt (fun e=>by injection e with e; omega))]; exact h.sg.top r hr,fun r hr=>⟨(h.sg.rows r hr).1.grown g.gr (h.sg.rows r hr).2 (fun e=>by injection e with e; have:=hXb r hr; omega),xnL (h.sg.rows r hr).2 g.gr.size⟩,xnL h.sg.lt g.gr.size⟩,
  xnL h.lt g.gr.size,xnL h.ltM g.gr.size,Below.grown h.below g.gr h.below.size (fun b hb=>by injection hb with hb; omega)⟩
structure PM (z:Nat→Int) (w:World) (M O:Nat) (bs:Nat→Nat) (w':World):Prop where
 hm:Has w' M .u32 16 (bpw z)
 sg:SGT w' O bs
 ltM:M<w'.heap.size
 below:Below w.heap.size w w'
theorem PI.pm {z:Nat→Int} {w w':World} {X M O:Nat} {bs:Nat→Nat} {f:Nat→Int} (h:PI z w X M O bs f w'):PM z w M O bs w':=⟨h.hm,h.sg,h.ltM,h.below⟩
theorem x6c (m:Nat→Int) (s:Nat→Nat) (v:Nat→Int) (q:Nat) (hq:q<4):bAt m s v q=bMx v q (4+q) (8+q) (12+q) (m (s (2*q))) (m (s (2*q+1))):=by
 match q,hq with
 | 0,_ | 1,_ | 2,_ | 3,_=>rfl
theorem x6d (m:Nat→Int) (s:Nat→Nat) (v:Nat→Int) (q:Nat) (hq:q<4):bAt m s v (4+q)=bMx v q (4+(q+1)%4) (8+(q+2)%4) (12+(q+3)%4) (m (s (8+2*q))) (m (s (9+2*q))):=by
 match q,hq with
 | 0,_ | 1,_ | 2,_ | 3,_=>rfl
theorem j4i (b i:Nat) (hi:i<16) (w:World) {o:Oper} {a:Act} (x y:Operand) (ho:o.op=.indexAddr 113 x y) (hx:a.eval x=.slice (some ⟨b,0,none⟩) 16 16) (hy:a.eval y=.int .i64 (i:Int)) :
 (execOp a.eval o).run Tryz.prog w=.ok (.value (.pointer (some ⟨b,i,none⟩))) w:=by
 have h:=mX (P:=Tryz.prog) 113 3 16 16 .i64 ⟨b,0,none⟩ i x y Tryz.underlying113 JW hi ho hx hy w
 exact Xh
theorem x0p (b i:Nat) (hi:i<10) (w:World) {o:Oper} {a:Act} (x y:Operand) (ho:o.op=.indexAddr 150 x y) (hx:a.eval x=.slice (some ⟨b,0,none⟩) 10 10) (hy:a.eval y=.int .i64 (i:Int)) :
 (execOp a.eval o).run Tryz.prog w=.ok (.value (.pointer (some ⟨b,i,none⟩))) w:=by
 have h:=mX (P:=Tryz.prog) 150 113 10 10 .i64 ⟨b,0,none⟩ i x y Tryz.underlying150 JW hi ho hx hy w
 exact Xh
theorem j9k {P:Program} {o:Oper} {a:Act} {w:World} (ty e:TypeId) (x:Operand) (p:Addr) (v:Value) (ho:o.op=.load ty x) (hx:a.eval x=.pointer (some p)) (hu:P.underlying ty=some (.slice e)) (hc:w.cell? p=some v):(execOp a.eval o).run P w=.ok (.value v) w:=by
 have hagg:(isAgg ty).run P w=.ok false w:=by
  exact Zu
 exact ZU
theorem j1j (h:Nat→Int) (hh:In V 8 h) (A capA:Nat) (sp:Option Addr) (capP:Nat) (z:Nat→Int) (hz:In 256 64 z) (t:Int) (ht:0≤t∧t<18446744073709551616) (last:Bool) (w:World) (hA:Has w A .u32 8 h) (hAl:A<w.heap.size) (hs:Src w sp 64 z) :
 Calls Tryz.prog 112 #[.slice (some ⟨A,0,none⟩) 8 capA,.slice sp 64 capP,.int .u64 t,.bool last] w fun e w'=>∃ O cap,e=.returned (.slice (some ⟨O,0,none⟩) 8 cap)∧(w.heap.size≤O∧O<w'.heap.size∧Has w' O .u32 8 (bpr h z t last))∧Below w.heap.size w w':=by
 obtain ⟨ad,rfl,_⟩:=hs 0 JK
 have hsrc:∀ j,j<64→∀ w',Below w.heap.size w w'→w'.cell? (ad.add j)=some (.int .u8 (z j)):=fun j hj w' l=>by
  obtain ⟨ad',e,hc⟩:=hs j hj; injection e with e
  subst e; rw [l.cell (p:=ad.add j) (World.block_lt_of_cell? w _ hc)]; exact hc
 clear hs
 go_enter Tryz.func112,Tryz.ntmps112
 go_upto_region 1 with fail; refine wR (xaL (w':=w.alloc (.cells #[] 118)) (.slice (some ⟨w.heap.size,0,none⟩) 0 0) JU ?_); refine xmL ?_; have K:=(Below.refl w.heap.size w).alloc (xnR _) (.cells #[] 118)
 have HO:Own (w.alloc (.cells #[] 118)) w.heap.size 118 .u32 0 (bpw z) (.slice (some ⟨w.heap.size,0,none⟩) 0 0):=Own.lit w w.heap.size 118 .u32 0 (bpw z) (xnR _) Jj
 generalize w.alloc (.cells #[] 118)=w0 at K HO ⊢; generalize Value.slice (some ⟨w.heap.size,0,none⟩) 0 0=mv0 at HO ⊢; show Exit.then _ _ _ _ _; go_wp2
 go_loopw [9,10] (fun mw i w'=>∃ (n:Nat) (mv:Value),n≤16∧i=.int .i64 ((4*n:Nat):Int)∧mv=mw∧Own w' w.heap.size 118 .u32 n (bpw z) mv∧Below w.heap.size w w') (fun _ i _=>64-(intOf i).toNat)
 case atStart=>exact ⟨0,_,by omega,rfl,rfl,HO,K⟩
 case round =>
  clear K HO; obtain ⟨n,mv,hn,rfl,rfl,HO,K⟩:=hrel; have g1:(0:Int)≤((4*n:Nat):Int):=by omega
  by_cases hlt:n<16
  · have g2:((4*n:Nat):Int)<64:=by omega
    go_upto_region 5 with fail; refine hdG K ?_; clear K; intro K; replace HO:=HO.drew; generalize wr.drew=w1 at K HO ⊢; refine xmH 0 24 K ?_; refine xmH 1 25 K ?_; refine xmH 2 26 K ?_; refine xqH 3 27 rfl _ (fun w'=>q8y ad capP (4*n) JK w' _ _ rfl rfl rfl) K ?_; refine dA (i:=4) (some 28) rfl .u8 (.int .u8 (z (4*n))) (ad.add (4*n)) 5 _ rfl rfl rfl rfl JU JU JU (fun _ _ _ h=>h) Tryz.underlying5 K (fun w' h=>hsrc _ JK w' h) (nH ?_); refine xqH 5 29 rfl _ Yx K ?_; refine xmH 6 30 K ?_; refine xmH 7 31 K ?_; refine xqH 8 32 rfl (.int .i64 ((4*n+1:Nat):Int)) Je K ?_; refine xqH 9 33 rfl _ (fun w'=>q8y ad capP (4*n+1) JK w' _ _ rfl rfl rfl) K ?_; refine dA (i:=10) (some 34) rfl .u8 (.int .u8 (z (4*n+1))) (ad.add (4*n+1)) 5 _ rfl rfl rfl rfl JU JU JU (fun _ _ _ h=>h) Tryz.underlying5 K (fun w' h=>hsrc _ JK w' h) (nH ?_); refine xqH 11 35 rfl _ Yx K ?_; refine xqH 12 36 rfl _ (fun w=>j9j .u32 .u64 _ 8 _ _ _ _ _ rfl rfl rfl JG (IntKind.wrap_u32' _) w) K ?_; refine xqH 13 37 rfl _ (fun w=>orW .u32 _ _ _ _ _ _ _ rfl rfl rfl rfl w) K ?_; refine xmH 14 38 K ?_; refine xmH 15 39 K ?_; refine xqH 16 40 rfl (.int .i64 ((4*n+2:Nat):Int)) Je K ?_; refine xqH 17 41 rfl _ (fun w'=>q8y ad capP (4*n+2) JK w' _ _ rfl rfl rfl) K ?_; refine dA (i:=18) (some 42) rfl .u8 (.int .u8 (z (4*n+2))) (ad.add (4*n+2)) 5 _ rfl rfl rfl rfl JU JU JU (fun _ _ _ h=>h) Tryz.underlying5 K (fun w' h=>hsrc _ JK w' h) (nH ?_); refine xqH 19 43 rfl _ Yx K ?_; refine xqH 20 44 rfl _ (fun w=>j9j .u32 .u64 _ 16 _ _ _ _ _ rfl rfl rfl JG (IntKind.wrap_u32' _) w) K ?_; refine xqH 21 45 rfl _ (fun w=>orW .u32 _ _ _ _ _ _ _ rfl rfl rfl rfl w) K ?_; refine xmH 22 46 K ?_; refine xmH 23 47 K ?_; refine xqH 24 48 rfl (.int .i64 ((4*n+3:Nat):Int)) Je K ?_; refine xqH 25 49 rfl _ (fun w'=>q8y ad capP (4*n+3) JK w' _ _ rfl rfl rfl) K ?_; refine dA (i:=26) (some 50) rfl .u8 (.int .u8 (z (4*n+3))) (ad.add (4*n+3)) 5 _ rfl rfl rfl rfl JU JU JU (fun _ _ _ h=>h) Tryz.underlying5 K (fun w' h=>hsrc _ JK w' h) (nH ?_); refine xqH 27 51 rfl _ Yx K ?_; refine xqH 28 52 rfl _ (fun w=>j9j .u32 .u64 _ 24 _ _ _ _ _ rfl rfl rfl JG (IntKind.wrap_u32' _) w) K ?_; refine xqH 29 53 rfl _ (fun w=>orW .u32 _ _ _ _ _ _ _ rfl rfl rfl (q1q z hz n hlt) w) K ?_; have hb1:=K.alloc K.size (.cells #[.int .u32 (bpw z n)] 118); refine rY (i:=30) (w':=w1.alloc (.cells #[.int .u32 (bpw z n)] 118)) (some 54) rfl (.slice (some ⟨w1.heap.size,0,none⟩) 1 1) JU rfl rfl JU hb1 ?_; simp only [aP,lI,l0,lS]; obtain ⟨v,w2,hr,ho,hg⟩:=HO.more32 JK (bpw z n) rfl 131 K.size; have hb2:=Below.grown hb1 hg GX (fun b hb=>(World.ownsRow.lt HO b hb).1); refine rY (i:=31) (some 55) rfl v JU rfl rfl (jW _ _ 131 _ _ _ rfl rfl rfl hr) hb2 ?_; simp only [aP,lI,l0,lS]; refine xmH 32 9 hb2 ?_; exact Qg
  obtain rfl:n=16:=by omega
  clear hlt hn g1; obtain ⟨M,capM,rfl,hM1,hM2,HM⟩:=HO.has JK; have K0:Kr w w.heap.size [] [] wr:=⟨fun _ h=>Vc,fun _ h=>Vc,fun _ h=>Vc,K.size,xnR _,K⟩
  replace K:=K0.own hM1 hM2 HM; clear K0 HO HM; go_upto_region 6 with fail; refine wR (xaL (w':=wr.alloc (.cells #[] 118)) (.slice (some ⟨wr.heap.size,0,none⟩) 0 0) JU ?_); refine xmL ?_; have K1:=K.call ((Below.refl wr.heap.size wr).alloc (xnR _) (.cells #[] 118)); have HA:=hA.below K1.below hAl; obtain ⟨u1,w2,hr1,ho1,hg1,_⟩:=jH (P:=Tryz.prog) (ty:=131) Tryz.underlying131 j3v (show Own (wr.alloc (.cells #[] 118)) wr.heap.size 118 .u32 0 (fun _=>0) (.slice (some ⟨wr.heap.size,0,none⟩) 0 0) from Own.lit wr wr.heap.size 118 .u32 0 (fun _=>0) (xnR _) JG) (some ⟨A,0,none⟩) 8 capA h (fun j hj=>⟨_,rfl,by rw [Addr.add_mid,nZ]; exact HA.cell j hj⟩) Jq JG JG Jf; have K2:=K1.grown hg1 Uo; refine xaL u1 (jW _ _ 131 _ _ _ rfl rfl rfl hr1) ?_; replace ho1:Own w2 wr.heap.size 118 .u32 8 h u1:=ho1.congr (fun j _=>by unfold app; rw [if_neg JK,Nat.sub_zero]); refine xcL (rE _) ?_; rintro e w3 ⟨S,rfl,⟨hS1,hS2,HS⟩,l⟩; have K3:=K2.call l; replace ho1:=ho1.below l; refine xeL ?_; obtain ⟨u2,w4,hr2,ho2,hg2,_⟩:=jH (P:=Tryz.prog) (ty:=131) Tryz.underlying131 j3v ho1 (some ⟨S,0,none⟩) 8 8 iv (fun j hj=>⟨_,rfl,by rw [Addr.add_mid,nZ]; exact HS.cell j hj⟩) Jq JG JG K3.size; have K4:=K3.grown hg2 (fun b hb=>(World.ownsRow.lt ho1 b hb).1); refine xaL u2 (jW _ _ 131 _ _ _ rfl rfl rfl hr2) ?_; refine xmL ?_; obtain ⟨X,capX,rfl,hX1,hX2,HX⟩:=ho2.has JK; replace K:=K4.own hX1 hX2 HX; have hXM:M<X:=xnL hM2 hX1; have hX0:w.heap.size≤X:=xnT hM1 (Nat.le_of_lt hXM); clear K1 K2 K3 K4 HA hr1 hr2 ho1 ho2 hg1 hg2 HX HS hS1 hS2 l hX1 hX2 hM2; generalize w4.heap.size=m4 at K; show Exit.then _ _ _ _ _; go_upto_region 7 with fail; refine wR (xm2 ?_)
  refine xqL _ Yv ?_; refine ycL (.int .u32 (iv 4)) X 12 Tryz.underlying118 ((K.get _ _ _ _ mS).cell 12 JG) ?_; refine xmL ?_; refine xqL _ (fun w=>x7a .u64 _ _ _ _ _ _ _ rfl rfl rfl (q9r t ht) w) ?_; refine xqL (.int .u32 (t%4294967296)) (fun w=>mZ .u64 .u32 _ _ _ _ _ rfl JU Tryz.underlying118 JU rfl (by rw [IntKind.wrap_u32']; omega) w) ?_; refine xqL _ Js ?_; refine xqL _ Yv ?_; refine ywL .u32 (hxr (iv 4) (t%4294967296)) X 12 (by rw [(K.get _ _ _ _ mS).cell 12 JG]; rfl) ((K.get _ _ _ _ mS).free 12 JG) JU ?_; replace K:=K.setCell [(M,.u32,16,bpw z)] X .u32 16 (app h 8 iv) 12 JG (hxr (iv 4) (t%4294967296)) mS Jx Jv hX0; generalize w4.setCell ⟨X,12,none⟩ (.int .u32 (hxr (iv 4) (t%4294967296)))=w5 at K ⊢; show Exit.then _ _ _ _ _
  go_upto_region 8 with fail; refine wR (xm2 ?_); refine xqL _ Yv ?_; refine ycL (.int .u32 (iv 5)) X 13 Tryz.underlying118 ((K.get _ _ _ _ mS).cell 13 JG) ?_; refine xmL ?_; refine xqL (.int .u64 (t/4294967296)) Ww ?_; refine xqL _ Vi ?_; refine xqL _ Js ?_; refine xqL _ Yv ?_; refine ywL .u32 (hxr (iv 5) (t/4294967296%4294967296)) X 13 (by rw [(K.get _ _ _ _ mS).cell 13 JG]; rfl) ((K.get _ _ _ _ mS).free 13 JG) JU ?_; replace K:=K.setCell [(M,.u32,16,bpw z)] X .u32 16 (upd (app h 8 iv) 12 (hxr (iv 4) (t%4294967296))) 13 JG (hxr (iv 5) (t/4294967296%4294967296)) mS Jx Jv hX0; generalize w5.setCell ⟨X,13,none⟩ (.int .u32 (hxr (iv 5) (t/4294967296%4294967296)))=w6 at K ⊢; show Exit.then _ _ _ _ _; have hcon:=q6f h t (upd (upd (app h 8 iv) 12 (hxr (iv 4) (t%4294967296))) 13 (hxr (iv 5) (t/4294967296%4294967296))) last (fun _=>rfl)
  cases last
  · replace K:Kr w m4 [(X,.u32,16,bst h t false),(M,.u32,16,bpw z)] [] w6:=⟨fun p hp=>by
     rcases xc1 hp with rfl | hp
     · exact ⟨(K.get _ _ _ _ mS).congr hcon,(K.rows _ mS).2⟩
     exact K.rows p (mT _ hp),K.room,(fun p hp q hq=>by cases hq),K.size,K.base,K.below⟩
    clear hcon; go_upto_region 11 with fail; refine wR ?_; have hlt4:=(K.rows _ mS).2; have hs4:=K.size; refine xcL (nT _) ?_; rintro e w8 ⟨O,bs,rfl,⟨hO1,hbs,hSG⟩,l⟩; replace K:=K.call l; clear l; refine xeL ?_; refine xmL ?_; have P0:PI z w X M O bs (bst h t false) w8:=⟨K.get _ _ _ _ mS,K.get _ _ _ _ (mT _ mS),hSG,xnL (K.rows _ mS).2 K.size,xnL (K.rows _ (mT _ mS)).2 K.size,K.below⟩
    have hXO:X<O:=by simp only at hlt4; omega
    have hXb:∀ r,r<10→X<bs r:=fun r hr=>by have:=hbs r hr; simp only at hlt4; omega
    have hst:=nQ h t false hh; clear K hSG hbs hO1 hlt4 hs4; show Exit.then _ _ _ _ _; go_wp2
    go_loopw [13] (fun i w'=>∃ r:Nat,r≤10∧i=.int .i64 r∧PI z w X M O bs (bR (bpw z) (bst h t false) r) w') (fun i _=>10-(intOf i).toNat)
    case atStart=>exact ⟨0,by omega,rfl,P0⟩
    case round =>
     clear P0; obtain ⟨r,hr,rfl,P⟩:=hrel; have g1:(0:Int)≤(r:Int):=by omega
     by_cases hlt:r<10
     · have g2:(r:Int)<10:=by omega
       have hin:=aQ (bpw z) _ hst r; go_upto_region 15 with fail; refine wR (xm2 ?_); refine xqL (.pointer (some ⟨O,r,none⟩)) (fun w'=>x0p O r hlt w' _ _ rfl rfl rfl) ?_; refine xaL (.slice (some ⟨bs r,0,none⟩) 16 16) (j9k 113 3 _ ⟨O,r,none⟩ _ rfl rfl Tryz.underlying113 (P.sg.top r hlt)) ?_; refine xmL ?_; show Exit.then _ _ _ _ _; go_wp2
       go_loopw [15] (fun i w'=>∃ q:Nat,q≤4∧i=.int .i64 q∧PI z w X M O bs (bN (bpw z) (sg r) (bR (bpw z) (bst h t false) r) q) w') (fun i _=>4-(intOf i).toNat)
       case atStart=>exact ⟨0,by omega,rfl,P⟩
       case round =>
        clear P; obtain ⟨q,hq,rfl,P⟩:=hrel; have g3:(0:Int)≤(q:Int):=by omega
        by_cases hlt2:q<4
        · have g4:(q:Int)<4:=by omega
          have hin2:=j0d (bpw z) (sg r) _ hin (q); go_upto_region 19 with fail; replace P:=P.drew; refine wD (S:=fun w'=>PM z w M O bs w') JU P.pm ?_; intro K; generalize wr.drew=w9 at P K ⊢; refine xmH 0 99 K ?_; refine xmH 1 100 K ?_; refine xmH 2 101 K ?_; refine xqH 3 102 rfl (.int .i64 ((4+q:Nat):Int)) Je K ?_; refine xmH 4 103 K ?_; refine xqH 5 104 rfl (.int .i64 ((8+q:Nat):Int)) Je K ?_; refine xmH 6 105 K ?_; refine xqH 7 106 rfl (.int .i64 ((12+q:Nat):Int)) Je K ?_; refine xmH 8 107 K ?_; refine xmH 9 108 K ?_; refine xmH 10 109 K ?_; refine xqH 11 110 rfl (.int .i64 ((2*q:Nat):Int)) Jr K ?_; refine xqH 12 111 rfl (.pointer (some ⟨bs r,2*q,none⟩)) (fun w'=>j4i (bs r) (2*q) JK w' _ _ rfl rfl rfl) K ?_; refine ycH 13 112 (.int .i64 ((sg r (2*q):Nat):Int)) (bs r) (2*q) Tryz.underlying3 K (fun _ h=>(h.sg.rows r hlt).1.cell (2*q) JK) ?_; refine xqH 14 113 rfl _ YX K ?_; refine ycH 15 114 (.int .u32 (bpw z (sg r (2*q)))) M (sg r (2*q)) Tryz.underlying118 K (fun _ h=>h.hm.cell (sg r (2*q)) (kC _ _)) ?_; refine xmH 16 115 K ?_; refine xmH 17 116 K ?_; refine xmH 18 117 K ?_; refine xqH 19 118 rfl (.int .i64 ((2*q:Nat):Int)) Jr K ?_; refine xqH 20 119 rfl (.int .i64 ((2*q+1:Nat):Int)) Je K ?_; refine xqH 21 120 rfl (.pointer (some ⟨bs r,2*q+1,none⟩)) (fun w'=>j4i (bs r) (2*q+1) JK w' _ _ rfl rfl rfl) K ?_; refine ycH 22 121 (.int .i64 ((sg r (2*q+1):Nat):Int)) (bs r) (2*q+1) Tryz.underlying3 K (fun _ h=>(h.sg.rows r hlt).1.cell (2*q+1) JK) ?_; refine xqH 23 122 rfl _ YX K ?_; refine ycH 24 123 (.int .u32 (bpw z (sg r (2*q+1)))) M (sg r (2*q+1)) Tryz.underlying118 K (fun _ h=>h.hm.cell (sg r (2*q+1)) (kC _ _)) ?_; refine yaH 25 124 (tF X capX (q) (4+q) (8+q) (12+q) (bpw z (sg r (2*q))) (bpw z (sg r (2*q+1))) (bN (bpw z) (sg r) (bR (bpw z) (bst h t false) r) q) hin2 JK JK JK JK JK JK JK JK JK JK _ P.has P.lt) ?_; rintro e w10 ⟨rfl,G⟩; exact XW
        obtain rfl:q=4:=by omega
        clear hlt2 hq g3; go_wp2; go_loopw [16] (fun i w'=>∃ q:Nat,q≤4∧i=.int .i64 q∧PI z w X M O bs (bN (bpw z) (sg r) (bR (bpw z) (bst h t false) r) (4+q)) w') (fun i _=>4-(intOf i).toNat)
        case atStart=>exact ⟨0,by omega,rfl,P⟩
        case round =>
         clear P; obtain ⟨q,hq,rfl,P⟩:=hrel; have g3:(0:Int)≤(q:Int):=by omega
         by_cases hlt2:q<4
         · have g4:(q:Int)<4:=by omega
           have hin2:=j0d (bpw z) (sg r) _ hin ((4+q)); go_upto_region 23 with fail; replace P:=P.drew; refine wD (S:=fun w'=>PM z w M O bs w') JU P.pm ?_; intro K; generalize wr.drew=w9 at P K ⊢; refine xmH 0 129 K ?_; refine xmH 1 130 K ?_; refine xmH 2 131 K ?_; refine xqH 3 132 rfl (.int .i64 ((q+1:Nat):Int)) Je K ?_; refine xqH 4 133 rfl (.int .i64 (((q+1)%4:Nat):Int)) Yg K ?_; refine xqH 5 134 rfl (.int .i64 ((4+(q+1)%4:Nat):Int)) Je K ?_; refine xmH 6 135 K ?_; refine xqH 7 136 rfl (.int .i64 ((q+2:Nat):Int)) Je K ?_; refine xqH 8 137 rfl (.int .i64 (((q+2)%4:Nat):Int)) Yg K ?_; refine xqH 9 138 rfl (.int .i64 ((8+(q+2)%4:Nat):Int)) Je K ?_; refine xmH 10 139 K ?_; refine xqH 11 140 rfl (.int .i64 ((q+3:Nat):Int)) Je K ?_; refine xqH 12 141 rfl (.int .i64 (((q+3)%4:Nat):Int)) Yg K ?_; refine xqH 13 142 rfl (.int .i64 ((12+(q+3)%4:Nat):Int)) Je K ?_; refine xmH 14 143 K ?_; refine xmH 15 144 K ?_; refine xmH 16 145 K ?_; refine xqH 17 146 rfl (.int .i64 ((2*q:Nat):Int)) Jr K ?_; refine xqH 18 147 rfl (.int .i64 ((8+2*q:Nat):Int)) Je K ?_; refine xqH 19 148 rfl (.pointer (some ⟨bs r,8+2*q,none⟩)) (fun w'=>j4i (bs r) (8+2*q) JK w' _ _ rfl rfl rfl) K ?_; refine ycH 20 149 (.int .i64 ((sg r (8+2*q):Nat):Int)) (bs r) (8+2*q) Tryz.underlying3 K (fun _ h=>(h.sg.rows r hlt).1.cell (8+2*q) JK) ?_; refine xqH 21 150 rfl _ YX K ?_; refine ycH 22 151 (.int .u32 (bpw z (sg r (8+2*q)))) M (sg r (8+2*q)) Tryz.underlying118 K (fun _ h=>h.hm.cell (sg r (8+2*q)) (kC _ _)) ?_; refine xmH 23 152 K ?_; refine xmH 24 153 K ?_; refine xmH 25 154 K ?_; refine xqH 26 155 rfl (.int .i64 ((2*q:Nat):Int)) Jr K ?_; refine xqH 27 156 rfl (.int .i64 ((9+2*q:Nat):Int)) Je K ?_; refine xqH 28 157 rfl (.pointer (some ⟨bs r,9+2*q,none⟩)) (fun w'=>j4i (bs r) (9+2*q) JK w' _ _ rfl rfl rfl) K ?_; refine ycH 29 158 (.int .i64 ((sg r (9+2*q):Nat):Int)) (bs r) (9+2*q) Tryz.underlying3 K (fun _ h=>(h.sg.rows r hlt).1.cell (9+2*q) JK) ?_; refine xqH 30 159 rfl _ YX K ?_; refine ycH 31 160 (.int .u32 (bpw z (sg r (9+2*q)))) M (sg r (9+2*q)) Tryz.underlying118 K (fun _ h=>h.hm.cell (sg r (9+2*q)) (kC _ _)) ?_; refine yaH 32 161 (tF X capX (q) (4+(q+1)%4) (8+(q+2)%4) (12+(q+3)%4) (bpw z (sg r (8+2*q))) (bpw z (sg r (9+2*q))) (bN (bpw z) (sg r) (bR (bpw z) (bst h t false) r) (4+q)) hin2 JK JK JK JK JK JK JK JK JK JK _ P.has P.lt) ?_; rintro e w10 ⟨rfl,G⟩; exact XG
         obtain rfl:q=4:=by omega
         have HS:=show Hid (PI z w X M O bs (bR (bpw z) (bst h t false) (r+1)) wr) from P; clear P hlt2 hq g3; go_wp2
         exact Qu
     obtain rfl:r=10:=by omega
     clear hlt hr g1 hXM hXO hXb; have hbp:∀ n,hxr (hxr (h n) (bR (bpw z) (bst h t false) 10 n)) (bR (bpw z) (bst h t false) 10 (n+8))=bpr h z t false n:=fun _=>rfl
     generalize bR (bpw z) (bst h t false) 10=F at P hbp; generalize hG:bpr h z t false=G at hbp; replace hG:=show Hid _ from hG
     have K:Kr w wr.heap.size [(X,.u32,16,F)] [] wr:=⟨fun p hp=>by obtain rfl:=xm1 hp; exact ⟨P.has,P.lt⟩,fun _ h=>Vc,fun _ _ _ h=>Vc,xnR _,P.below.size,P.below⟩
     clear P hst; go_upto_region 24 with fail; refine wR (xaL (w':=wr.alloc (.cells #[] 118)) (.slice (some ⟨wr.heap.size,0,none⟩) 0 0) JU ?_); refine xmL ?_; replace K:=K.call ((Below.refl wr.heap.size wr).alloc (xnR _) (.cells #[] 118)); have HO:Own (wr.alloc (.cells #[] 118)) wr.heap.size 118 .u32 0 G (.slice (some ⟨wr.heap.size,0,none⟩) 0 0):=Own.lit wr wr.heap.size 118 .u32 0 G (xnR _) Jj; generalize wr.alloc (.cells #[] 118)=w11 at K HO ⊢; generalize Value.slice (some ⟨wr.heap.size,0,none⟩) 0 0=ov0 at HO ⊢; generalize wr.heap.size=B at K HO; show Exit.then _ _ _ _ _; go_wp2
     go_loopw [17,18] (fun ow i w'=>∃ (n:Nat) (ov:Value),n≤8∧i=.int .i64 (n:Int)∧ov=ow∧Own w' B 118 .u32 n G ov∧Kr w B [(X,.u32,16,F)] [] w') (fun _ i _=>8-(intOf i).toNat)
     case atStart=>exact ⟨0,_,by omega,rfl,rfl,HO,K⟩
     case round =>
      clear K HO; obtain ⟨n,ov,hn,rfl,rfl,HO,K⟩:=hrel; have g1:(0:Int)≤(n:Int):=by omega
      by_cases hlt:n<8
      · have g2:(n:Int)<8:=by omega
        go_upto_region 28 with fail; refine hdG K ?_; clear K; intro K; replace HO:=HO.drew; generalize wr.drew=w12 at K HO ⊢; refine xmH 0 167 K ?_; refine xmH 1 168 K ?_; refine xmH 2 169 K ?_; refine xqH 3 170 rfl _ Uc K ?_; refine ycH 4 171 (.int .u32 (h n)) A n Tryz.underlying118 K (fun _ h=>(hA.below h.below hAl).cell n hlt) ?_; refine xmH 5 172 K ?_; refine xmH 6 173 K ?_; refine xqH 7 174 rfl _ Vo K ?_; refine ycH 8 175 (.int .u32 (F n)) X n Tryz.underlying118 K (fun _ h=>(h.get _ _ _ _ mS).cell n JK) ?_; refine xqH 9 176 rfl _ Js K ?_; refine xmH 10 177 K ?_; refine xmH 11 178 K ?_; refine xqH 12 179 rfl (.int .i64 ((n+8:Nat):Int)) Je K ?_; refine xqH 13 180 rfl _ Vo K ?_; refine ycH 14 181 (.int .u32 (F (n+8))) X (n+8) Tryz.underlying118 K (fun _ h=>(h.get _ _ _ _ mS).cell (n+8) JK) ?_; refine xqH 15 182 rfl _ Gb K ?_; have hb1:=K.call ((Below.refl w12.heap.size w12).alloc (xnR _) (.cells #[.int .u32 (G n)] 118)); refine rY (i:=16) (w':=w12.alloc (.cells #[.int .u32 (G n)] 118)) (some 183) rfl (.slice (some ⟨w12.heap.size,0,none⟩) 1 1) JU rfl rfl JU hb1 ?_; simp only [aP,lI,l0,lS]; obtain ⟨v,w13,hr,ho,hg⟩:=HO.more32 JK (G n) rfl 131 K.size; exact ZW
      obtain rfl:n=8:=by omega
      obtain ⟨O2,capO,rfl,hO1,hO2,HH⟩:=HO.has JK; exact Xd
  go_upto_region 10 with fail; refine wR (xm2 ?_); refine xqL _ Yv ?_; refine ycL (.int .u32 (iv 6)) X 14 Tryz.underlying118 ((K.get _ _ _ _ mS).cell 14 JG) ?_; refine xqL (.int .u32 (4294967295-iv 6)) (fun w=>x4t .u32 _ _ _ _ rfl rfl Jw w) ?_; refine xqL _ Yv ?_; refine ywL .u32 (4294967295-iv 6) X 14 (by rw [(K.get _ _ _ _ mS).cell 14 JG]; rfl) ((K.get _ _ _ _ mS).free 14 JG) JU ?_; replace K:=K.setCell [(M,.u32,16,bpw z)] X .u32 16 (upd (upd (app h 8 iv) 12 (hxr (iv 4) (t%4294967296))) 13 (hxr (iv 5) (t/4294967296%4294967296))) 14 JG (4294967295-iv 6) mS Jx Jv hX0; generalize w6.setCell ⟨X,14,none⟩ (.int .u32 (4294967295-iv 6))=w7 at K ⊢; show Exit.then _ _ _ _ _
  replace K:Kr w m4 [(X,.u32,16,bst h t true),(M,.u32,16,bpw z)] [] w7:=⟨fun p hp=>by
   rcases xc1 hp with rfl | hp
   · exact ⟨(K.get _ _ _ _ mS).congr hcon,(K.rows _ mS).2⟩
   exact K.rows p (mT _ hp),K.room,(fun p hp q hq=>by cases hq),K.size,K.base,K.below⟩
  clear hcon; go_upto_region 11 with fail; refine wR ?_; have hlt4:=(K.rows _ mS).2; have hs4:=K.size; refine xcL (nT _) ?_; rintro e w8 ⟨O,bs,rfl,⟨hO1,hbs,hSG⟩,l⟩; replace K:=K.call l; clear l; refine xeL ?_; refine xmL ?_; have P0:PI z w X M O bs (bst h t true) w8:=⟨K.get _ _ _ _ mS,K.get _ _ _ _ (mT _ mS),hSG,xnL (K.rows _ mS).2 K.size,xnL (K.rows _ (mT _ mS)).2 K.size,K.below⟩
  have hXO:X<O:=by simp only at hlt4; omega
  have hXb:∀ r,r<10→X<bs r:=fun r hr=>by have:=hbs r hr; simp only at hlt4; omega
  have hst:=nQ h t true hh; clear K hSG hbs hO1 hlt4 hs4; show Exit.then _ _ _ _ _; go_wp2
  go_loopw [13] (fun i w'=>∃ r:Nat,r≤10∧i=.int .i64 r∧PI z w X M O bs (bR (bpw z) (bst h t true) r) w') (fun i _=>10-(intOf i).toNat)
  case atStart=>exact ⟨0,by omega,rfl,P0⟩
  case round =>
   clear P0; obtain ⟨r,hr,rfl,P⟩:=hrel; have g1:(0:Int)≤(r:Int):=by omega
   by_cases hlt:r<10
   · have g2:(r:Int)<10:=by omega
     have hin:=aQ (bpw z) _ hst r; go_upto_region 15 with fail; refine wR (xm2 ?_); refine xqL (.pointer (some ⟨O,r,none⟩)) (fun w'=>x0p O r hlt w' _ _ rfl rfl rfl) ?_; refine xaL (.slice (some ⟨bs r,0,none⟩) 16 16) (j9k 113 3 _ ⟨O,r,none⟩ _ rfl rfl Tryz.underlying113 (P.sg.top r hlt)) ?_; refine xmL ?_; show Exit.then _ _ _ _ _; go_wp2
     go_loopw [15] (fun i w'=>∃ q:Nat,q≤4∧i=.int .i64 q∧PI z w X M O bs (bN (bpw z) (sg r) (bR (bpw z) (bst h t true) r) q) w') (fun i _=>4-(intOf i).toNat)
     case atStart=>exact ⟨0,by omega,rfl,P⟩
     case round =>
      clear P; obtain ⟨q,hq,rfl,P⟩:=hrel; have g3:(0:Int)≤(q:Int):=by omega
      by_cases hlt2:q<4
      · have g4:(q:Int)<4:=by omega
        have hin2:=j0d (bpw z) (sg r) _ hin (q); go_upto_region 19 with fail; replace P:=P.drew; refine wD (S:=fun w'=>PM z w M O bs w') JU P.pm ?_; intro K; generalize wr.drew=w9 at P K ⊢; refine xmH 0 99 K ?_; refine xmH 1 100 K ?_; refine xmH 2 101 K ?_; refine xqH 3 102 rfl (.int .i64 ((4+q:Nat):Int)) Je K ?_; refine xmH 4 103 K ?_; refine xqH 5 104 rfl (.int .i64 ((8+q:Nat):Int)) Je K ?_; refine xmH 6 105 K ?_; refine xqH 7 106 rfl (.int .i64 ((12+q:Nat):Int)) Je K ?_; refine xmH 8 107 K ?_; refine xmH 9 108 K ?_; refine xmH 10 109 K ?_; refine xqH 11 110 rfl (.int .i64 ((2*q:Nat):Int)) Jr K ?_; refine xqH 12 111 rfl (.pointer (some ⟨bs r,2*q,none⟩)) (fun w'=>j4i (bs r) (2*q) JK w' _ _ rfl rfl rfl) K ?_; refine ycH 13 112 (.int .i64 ((sg r (2*q):Nat):Int)) (bs r) (2*q) Tryz.underlying3 K (fun _ h=>(h.sg.rows r hlt).1.cell (2*q) JK) ?_; refine xqH 14 113 rfl _ YX K ?_; refine ycH 15 114 (.int .u32 (bpw z (sg r (2*q)))) M (sg r (2*q)) Tryz.underlying118 K (fun _ h=>h.hm.cell (sg r (2*q)) (kC _ _)) ?_; refine xmH 16 115 K ?_; refine xmH 17 116 K ?_; refine xmH 18 117 K ?_; refine xqH 19 118 rfl (.int .i64 ((2*q:Nat):Int)) Jr K ?_; refine xqH 20 119 rfl (.int .i64 ((2*q+1:Nat):Int)) Je K ?_; refine xqH 21 120 rfl (.pointer (some ⟨bs r,2*q+1,none⟩)) (fun w'=>j4i (bs r) (2*q+1) JK w' _ _ rfl rfl rfl) K ?_; refine ycH 22 121 (.int .i64 ((sg r (2*q+1):Nat):Int)) (bs r) (2*q+1) Tryz.underlying3 K (fun _ h=>(h.sg.rows r hlt).1.cell (2*q+1) JK) ?_; refine xqH 23 122 rfl _ YX K ?_; refine ycH 24 123 (.int .u32 (bpw z (sg r (2*q+1)))) M (sg r (2*q+1)) Tryz.underlying118 K (fun _ h=>h.hm.cell (sg r (2*q+1)) (kC _ _)) ?_; refine yaH 25 124 (tF X capX (q) (4+q) (8+q) (12+q) (bpw z (sg r (2*q))) (bpw z (sg r (2*q+1))) (bN (bpw z) (sg r) (bR (bpw z) (bst h t true) r) q) hin2 JK JK JK JK JK JK JK JK JK JK _ P.has P.lt) ?_; rintro e w10 ⟨rfl,G⟩; exact XW
      obtain rfl:q=4:=by omega
      clear hlt2 hq g3; go_wp2; go_loopw [16] (fun i w'=>∃ q:Nat,q≤4∧i=.int .i64 q∧PI z w X M O bs (bN (bpw z) (sg r) (bR (bpw z) (bst h t true) r) (4+q)) w') (fun i _=>4-(intOf i).toNat)
      case atStart=>exact ⟨0,by omega,rfl,P⟩
      case round =>
       clear P; obtain ⟨q,hq,rfl,P⟩:=hrel; have g3:(0:Int)≤(q:Int):=by omega
       by_cases hlt2:q<4
       · have g4:(q:Int)<4:=by omega
         have hin2:=j0d (bpw z) (sg r) _ hin ((4+q)); go_upto_region 23 with fail; replace P:=P.drew; refine wD (S:=fun w'=>PM z w M O bs w') JU P.pm ?_; intro K; generalize wr.drew=w9 at P K ⊢; refine xmH 0 129 K ?_; refine xmH 1 130 K ?_; refine xmH 2 131 K ?_; refine xqH 3 132 rfl (.int .i64 ((q+1:Nat):Int)) Je K ?_; refine xqH 4 133 rfl (.int .i64 (((q+1)%4:Nat):Int)) Yg K ?_; refine xqH 5 134 rfl (.int .i64 ((4+(q+1)%4:Nat):Int)) Je K ?_; refine xmH 6 135 K ?_; refine xqH 7 136 rfl (.int .i64 ((q+2:Nat):Int)) Je K ?_; refine xqH 8 137 rfl (.int .i64 (((q+2)%4:Nat):Int)) Yg K ?_; refine xqH 9 138 rfl (.int .i64 ((8+(q+2)%4:Nat):Int)) Je K ?_; refine xmH 10 139 K ?_; refine xqH 11 140 rfl (.int .i64 ((q+3:Nat):Int)) Je K ?_; refine xqH 12 141 rfl (.int .i64 (((q+3)%4:Nat):Int)) Yg K ?_; refine xqH 13 142 rfl (.int .i64 ((12+(q+3)%4:Nat):Int)) Je K ?_; refine xmH 14 143 K ?_; refine xmH 15 144 K ?_; refine xmH 16 145 K ?_; refine xqH 17 146 rfl (.int .i64 ((2*q:Nat):Int)) Jr K ?_; refine xqH 18 147 rfl (.int .i64 ((8+2*q:Nat):Int)) Je K ?_; refine xqH 19 148 rfl (.pointer (some ⟨bs r,8+2*q,none⟩)) (fun w'=>j4i (bs r) (8+2*q) JK w' _ _ rfl rfl rfl) K ?_; refine ycH 20 149 (.int .i64 ((sg r (8+2*q):Nat):Int)) (bs r) (8+2*q) Tryz.underlying3 K (fun _ h=>(h.sg.rows r hlt).1.cell (8+2*q) JK) ?_; refine xqH 21 150 rfl _ YX K ?_; refine ycH 22 151 (.int .u32 (bpw z (sg r (8+2*q)))) M (sg r (8+2*q)) Tryz.underlying118 K (fun _ h=>h.hm.cell (sg r (8+2*q)) (kC _ _)) ?_; refine xmH 23 152 K ?_; refine xmH 24 153 K ?_; refine xmH 25 154 K ?_; refine xqH 26 155 rfl (.int .i64 ((2*q:Nat):Int)) Jr K ?_; refine xqH 27 156 rfl (.int .i64 ((9+2*q:Nat):Int)) Je K ?_; refine xqH 28 157 rfl (.pointer (some ⟨bs r,9+2*q,none⟩)) (fun w'=>j4i (bs r) (9+2*q) JK w' _ _ rfl rfl rfl) K ?_; refine ycH 29 158 (.int .i64 ((sg r (9+2*q):Nat):Int)) (bs r) (9+2*q) Tryz.underlying3 K (fun _ h=>(h.sg.rows r hlt).1.cell (9+2*q) JK) ?_; refine xqH 30 159 rfl _ YX K ?_; refine ycH 31 160 (.int .u32 (bpw z (sg r (9+2*q)))) M (sg r (9+2*q)) Tryz.underlying118 K (fun _ h=>h.hm.cell (sg r (9+2*q)) (kC _ _)) ?_; refine yaH 32 161 (tF X capX (q) (4+(q+1)%4) (8+(q+2)%4) (12+(q+3)%4) (bpw z (sg r (8+2*q))) (bpw z (sg r (9+2*q))) (bN (bpw z) (sg r) (bR (bpw z) (bst h t true) r) (4+q)) hin2 JK JK JK JK JK JK JK JK JK JK _ P.has P.lt) ?_; rintro e w10 ⟨rfl,G⟩; exact XG
       obtain rfl:q=4:=by omega
       have HS:=show Hid (PI z w X M O bs (bR (bpw z) (bst h t true) (r+1)) wr) from P; clear P hlt2 hq g3; go_wp2
       exact Qu
   obtain rfl:r=10:=by omega
   clear hlt hr g1 hXM hXO hXb; have hbp:∀ n,hxr (hxr (h n) (bR (bpw z) (bst h t true) 10 n)) (bR (bpw z) (bst h t true) 10 (n+8))=bpr h z t true n:=fun _=>rfl
   generalize bR (bpw z) (bst h t true) 10=F at P hbp; generalize hG:bpr h z t true=G at hbp; replace hG:=show Hid _ from hG
   have K:Kr w wr.heap.size [(X,.u32,16,F)] [] wr:=⟨fun p hp=>by obtain rfl:=xm1 hp; exact ⟨P.has,P.lt⟩,fun _ h=>Vc,fun _ _ _ h=>Vc,xnR _,P.below.size,P.below⟩
   clear P hst; go_upto_region 24 with fail; refine wR (xaL (w':=wr.alloc (.cells #[] 118)) (.slice (some ⟨wr.heap.size,0,none⟩) 0 0) JU ?_); refine xmL ?_; replace K:=K.call ((Below.refl wr.heap.size wr).alloc (xnR _) (.cells #[] 118)); have HO:Own (wr.alloc (.cells #[] 118)) wr.heap.size 118 .u32 0 G (.slice (some ⟨wr.heap.size,0,none⟩) 0 0):=Own.lit wr wr.heap.size 118 .u32 0 G (xnR _) Jj; generalize wr.alloc (.cells #[] 118)=w11 at K HO ⊢; generalize Value.slice (some ⟨wr.heap.size,0,none⟩) 0 0=ov0 at HO ⊢; generalize wr.heap.size=B at K HO; show Exit.then _ _ _ _ _; go_wp2
   go_loopw [17,18] (fun ow i w'=>∃ (n:Nat) (ov:Value),n≤8∧i=.int .i64 (n:Int)∧ov=ow∧Own w' B 118 .u32 n G ov∧Kr w B [(X,.u32,16,F)] [] w') (fun _ i _=>8-(intOf i).toNat)
   case atStart=>exact ⟨0,_,by omega,rfl,rfl,HO,K⟩
   case round =>
    clear K HO; obtain ⟨n,ov,hn,rfl,rfl,HO,K⟩:=hrel; have g1:(0:Int)≤(n:Int):=by omega
    by_cases hlt:n<8
    · have g2:(n:Int)<8:=by omega
      go_upto_region 28 with fail; refine hdG K ?_; clear K; intro K; replace HO:=HO.drew; generalize wr.drew=w12 at K HO ⊢; refine xmH 0 167 K ?_; refine xmH 1 168 K ?_; refine xmH 2 169 K ?_; refine xqH 3 170 rfl _ Uc K ?_; refine ycH 4 171 (.int .u32 (h n)) A n Tryz.underlying118 K (fun _ h=>(hA.below h.below hAl).cell n hlt) ?_; refine xmH 5 172 K ?_; refine xmH 6 173 K ?_; refine xqH 7 174 rfl _ Vo K ?_; refine ycH 8 175 (.int .u32 (F n)) X n Tryz.underlying118 K (fun _ h=>(h.get _ _ _ _ mS).cell n JK) ?_; refine xqH 9 176 rfl _ Js K ?_; refine xmH 10 177 K ?_; refine xmH 11 178 K ?_; refine xqH 12 179 rfl (.int .i64 ((n+8:Nat):Int)) Je K ?_; refine xqH 13 180 rfl _ Vo K ?_; refine ycH 14 181 (.int .u32 (F (n+8))) X (n+8) Tryz.underlying118 K (fun _ h=>(h.get _ _ _ _ mS).cell (n+8) JK) ?_; refine xqH 15 182 rfl _ Gb K ?_; have hb1:=K.call ((Below.refl w12.heap.size w12).alloc (xnR _) (.cells #[.int .u32 (G n)] 118)); refine rY (i:=16) (w':=w12.alloc (.cells #[.int .u32 (G n)] 118)) (some 183) rfl (.slice (some ⟨w12.heap.size,0,none⟩) 1 1) JU rfl rfl JU hb1 ?_; simp only [aP,lI,l0,lS]; obtain ⟨v,w13,hr,ho,hg⟩:=HO.more32 JK (G n) rfl 131 K.size; exact ZW
    obtain rfl:n=8:=by omega
    obtain ⟨O2,capO,rfl,hO1,hO2,HH⟩:=HO.has JK; exact Xd
section
theorem j9q (k:IntKind) (m:Nat):Builtin.zeroCells (Value.int k 0).cells m=(row k m (fun _=>0)).toArray:=by
 refine Array.toList_inj.1 ?_
 unfold Builtin.zeroCells row
 simp [Value.cells,Nat.mod_one]
section
variable {P:Program}
end
end
def bkk (kl:Nat) (key:Nat→Int):Nat→Int:=fun j=>if kl≤64 then (if j<kl then key j else 0) else if j<32 then jB kl key j else 0
def bxx (c:Int) (k:Nat→Int):Nat→Int:=fun j=>bits .xor .u8 (k j) c
def yD (kl:Nat) (key:Nat→Int) (len:Nat) (z:Nat→Int):Nat→Int:=jB 96 (app (bxx 92 (bkk kl key)) 64 (jB (64+len) (app (bxx 54 (bkk kl key)) 64 z)))
theorem uR (len:Nat) (z:Nat→Int) (n:Nat):In 256 n (jB len z):=q9i _ _ _ _ _ _
theorem x3v (kl:Nat) (key:Nat→Int) (hk:In 256 kl key) (n:Nat):In 256 n (bkk kl key):=fun j _=>by
 unfold bkk
 split
 · split
   · exact hk j KQ
   · omega
 · split
   · exact uR kl key 32 j KQ
   · omega
theorem dW (c:Int) (hc:0≤c∧c<256) (k:Nat→Int) (n:Nat) (hk:In 256 n k):In 256 n (bxx c k):=fun j hj=>by
 unfold bxx
 obtain ⟨x,hx⟩:=xiN (hk j hj).1
 obtain ⟨y,rfl⟩:=xiN hc.1
 have h1:=(hk j hj).2
 rw [hx] at h1 ⊢
 have h:x ^^^ y<2^8:=Nat.xor_lt_two_pow JK JK
 rw [u8_xor_nat x y JK JK]
 omega
theorem rX (n m:Nat) (f g:Nat→Int) (hf:In 256 n f) (hg:In 256 m g):In 256 (n+m) (app f n g):=fun j hj=>by
 unfold app
 split
 · exact hf j KQ
 · exact hg _ JK
theorem q1o (kl:Nat) (key key':Nat→Int) (len:Nat) (z y:Nat→Int) (hk:∀ j,j<kl→key j=key' j) (h:∀ j,j<len→z j=y j):btx kl key len z=btx kl key' len y:=by
 funext j
 unfold btx
 by_cases e:kl=0
 · rw [if_pos e,if_pos e]; by_cases e1:j<len
   · rw [if_pos e1,if_pos e1,h j e1]
   rw [if_neg e1,if_neg e1]
 rw [if_neg e,if_neg e]
 by_cases e1:j<64
 · rw [if_pos e1,if_pos e1]; by_cases e2:j<kl
   · rw [if_pos e2,if_pos e2,hk j e2]
   rw [if_neg e2,if_neg e2]
 rw [if_neg e1,if_neg e1]
 by_cases e2:j<64+len
 · rw [if_pos e2,if_pos e2,h _ JK]
 rw [if_neg e2,if_neg e2]
theorem j4w (kl:Nat) (key key':Nat→Int) (size len:Nat) (z y:Nat→Int) (hk:∀ j,j<kl→key j=key' j) (h:∀ j,j<len→z j=y j):∀ i,bH kl key size len z i=bH kl key' size len y i
 | 0=>rfl
 | i+1=>by
   unfold bH
   rw [j4w kl key key' size len z y hk h i,q1o kl key key' len z y hk h]
theorem j7l (kl:Nat) (key key':Nat→Int) (size len:Nat) (z y:Nat→Int) (hk:∀ j,j<kl→key j=key' j) (h:∀ j,j<len→z j=y j):aN kl key size len z=aN kl key' size len y:=by
 funext j
 unfold aN
 rw [j4w kl key key' size len z y hk h]
theorem nE (len:Nat) (z y:Nat→Int) (h:∀ j,j<len→z j=y j):jB len z=jB len y:=j7l _ _ _ _ _ _ _ (fun _ _=>rfl) h
theorem q1u (x:Int) (e:Nat) (he:e<4):IntKind.u8.wrap (x/2^(8*e))=b32 x e:=by
 rw [IntKind.wrap_u8']
 match e,he with
 | 0,_=>show x/1%256=x%256; rw [Int.ediv_one]
 | 1,_=>rfl
 | 2,_=>rfl
 | 3,_=>rfl
theorem x4k (n:Int) (h0:0≤n) (h:n<18446744073709551616):IntKind.u64.wrap n=n:=by
 simp [IntKind.wrap,IntKind.bits,IntKind.signed]
 omega
theorem q9g (kl:Nat) (key:Nat→Int) (len:Nat) (z:Nat→Int) (j:Nat) (h:btl kl len≤j):btx kl key len z j=0:=by
 unfold btl at h
 unfold btx
 by_cases e:kl=0
 · rw [if_pos e] at h ⊢; rw [if_neg JK]
 rw [if_neg e] at h ⊢
 rw [if_neg JK,if_neg JK]
theorem q7o (x:Int) (e:Nat) (he:e<4):x/2^min (((8*e:Nat):Int)).toNat IntKind.u32.bits=x/2^(8*e):=by
 rw [Int.toNat_natCast,Nat.min_eq_left (by show 8*e≤32; omega)]
theorem j3f (kp:Option Addr) (kl kc:Nat) (hk0:kl=0) (key:Nat→Int) (hkl:kl≤32) (hkk:In 256 kl key) (_hkn:kp=none→kc=0) (size:Nat) (hs1:1≤size) (hs2:size≤32) (sp:Option Addr) (len cap:Nat) (hl0:¬ len=0) (hlen:len≤140737488355072) (hn0:sp=none→cap=0) (z:Nat→Int) (hz:In 256 len z) (w:World) (hks:Src w kp kl key) (hs:Src w sp len z) :
 Calls Tryz.prog 95 #[.slice kp kl kc,.int .i64 (size:Int),.slice sp len cap] w fun e w'=>∃ sp' cap',e=.returned (.tuple #[.slice sp' size cap',.int .i64 0])∧(size≤cap'∧Src w' sp' size (aN kl key size len z))∧Below w.heap.size w w':=by
 have h1:¬ (size:Int)<1:=by omega
 have h1':¬ (size:Int)≤0:=by omega
 have h2:¬ 32<(size:Int):=by omega
 have h2':¬ 33≤(size:Int):=by omega
 have h3:¬ (32:Int)<(kl:Int):=by omega
 have h3':¬ (33:Int)≤(kl:Int):=by omega
 have K:=Kr.init w
 go_enter Tryz.func95,Tryz.ntmps95
 go_upto_region 3 with fail; refine wR ?_; refine xcL (rE _) ?_; rintro e w1 ⟨S,rfl,⟨hS1,hS2,HS⟩,l⟩; replace K:=(K.call l).own hS1 hS2 HS; clear l HS; refine xeL ?_; refine xmL ?_; show Exit.then _ _ _ _ _; go_upto_region 4 with fail; refine wR (xmL ?_)
 refine xmL ?_; refine xqL _ Yv ?_; refine ycL (.int .u32 (iv 0)) S 0 Tryz.underlying118 ((K.get _ _ _ _ mS).cell 0 JG) ?_
 refine xqL _ Js ?_; refine xmL ?_; refine xqL _ Jk ?_; refine xqL (.int .i64 (256*(kl:Int))) Jr ?_
 refine xqL (.int .u32 (256*(kl:Int))) Yt ?_; refine xqL _ Js ?_; refine xmL ?_
 refine xqL (.int .u32 (size:Int)) Yt ?_; refine xqL _ Js ?_
 refine xqL _ Yv ?_
 refine ywL .u32 (hxr (hxr (hxr (iv 0) 16842752) (256*(kl:Int))) (size:Int)) S 0 (by rw [(K.get _ _ _ _ mS).cell 0 JG]; rfl) ((K.get _ _ _ _ mS).free 0 JG) JU ?_
 replace K:Kr w w1.heap.size [(S,.u32,8,bh0 kl size)] [] (w1.setCell ⟨S,0,none⟩ (.int .u32 (hxr (hxr (hxr (iv 0) 16842752) (256*(kl:Int))) (size:Int)))):=K.setCell [] S .u32 8 iv 0 JG (hxr (hxr (hxr (iv 0) 16842752) (256*(kl:Int))) (size:Int)) mS YQ YQ hS1
 generalize w1.setCell ⟨S,0,none⟩ (.int .u32 (hxr (hxr (hxr (iv 0) 16842752) (256*(kl:Int))) (size:Int)))=w2 at K ⊢; show Exit.then _ _ _ _ _; go_upto_region 5 with fail; refine wR (xaL (w':=w2.alloc (.cells #[] 5)) (.slice (some ⟨w2.heap.size,0,none⟩) 0 0) JU ?_)
 refine xmL ?_
 have HT:Own (w2.alloc (.cells #[] 5)) w1.heap.size 5 .u8 0 (btx kl key len z) (.slice (some ⟨w2.heap.size,0,none⟩) 0 0):=Own.lit w2 w1.heap.size 5 .u8 0 (btx kl key len z) K.size Jj
 replace K:=K.call ((Below.refl w2.heap.size w2).alloc (xnR _) (.cells #[] 5)); generalize w2.alloc (.cells #[] 5)=w3 at K HT ⊢; generalize Value.slice (some ⟨w2.heap.size,0,none⟩) 0 0=tv at HT ⊢; generalize w1.heap.size=B at K HT hS2; show Exit.then _ _ _ _ _
 obtain rfl:kl=0:=hk0
 have hk0:(0:Nat)=0:=rfl
 obtain ⟨ts,tc,rfl,_,_⟩:=HT.bytes
 go_upto_region 8 with fail; refine wR (xm2 ?_)
 obtain ⟨v,w4,hr,ho,hg,_⟩:=jH (P:=Tryz.prog) (ty:=32) Tryz.underlying32 vG HT sp len cap z (hs.below K.below (xnR _)) hn0 Jj JK K.size
 replace K:=K.grown hg (fun b hb=>(World.ownsRow.lt HT b hb).1); refine xaL v (jW _ _ 32 _ _ _ rfl rfl rfl hr) ?_; refine xmL ?_
 replace HT:Own w4 B 5 .u8 (btl 0 len) (btx 0 key len z) v:=by
  have e:0+len=btl 0 len:=by unfold btl; rw [if_pos hk0]
  rw [← e]; refine ho.congr fun j hj=>?_
  unfold app btx; rw [if_neg JK,if_pos hk0,if_pos JK,Nat.sub_zero]
 clear hr ho hg
 obtain ⟨ts,tc,rfl,_,_⟩:=HT.bytes
 show Exit.then _ _ _ _ _; go_upto_region 9 with fail; refine wR (xmL ?_); refine xqL _ Jk ?_; refine xmL ?_; generalize Value.slice ts (btl 0 len) tc=tv at HT ⊢; show Exit.then _ _ _ _ _
 have hbt:0<btl 0 len:=by unfold btl; rw [if_pos hk0]; omega
 have hbt2:btl 0 len≤140737488355072:=by unfold btl; rw [if_pos hk0]; omega
 have hT1:¬ ((btl 0 len:Nat):Int)=0:=by omega
 have hTb:btl 0 len≤64*bnb 0 len∧64*bnb 0 len≤btl 0 len+63:=by unfold bnb; rw [if_neg JK]; omega
 go_wp2
 go_loopw [9] (fun tw w'=>∃ (n:Nat) (v:Value),v=tw∧btl 0 len≤n∧n≤64*bnb 0 len∧Own w' B 5 .u8 n (btx 0 key len z) v∧Kr w B [(S,.u32,8,bh0 0 size)] [] w') (fun tw _=>64*bnb 0 len-j5n tw)
 case atStart=>exact ⟨_,_,rfl,xnR _,hTb.1,HT,K⟩
 case round =>
  clear K HT; obtain ⟨NP,v,rfl,hn1,hn2,HT,K⟩:=hrel; obtain ⟨ts,tc,rfl,_,_⟩:=HT.bytes; by_cases hm:NP%64=0
  · have hm1:¬ 0<(NP:Int)%64:=by omega
    have hm2:(NP:Int)%64=0:=by omega
    have hm3:(NP:Int).tmod 64=0:=by rw [Int.tmod_eq_emod_of_nonneg JK]; omega
    have hN1:NP≤64*bnb 0 len:=hn2; have hN2:64*bnb 0 len≤NP:=by omega
    obtain ⟨_,_,hve,htcap,hsrc⟩:=HT.bytes; injection hve with hve1 _ hve3
    subst hve1 hve3; have hA:=K.get _ _ _ _ mS; have hAl:=xnL (K.rows _ mS).2 K.size; have hB:=K.below; clear K HT; go_wp2; go_loopw [8,11] (fun hw i w'=>∃ (p A capA:Nat),p≤bnb 0 len∧i=.int .i64 (64*(p:Int))∧hw=.slice (some ⟨A,0,none⟩) 8 capA∧Has w' A .u32 8 (bH 0 key size len z p)∧A<w'.heap.size∧Src w' ts NP (btx 0 key len z)∧Below w.heap.size w w') (fun _ i _=>NP-(intOf i).toNat)
    case atStart=>exact ⟨0,S,8,by omega,rfl,rfl,hA,hAl,hsrc,hB⟩
    case round =>
     clear hA hAl hsrc hB; obtain ⟨p,A,capA,hp,rfl,rfl,hA,hAl,hsrc,hB⟩:=hrel; have g1:(0:Int)≤64*(p:Int):=by omega
     by_cases hlt:p<bnb 0 len
     · have g2:64*(p:Int)<(NP:Int):=by omega
       obtain ⟨D,hD⟩:∃ D:Nat,D=min (64*p+64) (btl 0 len):=⟨_,rfl⟩
       have hm:(if (((btl 0 len:Nat):Int):Int)<64*(p:Int)+64 then (((btl 0 len:Nat):Int):Int) else 64*(p:Int)+64)=(D:Int):=by rw [hD]; split <;> omega
       obtain ⟨sq,hq1,hq2⟩:=j7g (P:=Tryz.prog) (t:=32) JU JW ts NP tc (64*p) (64*p+64) JK JK htcap; have hpc:64*p+64-64*p=64:=by omega
       rw [hpc] at hq1 hq2; have ec:((64*p:Nat):Int)=64*(p:Int):=by omega
       have ec2:((64*p+64:Nat):Int)=64*(p:Int)+64:=by omega
       rw [ec,ec2] at hq1; have hla:(64*(p:Int)+64 == (NP:Int))=decide (p+1=bnb 0 len):=by
        by_cases e:p+1=bnb 0 len
        · rw [decide_eq_true e]; simp; omega
        rw [decide_eq_false e]; simp; omega
       go_upto_region 16 with fail; refine wR (xmL ?_); refine xqL (.int .i64 (64*(p:Int)+64)) Je ?_; refine xmL ?_; refine xqL (.int .i64 (D:Int)) Vr ?_; refine xmL ?_; show Exit.then _ _ _ _ _; go_upto_region 17 with fail; refine wR (xm2 ?_); refine xm2 ?_
       refine xqL (.int .i64 (64*(p:Int)+64)) Je ?_; refine xqL (.slice sq 64 (tc-64*p)) Ur ?_; refine xmL ?_; refine xqL (.int .u64 (D:Int)) (fun w=>mZ .i64 .u64 _ _ _ _ _ rfl JU Tryz.underlying54 JU rfl (x4k _ JK JK) w) ?_; refine xmL ?_; refine xqL (.int .i64 (64*(p:Int)+64)) Je ?_; refine xmL ?_; refine xqL _ Jk ?_; refine xqL (.bool (decide (p+1=bnb 0 len))) (fun w=>kS .i64 _ _ _ _ _ _ rfl rfl rfl _ hla w) ?_; refine xcL (j1j (bH 0 key size len z p) (x0y 0 key size len z hkl hs2 p) A capA sq (tc-64*p) (fun j=>(btx 0 key len z) (64*p+j)) (fun j _=>x3q 0 key len z hkk hz _) (D:Int) JK (decide (p+1=bnb 0 len)) _ hA hAl (hq2 _ _ hsrc)) ?_; rintro e w7 ⟨O,cap2,rfl,⟨hO1,hO2,HO⟩,l⟩; replace hsrc:=hsrc.below l (xnR _); replace hB:=hB.trans (l.mono hB.size); refine xeL ?_; refine xmL ?_; show Exit.inBlock _ _ _ _ _
       rw [hD] at HO; have HS:=show Hid _ from (And.intro (show Has w7 O .u32 8 (bH 0 key size len z (p+1)) from HO) (And.intro hO2 (And.intro hsrc hB))); clear HO hsrc hB hA hAl hm hq1 hq2 hpc ec ec2 hla hD l; go_wp2
       go_roundw
       case rel=>first | exact ⟨p+1,O,cap2,by omega,by go_num,rfl,HS.out⟩ | ((repeat apply Exists.intro); refine ⟨⟨p+1,O,cap2,by omega,by go_num,rfl,HS.out⟩,rfl⟩)
       case measure=>simp [intOf]; omega
     obtain rfl:p=bnb 0 len:=by omega
     have K:Kr w wr.heap.size [(A,.u32,8,bH 0 key size len z (bnb 0 len))] [] wr:=⟨fun p hp=>by obtain rfl:=xm1 hp; exact ⟨hA,hAl⟩,fun _ h=>Vc,fun _ _ _ h=>Vc,xnR _,hB.size,hB⟩
     have hbs:∀ n,b32 (bH 0 key size len z (bnb 0 len) (n/4)) (n%4)=aN 0 key size len z n:=fun _=>rfl
     clear hA hAl hsrc hB; generalize bH 0 key size len z (bnb 0 len)=F at K hbs; generalize hG:aN 0 key size len z=G at hbs; replace hG:=show Hid _ from hG; go_upto_region 18 with fail; refine wR (xaL (w':=wr.alloc (.cells #[] 5)) (.slice (some ⟨wr.heap.size,0,none⟩) 0 0) JU ?_)
     refine xmL ?_; have HO:Own (wr.alloc (.cells #[] 5)) wr.heap.size 5 .u8 0 G (.slice (some ⟨wr.heap.size,0,none⟩) 0 0):=Own.lit wr wr.heap.size 5 .u8 0 G (xnR _) Jj; replace K:=K.call ((Below.refl wr.heap.size wr).alloc (xnR _) (.cells #[] 5)); generalize wr.alloc (.cells #[] 5)=w8 at K HO ⊢; generalize Value.slice (some ⟨wr.heap.size,0,none⟩) 0 0=ov0 at HO ⊢; generalize wr.heap.size=B2 at K HO; show Exit.then _ _ _ _ _; go_wp2
     go_loopw [13,14] (fun ow i w'=>∃ (n:Nat) (ov:Value),n≤size∧i=.int .i64 (n:Int)∧ov=ow∧Own w' B2 5 .u8 n G ov∧Kr w B2 [(A,.u32,8,F)] [] w') (fun _ i _=>size-(intOf i).toNat)
     case atStart=>exact ⟨0,_,by omega,rfl,rfl,HO,K⟩
     case round =>
      clear K HO; obtain ⟨n,ov,hn,rfl,rfl,HO,K⟩:=hrel; have g3:(0:Int)≤(n:Int):=by omega
      by_cases hlt2:n<size
      · have g4:(n:Int)<(size:Int):=by omega
        go_upto_region 22 with fail; refine wR (xm3 ?_); refine xqL (.int .i64 ((n/4:Nat):Int)) (fun w=>x2d .i64 _ _ _ _ _ _ _ rfl rfl rfl JG (by rw [Int.tdiv_eq_ediv_of_nonneg g3,xw6]; omega) w) ?_; refine xqL _ Vo ?_; refine ycL (.int .u32 (F (n/4))) A (n/4) Tryz.underlying118 ((K.get _ _ _ _ mS).cell (n/4) JK) ?_; refine xmL ?_; refine xqL (.int .i64 ((n%4:Nat):Int)) (fun w=>mU .i64 _ _ _ _ _ _ _ rfl rfl rfl JG (by rw [Int.tmod_eq_emod_of_nonneg g3]; omega) w) ?_; refine xqL (.int .i64 ((8*(n%4):Nat):Int)) Jr ?_; refine xqL (.int .u32 (F (n/4)/2^(8*(n%4)))) (fun w=>q0f .u32 .i64 _ _ _ _ _ _ _ rfl rfl rfl JK (q7o _ _ (Nat.mod_lt _ JG)) w) ?_; refine xqL (.int .u8 (G n)) (fun w=>mZ .u32 .u8 _ _ _ _ _ rfl JU Tryz.underlying5 JU rfl ((q1u _ _ (Nat.mod_lt _ JG)).trans (hbs n)) w) ?_; refine xaL (w':=wr.alloc (.cells #[.int .u8 (G n)] 5)) (.slice (some ⟨wr.heap.size,0,none⟩) 1 1) JU ?_; obtain ⟨v,w9,hr,ho,hg⟩:=HO.more8 JK (G n) rfl 32 K.size; replace K:=(K.call ((Below.refl wr.heap.size wr).alloc (xnR _) (.cells #[.int .u8 (G n)] 5))).grown hg (fun b hb=>(World.ownsRow.lt HO b hb).1); refine xaL v (jW _ _ 32 _ _ _ rfl rfl rfl hr) ?_; refine xmL ?_; show Exit.inBlock _ _ _ _ _
        have HS:=show Hid _ from (And.intro ho K); clear K HO hr ho hg; go_wp2
        go_roundw
        case rel=>first | exact ⟨n+1,v,by omega,by go_num,rfl,HS.out⟩ | ((repeat apply Exists.intro); refine ⟨⟨n+1,v,by omega,by go_num,rfl,HS.out⟩,rfl⟩)
        case measure=>simp [intOf]; omega
      obtain rfl:n=size:=by omega
      obtain ⟨sp2,cap2,rfl,hc2,hsr2⟩:=HO.bytes; have hB:=K.below; clear K HO hlt2 hn g3; go_wp2; go_ret2; exact ⟨sp2,cap2,rfl,⟨hc2,by rw [hG.out]; exact hsr2⟩,hB⟩
  have hm1:0<(NP:Int)%64:=by omega
  have hm4:1≤(NP:Int)%64:=by omega
  have hm3:(NP:Int).tmod 64=(NP:Int)%64:=Int.tmod_eq_emod_of_nonneg JK; go_upto_region 11 with fail; refine wR (xmL ?_); refine xaL (w':=wr.alloc (.cells #[.int .u8 0] 5)) (.slice (some ⟨wr.heap.size,0,none⟩) 1 1) JU ?_; obtain ⟨v,w5,hr,ho,hg⟩:=HT.more8 JK 0 (q9g 0 key len z NP JK) 32 K.size; replace K:=(K.call ((Below.refl wr.heap.size wr).alloc (xnR _) (.cells #[.int .u8 0] 5))).grown hg (fun b hb=>(World.ownsRow.lt HT b hb).1); refine xaL v (jW _ _ 32 _ _ _ rfl rfl rfl hr) ?_; refine xmL ?_; show Exit.then _ _ _ _ _
  obtain ⟨ts2,tc2,rfl,_,_⟩:=ho.bytes; have HS:=show Hid _ from (And.intro ho K); clear HT K hr ho hg; go_wp2
  go_roundw
  case rel=>first | exact ⟨NP+1,_,rfl,by omega,by omega,HS.out⟩ | ((repeat apply Exists.intro); refine ⟨⟨NP+1,_,rfl,by omega,by omega,HS.out⟩,rfl⟩)
  case measure=>simp [j5n]; omega
section
section
variable {P:Program} {o:Oper} {a:Act}
theorem lZ (k:IntKind) (n n':Int) (t t':TypeId) (x y:Operand) (ho:o.op=.binOp .gtr t x y t') (hx:a.eval x=.int k n) (hy:a.eval y=.int k n') (r:Bool) (hr:decide (n>n')=r) (w:World):(execOp a.eval o).run P w=.ok (.value (.bool r)) w:=by
 unfold execOp
 simp only [ho,hx,hy,Sem.run_bind,eqGuard_at_int,binOp_gtr,Sem.run_pure,xO,hr]
end
theorem q8t {P:Program} {o:Oper} {a:Act} {w:World} (ty:TypeId) (k:IntKind) (x:Operand) (p:Addr) (v:Value) (ho:o.op=.load ty x) (hx:a.eval x=.pointer (some p)) (hu:P.underlying ty=some (.int k)) (hc:w.cell? p=some v):(execOp a.eval o).run P w=.ok (.value v) w:=by
 have hagg:(isAgg ty).run P w=.ok false w:=by
  exact Zu
 exact ZU
end
end Go.Proofs.YtknodlefhclijaaGreatDoor
