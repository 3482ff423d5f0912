/- Texts of Bg Ye Zl Zm Gm Vk Bd Bc Bf Hy Bq Be Bh Bz, joined. -/
import Derived.Test.YtknodlefhclijaaGreatDoorP13ShakePlays
set_option maxRecDepth 20000
set_option maxHeartbeats 64000000
namespace Go.Proofs.YtknodlefhclijaaGreatDoor
open Go.RowKit
def eL (j:Nat):Int:=if j%4=0 then (pA (j/4):Int) else if j%4=1 then (pB (j/4):Int) else if j%4=2 then (pC (j/4):Int) else (pD (j/4):Int)
structure BGlob (w:World):Prop where
 first:∀ j,j<8→w.cell? ⟨2,j,none⟩=some (.int .u32 (iv j))
 order:∀ j,j<160→w.cell? ⟨5,j,none⟩=some (.int .u8 (sgL.getD j 0:Nat))
 place:∀ j,j<32→w.cell? ⟨4,j,none⟩=some (.int .u8 (eL j))
 size:10≤w.heap.size
theorem BGlob.below {w w':World} (h:BGlob w) {B:Nat} (l:Below B w w') (hB:10≤B):BGlob w' :=
 ⟨fun j hj=>by rw [l.cell (p:=⟨2,j,none⟩) (xnL (show 2<10 by decide) hB)]; exact h.first j hj,fun j hj=>by rw [l.cell (p:=⟨5,j,none⟩) (xnL (show 5<10 by decide) hB)]; exact h.order j hj,fun j hj=>by rw [l.cell (p:=⟨4,j,none⟩) (xnL (show 4<10 by decide) hB)]; exact h.place j hj,xnT h.size l.size⟩
theorem BGlob.four {w:World} (h:BGlob w) (k:Nat) (hk:k<8):w.cell? ⟨4,k*4,none⟩=some (.int .u8 (pA k))∧w.cell? ⟨4,k*4+1,none⟩=some (.int .u8 (pB k))∧w.cell? ⟨4,k*4+2,none⟩=some (.int .u8 (pC k))∧w.cell? ⟨4,k*4+3,none⟩=some (.int .u8 (pD k)):=by
 have e1:eL (k*4)=(pA k:Int):=by unfold eL; rw [if_pos JK,show k*4/4=k by omega]
 have e2:eL (k*4+1)=(pB k:Int):=by unfold eL; rw [if_neg JK,if_pos JK,show (k*4+1)/4=k by omega]
 have e3:eL (k*4+2)=(pC k:Int):=by unfold eL; rw [if_neg JK,if_neg JK,if_pos JK,show (k*4+2)/4=k by omega]
 have e4:eL (k*4+3)=(pD k:Int):=by unfold eL; rw [if_neg JK,if_neg JK,if_neg JK,show (k*4+3)/4=k by omega]
 exact Xo
theorem BGlob.sg {w:World} (h:BGlob w) (r i:Nat) (hr:r<10) (hi:i<16):w.cell? ⟨5,r*16+i,none⟩=some (.int .u8 (sg r i)):=by
 have e:(sgL.getD (r*16+i) 0:Nat)=Go.Proofs.YtknodlefhclijaaGreatDoor.sg r i:=by unfold Go.Proofs.YtknodlefhclijaaGreatDoor.sg; rw [Nat.mul_comm]
 rw [← e]
 exact h.order _ JK
structure SGlob (w:World):Prop where
 a:AGlob w
 b:BGlob w
theorem SGlob.size {w:World} (g:SGlob w):10≤w.heap.size:=g.b.size
theorem SGlob.below {w w':World} (g:SGlob w) (l:Below w.heap.size w w'):SGlob w':=⟨g.a.below l g.size,g.b.below l g.size⟩
theorem SGlob.mm {w w':World} (g:SGlob w) {l:List (Nat × List Value)} (h:Mm w l w'):SGlob w':=g.below h.below
structure HGlob13 (w:World):Prop where
 s:SGlob w
 k:kGlob w
 t:Trs w
theorem HGlob13.mm {w w':World} (g:HGlob13 w) {l:List (Nat × List Value)} (h:Mm w l w'):HGlob13 w':=⟨g.s.mm h,g.k.below h.below g.s.size,g.t.below h.below g.s.size⟩
def dX (I:Value→Shk→List (Nat × List Value)→Prop) (F:FuncId) (r:Shk→List Int→Except Int (List Int × Shk)):Prop :=
 ∀ (w0 w:World) (v:Value) (s:Shk) (bs l:List (Nat × List Value)),HGlob13 w0→I v s bs→yY s→∀ (sp:Option Addr) (cap:Nat) (b:List Int),b.length≤140737488351232→b.length≤cap→(sp=none→cap=0)→Byts b →
  Mm w0 (bs++l) w→SrcA (bs.map Prod.fst) w sp b.length (bl b) →
  Calls Tryz.prog F #[v,.slice sp b.length cap] w fun e w'=>(∃ u,e=.returned (.tuple #[u,.int .i64 (shE (r s b))])∧vA w' w.heap.size (shB (r s b)) u)∧∃ bs',I v (shN s (r s b)) bs'∧(∀ p∈bs',p.1∈bs.map Prod.fst)∧Mm w0 (bs'++l) w'∧Off (bs.map Prod.fst) w w'
structure dZ (I:Value→Shk→List (Nat × List Value)→Prop):Prop where
 ptr:∀ v s bs,I v s bs→∃ R,v=.pointer (some ⟨R,0,none⟩)
 beg:∀ (w0 w:World) (l:List (Nat × List Value)) (a d:Nat→Int) (B:List Int),HGlob13 w0→In 256 32 a→In 256 32 d→B.length=32→Byts B→Mm w0 l w →
  Calls Tryz.prog 13 #[(.agg (row .u8 32 (a)).toArray),(.agg (row .u8 32 (d)).toArray),(.agg (row .u8 32 (bl B)).toArray)] w fun e w'=>∃ v bs,e=.returned v∧I v (qS a d B) bs∧(∀ p∈bs,w.heap.size≤p.1)∧Mm w0 (bs++l) w'∧Below w.heap.size w w'
 awt:∀ (w0 w:World) (l:List (Nat × List Value)) (b f:Nat→Int),HGlob13 w0→In 256 32 b→In 256 32 f→Mm w0 l w →
  Calls Tryz.prog 15 #[(.agg (row .u8 32 (b)).toArray),(.agg (row .u8 32 (f)).toArray)] w fun e w'=>∃ v bs,e=.returned v∧I v (yS LD b f) bs∧(∀ p∈bs,w.heap.size≤p.1)∧Mm w0 (bs++l) w'∧Below w.heap.size w w'
 fst:dX I 17 (shF LD)
 tfs:dX I 18 (uY LD)
 snd:dX I 19 (shS LD)
 tsn:dX I 16 (uK LD)
 oth:∀ (w0 w:World) (v:Value) (s:Shk) (bs l:List (Nat × List Value)),HGlob13 w0→I v s bs→Mm w0 (bs++l) w →
  Calls Tryz.prog 11 #[v] w fun e w'=>e=.returned (.tuple #[(.agg (row .u8 32 (bl s.its)).toArray),.bool (shO s)])∧Below w.heap.size w w'
 kys:∀ (w0 w:World) (v:Value) (s:Shk) (bs l:List (Nat × List Value)),HGlob13 w0→I v s bs→yY s→Mm w0 (bs++l) w →
  Calls Tryz.prog 9 #[v] w fun e w'=>e=.returned (.tuple #[.agg (shK s).toArray,.bool (shD s)])∧Below w.heap.size w w'
theorem x1p (k:Nat→Int):tm k (bl shz)=0:=by
 have hz:kz (uX (bl shz))=0:=by
  have:val 256 (uX (bl shz)) 32=0:=(gT _ (j1p _ (fun j hj=>(show Byts shz from fun x hx=>by rw [List.eq_of_mem_replicate hx]; exact ⟨Int.le_refl _,by decide⟩).bl j (by rw [show shz.length=32 from rfl]; exact hj)))).2 JG; unfold kz; rw [this]; rfl
 unfold tm
 rw [hz]
 exact Ed.nought inz q4w cz _
theorem q7t (a d:Nat→Int):shF LD (qS a d shz) []=.error 20:=bP (by unfold qS; simp) JG (x1p d)
section
section
variable {w0 w:World} {g x t:List (Nat × List Value)}
theorem Mm.lts (h:Mm w0 (g++t) w):∀ b∈g.map Prod.fst,b<w.heap.size:=fun b hb=>by
 obtain ⟨p,hp,rfl⟩:=List.mem_map.1 hb
 exact (h.rows p (List.mem_append_left _ hp)).2.2
theorem Mm.beside (h:Mm w0 (g++t) w) {B:Nat} {c:List Value} (hB:(B,c)∈t):B∉g.map Prod.fst:=fun hb=>by
 obtain ⟨p,hp,e⟩:=List.mem_map.1 hb
 exact (List.pairwise_append.1 h.apart).2.2 p hp (B,c) hB e
end
section
variable {α:Type} (x a b c g t:List α)
theorem kV:(x++(g++t)).Perm (g++(x++t)):=by
 rw [← List.append_assoc,← List.append_assoc]
 exact List.perm_append_comm.append_right t
theorem wZ:(x++(a++(g++t))).Perm (g++(x++(a++t))):=by
 have:=kV (x++a) g t
 rw [List.append_assoc,List.append_assoc] at this
 exact this
theorem rW:(x++(a++(b++(g++t)))).Perm (g++(x++(a++(b++t)))):=by
 have:=wZ (x++a) b g t
 rw [List.append_assoc,List.append_assoc] at this
 exact this
end
end
theorem q5m {P:Program} {o:Oper} {a:Act} (t e t':TypeId) (x y:Operand) (sp:Option Addr) (n c:Nat) (b:Bool) (ho:o.op=.binOp .eql t x y t') (hx:a.eval x=.slice sp n c) (hy:a.eval y=.slice none 0 0) (hu:P.underlying t=some (.slice e)) (hb:sp.isNone=b) (w:World) :
 (execOp a.eval o).run P w=.ok (.value (.bool b)) w:=by
 subst hb
 unfold execOp
 have e1:(eqGuard .eql t x y (.slice sp n c) (.slice none 0 0)).run P w=.ok () w:=rfl
 simp only [ho,hx,hy,Sem.run_bind,e1,Lib.run_eql_slice_nil w t e sp n c 0 0 hu,Sem.run_pure,xO]
def pk2 {α:Type} (a b:α):Nat→α
 | 0=>a
 | _=>b
theorem j9z (a b:Nat):tot (pk2 a b) 2=a+b:=by show 0+a+b=_; omega
theorem j7j {w:World} (C:Nat) (p1 p2:Option Addr) (l1 l2 c1 c2:Nat) (z1 z2:Nat→Int) (t:TypeId) (hC:C=w.heap.size) (h1:Src w p1 l1 z1) (h2:Src w p2 l2 z2) (n1:p1=none→c1=0) (n2:p2=none→c2=0) :
 CatIn (w.alloc (.cells #[.slice p1 l1 c1,.slice p2 l2 c2] t)) ⟨C,0,none⟩ 2 (pk2 p1 p2) (pk2 l1 l2) (pk2 c1 c2) (pk2 z1 z2):=by
 have hb:=(Below.refl w.heap.size w).alloc (xnR _) (.cells #[.slice p1 l1 c1,.slice p2 l2 c2] t)
 refine ⟨fun j hj=>?_,fun j hj=>?_,fun j hj=>?_⟩
 · rw [Addr.add_mid,World.cell?_alloc_at _ _ _ _ hC]
   match j,hj with
   | 0,_ | 1,_=>rfl
   | _+2,h=>omega
 · match j,hj with
   | 0,_=>exact h1.below hb (xnR _)
   | 1,_=>exact h2.below hb (xnR _)
   | _+2,h=>omega
 match j,hj with
 | 0,_=>exact n1
 | 1,_=>exact n2
 | _+2,h=>omega
theorem q6a (a b:Nat) (z1 z2:Nat→Int) (j:Nat):j2h (pk2 a b) (pk2 z1 z2) 2 j=app z1 a z2 j:=by
 show app (app (fun _=>0) 0 z1) (0+a) z2 j=app z1 a z2 j
 unfold app
 rw [nZ]
 by_cases h:j<a
 · rw [if_pos h,if_pos h,if_neg (xnZ j),Nat.sub_zero]
 rw [if_neg h,if_neg h]
theorem x5s (a b c:Nat) (z1 z2 z3:Nat→Int) (j:Nat):j2h (pk3 a b c) (pk3 z1 z2 z3) 3 j=app (app z1 a z2) (a+b) z3 j:=by
 show app (app (app (fun _=>0) 0 z1) (0+a) z2) (0+a+b) z3 j=app (app z1 a z2) (a+b) z3 j
 rw [nZ]
 unfold app
 by_cases h:j<a+b
 · rw [if_pos h,if_pos h]; by_cases h':j<a
   · rw [if_pos h',if_pos h',if_neg (xnZ j),Nat.sub_zero]
   rw [if_neg h',if_neg h']
 rw [if_neg h,if_neg h]
theorem j0c (sp:Option Addr) (len cap:Nat) (hlen:len≤140737488351248) (hc:len≤cap) (hnil:sp=none→cap=0) (z:Nat→Int) (w:World) (hs:Src w sp len z) :
 Calls Tryz.prog 87 #[.slice sp len cap] w fun e w'=>∃ v,e=.returned v∧Own w' w.heap.size 5 .u8 len z v∧Below w.heap.size w w':=by
 have hB:=Below.refl w.heap.size w
 cases sp with
 | none =>
   obtain rfl:len=0:=by have:=hnil rfl; omega
   obtain rfl:=hnil rfl; go_enter Tryz.func87,Tryz.ntmps87; go_upto_region 1 with fail; refine wR (xmL ?_); refine xqL (.bool true) (fun w=>q5m 32 5 _ _ _ none 0 0 true rfl rfl rfl Tryz.underlying32 rfl w) ?_; show Exit.then _ _ _ _ _; go_wp2; go_ret
   exact ⟨_,rfl,World.ownsRow_nil w _ _ 1,hB⟩
 | some ad =>
   go_enter Tryz.func87,Tryz.ntmps87; go_upto_region 1 with fail; refine wR (xmL ?_); refine xqL (.bool false) (fun w=>q5m 32 5 _ _ _ (some ad) len cap false rfl rfl rfl Tryz.underlying32 rfl w) ?_; show Exit.then _ _ _ _ _; go_upto_region 3 with fail; refine wR ?_
   refine xaL (w':=w.alloc (.cells #[] 5)) (.slice (some ⟨w.heap.size,0,none⟩) 0 0) JU ?_; refine xmL ?_; have hb1:=(Below.refl w.heap.size w).alloc (xnR _) (.cells #[] 5); obtain ⟨v,w2,hr,ho,hgr,_⟩:=jH (P:=Tryz.prog) (ty:=32) Tryz.underlying32 vG (Own.lit w w.heap.size 5 .u8 0 (fun _=>0) (xnR _) Jj) (some ad) (len) (cap) (z) ((hs).below hb1 (xnR _)) Jq Jj JK hb1.size; have hb2:=hb1.grown hgr hb1.size Uo; refine xaL v (jW _ _ 32 _ _ _ rfl rfl rfl hr) ?_; have hO:Own w2 w.heap.size 5 .u8 (len) (z) v:=by
    rw [nZ] at ho; exact ho.congr fun j _=>by unfold app; rw [if_neg (xnZ j),Nat.sub_zero]
   clear hr ho hgr hb1; refine xmL ?_; show Exit.then _ _ _ _ _; go_wp2; go_ret
   exact ⟨_,rfl,hO,hb2⟩
def q9z:Prop:=∀ (sp:Option Addr) (len cap:Nat),len≤140737488355072→len≤cap→(sp=none→cap=0)→∀ z:Nat→Int,In 256 len z→∀ w:World,BGlob w→Src w sp len z →
 Calls Tryz.prog 74 #[.slice sp len cap] w fun e w'=>e=.returned (.agg (row .u8 32 (jB len z)).toArray)∧Below w.heap.size w w'
def x4j:Prop:=∀ (kp:Option Addr) (kl kc:Nat),kl≤140737488355072→kl≤kc→(kp=none→kc=0)→∀ key:Nat→Int,In 256 kl key→∀ (sp:Option Addr) (len cap:Nat),len≤140737488354816→len≤cap→(sp=none→cap=0)→∀ z:Nat→Int,In 256 len z→∀ w:World,BGlob w→Src w kp kl key→Src w sp len z →
 Calls Tryz.prog 147 #[.slice kp kl kc,.slice sp len cap] w fun e w'=>e=.returned (.agg (row .u8 32 (yD kl key len z)).toArray)∧Below w.heap.size w w'
theorem zQ (f:Nat→Int):(Tryz.prog.info? 139).map (·.size)=some (row .u32 8 f).length:=by rw [jX]; kernel_rfl
theorem vT (f:Nat→Int):(Tryz.prog.info? 139).map (·.size)=some (row .u32 8 f).toArray.size:=by rw [xA]; exact zQ f
theorem q1p {w:World} {b:Nat} {f g:Nat→Int} (h:Has w b .u32 8 f):w.there b 0 (row .u32 8 g).toArray.size:=by rw [xA,jX]; exact h.there
theorem sV (w:World) (t:TypeId) (b:Nat) (hb:b=w.heap.size):Has (w.alloc (.cells gV t)) b .u32 8 (fun _=>0):=Has.new w .u32 8 (fun _=>0) t b hb
theorem sU (f:Nat→Int):(Tryz.prog.info? 165).map (·.size)=some (row .u32 16 f).length:=by rw [jX]; kernel_rfl
theorem nJ (f:Nat→Int):(Tryz.prog.info? 165).map (·.size)=some (row .u32 16 f).toArray.size:=by rw [xA]; exact sU f
theorem tG (w:World) (t:TypeId) (b:Nat) (hb:b=w.heap.size):Has (w.alloc (.cells yT t)) b .u32 16 (fun _=>0):=Has.new w .u32 16 (fun _=>0) t b hb
theorem q6i (w:World) (t:TypeId) (b:Nat) (hb:b=w.heap.size):Has (w.alloc (.cells xL t)) b .u8 64 (fun _=>0):=Has.new w .u8 64 (fun _=>0) t b hb
theorem ixS (b i:Nat) (hi:i<8) (w:World) {o:Oper} {a:Act} (x y:Operand) (ho:o.op=.indexAddr 139 x y) (hx:a.eval x=.pointer (some ⟨b,0,none⟩)) (hy:a.eval y=.int .i64 (i:Int)) :
 (execOp a.eval o).run Tryz.prog w=.ok (.value (.pointer (some ⟨b,i,none⟩))) w:=by
 have h:=uD (P:=Tryz.prog) 139 118 8 .i64 b 0 i x y Tryz.underlying139 JW hi ho hx hy w
 exact XH
theorem ixW (b i:Nat) (hi:i<16) (w:World) {o:Oper} {a:Act} (x y:Operand) (ho:o.op=.indexAddr 165 x y) (hx:a.eval x=.pointer (some ⟨b,0,none⟩)) (hy:a.eval y=.int .i64 (i:Int)) :
 (execOp a.eval o).run Tryz.prog w=.ok (.value (.pointer (some ⟨b,i,none⟩))) w:=by
 have h:=uD (P:=Tryz.prog) 165 118 16 .i64 b 0 i x y Tryz.underlying165 JW hi ho hx hy w
 exact XH
theorem aR (b i:Nat) (hi:i<16) (w:World) {o:Oper} {a:Act} (x y:Operand) (ho:o.op=.indexAddr 165 x y) (hx:a.eval x=.pointer (some ⟨b,0,none⟩)) (hy:a.eval y=.int .u8 (i:Int)) :
 (execOp a.eval o).run Tryz.prog w=.ok (.value (.pointer (some ⟨b,i,none⟩))) w:=by
 have h:=uD (P:=Tryz.prog) 165 118 16 .u8 b 0 i x y Tryz.underlying165 JW hi ho hx hy w
 exact XH
theorem ixV (b i:Nat) (hi:i<8) (w:World) {o:Oper} {a:Act} (x y:Operand) (ho:o.op=.indexAddr 138 x y) (hx:a.eval x=.pointer (some ⟨b,0,none⟩)) (hy:a.eval y=.int .i64 (i:Int)) :
 (execOp a.eval o).run Tryz.prog w=.ok (.value (.pointer (some ⟨b,i,none⟩))) w:=by
 have h:=uD (P:=Tryz.prog) 138 118 8 .i64 b 0 i x y Tryz.underlying138 JW hi ho hx hy w
 exact XH
theorem q9l (b k:Nat) (hk:k<16) (w:World):(Instr.sliceAt 134 (.pointer (some ⟨b,0,none⟩)) (some (.int .i64 (4*(k:Int)))) none none).run Tryz.prog w=.ok (.slice (some ⟨b,4*k,none⟩) (64-4*k) (64-4*k)) w:=by
 exact ZY
theorem q6p (b k:Nat) (hk:k<8) (w:World):(Instr.sliceAt 23 (.pointer (some ⟨b,0,none⟩)) (some (.int .i64 (4*(k:Int)))) none none).run Tryz.prog w=.ok (.slice (some ⟨b,4*k,none⟩) (32-4*k) (32-4*k)) w:=by
 exact ZV
theorem fJ (a b c:Int) (ha:0≤a∧a<V) (hb:0≤b∧b<V) (hc:0≤c∧c<V):hxr (hxr a b) c=hxr a (hxr b c):=by
 obtain ⟨a,rfl⟩:=xiN ha.1
 obtain ⟨b,rfl⟩:=xiN hb.1
 obtain ⟨c,rfl⟩:=xiN hc.1
 have a2:=ha.2; have b2:=hb.2; have c2:=hc.2
 simp only [V] at a2 b2 c2
 have h1:a ^^^ b<2^32:=Nat.xor_lt_two_pow JK JK
 have h2:b ^^^ c<2^32:=Nat.xor_lt_two_pow JK JK
 unfold hxr
 rw [u32_xor_nat a b JK JK,u32_xor_nat b c JK JK,u32_xor_nat _ c JK JK,u32_xor_nat a _ JK JK,Nat.xor_assoc]
theorem nY (sp:Option Addr) (len cap:Nat) (hlen:len≤64) (z:Nat→Int) (hz:In 256 len z) (w:World) (hs:Src w sp len z) :
 Calls Tryz.prog 143 #[.slice sp len cap] w fun e w'=>e=.returned (.agg (row .u32 16 (bpw (xJ len z))).toArray)∧Below w.heap.size w w':=by
 have K:=Kr.init w; replace K:=K.make 16 yT 165 (w.heap.size) rfl (tG _ _ _ rfl).there; replace K:=K.boxO .u8 64 (fun _=>0) (.cells xL 134) (w.heap.size+1) Jf (q6i _ _ _ Jf)
 go_enter Tryz.func143,Tryz.ntmps143
 go_upto_region 2 with fail; generalize ((w.alloc (.cells yT 165)).alloc (.cells xL 134))=w0 at K ⊢; have HR:=K.get _ _ _ _ mS; replace K:=K.loose [] (w.heap.size+1) .u8 64 (fun _=>0) mS YQ YQ JK; refine wR (xpL (.slice (some ⟨w.heap.size+1,0,none⟩) 64 64) ?_); refine xmL ?_
 refine xaL (.int .i64 (len:Int)) (uE _ _ 32 32 5 rfl Tryz.underlying32 JU (w.heap.size+1) 64 64 len cap 64 sp z rfl rfl hlen hlen HR.there (hs.below K.below (xnR _))) ?_; replace K:=K.fill (w.heap.size+1) 64 mS (row .u8 len z)
 replace HR:=(HR.part 0 len JK z).congr (g:=xJ len z) (fun j hj=>by
  unfold uA xJ; by_cases e:j<len
  · rw [if_pos JK,if_pos e,Nat.sub_zero]
  rw [if_neg JK,if_neg e])
 replace K:=K.settle [(w.heap.size,16)] (w.heap.size+1) .u8 64 (xJ len z) mS KZ YW HR; generalize w0.setCells (w.heap.size+1) 0 (row .u8 len z)=w1 at K ⊢; clear HR w0 hs; show Exit.then _ _ _ _ _; go_upto_region 3 with fail; have zX:=K.size
 replace K:=K.boxO .u32 16 (fun _=>0) (.cells yT 165) w1.heap.size rfl (tG _ _ _ rfl); go_upto_region 4 with fail; generalize hw:w1.alloc (.cells yT 165)=w2 at K ⊢; clear hw; generalize w1.heap.size=X at *; have hp:=tP len z hz 64; generalize hpp:xJ len z=p at *; go_wp2
 go_loopw [9] (fun i w'=>∃ (n:Nat) (f:Nat→Int),n≤16∧i=.int .i64 n∧Kr w (X+1) [(X,.u32,16,f),(w.heap.size+1,.u8,64,p)] [(w.heap.size,16)] w'∧∀ j,j<n→f j=bpw p j) (fun i _=>16-(intOf i).toNat)
 case atStart=>exact ⟨0,_,by omega,rfl,K,fun j hj=>by omega⟩
 case round =>
  clear K; obtain ⟨n,f,hn,rfl,K,hd⟩:=hrel; have g1:(0:Int)≤(n:Int):=by omega
  by_cases hlt:n<16
  · have g2:(n:Int)<16:=by omega
    go_upto_region 7 with fail; refine wR (xm2 ?_); refine xqL (.int .i64 (4*(n:Int))) GW ?_; refine xqL (.slice (some ⟨w.heap.size+1,4*n,none⟩) (64-4*n) (64-4*n)) (fun w'=>mY _ _ _ _ _ _ rfl rfl rfl (q9l (w.heap.size+1) n hlt w')) ?_; refine xcL (cS (w.heap.size+1) (4*n) 64 (64-4*n) (64-4*n) p JK JK hp _ (K.get _ _ _ _ (mT _ mS))) ?_; rintro e w3 ⟨q,rfl,rfl⟩; replace K:=K.drewN (q:=q); refine xeL ?_; refine xqL (.pointer (some ⟨X,n,none⟩)) (fun w'=>ixW X n hlt w' _ _ rfl rfl rfl) ?_; refine ywL .u32 (w32 p (4*n)) X n Ue ((K.get _ _ _ _ mS).free n hlt) JU ?_; replace K:=K.setCell [(w.heap.size+1,.u8,64,p)] X .u32 16 f n hlt (w32 p (4*n)) mS Jx Jv JK; have HS:=show Hid _ from (And.intro K (show ∀ j,j<n+1→upd f n (w32 p (4*n)) j=bpw p j from fun j hj=>by
     by_cases e:j=n
     · subst e; rw [jP]; rfl
     rw [jR _ _ _ _ e]; exact hd j JK))
    clear K hd; generalize (wr.drewN q).setCell ⟨X,n,none⟩ (.int .u32 (w32 p (4*n)))=w4 at HS ⊢; generalize upd f n (w32 p (4*n))=f' at HS; show Exit.inBlock _ _ _ _ _
    exact QG
  obtain rfl:n=16:=by omega
  have HR:=(K.get _ _ _ _ mS).congr (g:=bpw p) (fun j hj=>hd j hj); have hz':=(K.room _ mS).1; have hB:=(K.fill _ _ mS (row .u32 16 (bpw p))).below; clear K hd hlt hn g1; generalize hf:bpw p=g at *; go_wp2_with (first | (refine yl (HR) Tryz.underlying165 (sU _) ?_) | (refine ys .u32 16 g (jM hz') (nJ _) ?_)); exact bRq (v:=(.agg (row .u32 16 (g)).toArray)) (jQ Tryz.results143 rfl (Has.all hz' .u32 g).range Tryz.underlying165 rfl (sU g)) rfl ⟨by rw [← hf,← hpp],hB⟩
theorem j7n (kl size:Nat) (hk:kl≤32) (hz:size≤32) (w:World) (hg:BGlob w) :
 Calls Tryz.prog 118 #[.int .i64 (kl:Int),.int .i64 (size:Int)] w fun e w'=>e=.returned (.agg (row .u32 8 (bh0 kl size)).toArray)∧Below w.heap.size w w':=by
 have K:=Kr.init w; replace K:=K.make 8 gV 139 (w.heap.size) rfl (sV _ _ _ rfl).there; replace K:=K.boxO .u32 8 (fun _=>0) (.cells gV 139) (w.heap.size+1) Jf (sV _ _ _ Jf)
 go_enter Tryz.func118,Tryz.ntmps118
 go_upto_region 2 with fail; generalize ((w.alloc (.cells gV 139)).alloc (.cells gV 139))=w0 at K ⊢; go_wp2
 go_loopw [7] (fun i w'=>∃ (n:Nat) (f:Nat→Int),n≤8∧i=.int .i64 n∧Kr w (w.heap.size+1+1) [(w.heap.size+1,.u32,8,f)] [(w.heap.size,8)] w'∧∀ j,j<n→f j=iv j) (fun i _=>8-(intOf i).toNat)
 case atStart=>exact ⟨0,_,by omega,rfl,K,fun j hj=>by omega⟩
 case round =>
  clear K; obtain ⟨n,f,hn,rfl,K,hd⟩:=hrel; have g1:(0:Int)≤(n:Int):=by omega
  by_cases hlt:n<8
  · have g2:(n:Int)<8:=by omega
    go_upto_region 5 with fail; refine wR (xm2 ?_); refine xqL (.pointer (some ⟨2,n,none⟩)) (fun w'=>ixV 2 n hlt w' _ _ rfl rfl rfl) ?_; refine ycL (.int .u32 (iv n)) 2 n Tryz.underlying118 ((hg.below K.below hg.size).first n hlt) ?_; refine xqL (.pointer (some ⟨w.heap.size+1,n,none⟩)) (fun w'=>ixS (w.heap.size+1) n hlt w' _ _ rfl rfl rfl) ?_; refine ywL .u32 (iv n) (w.heap.size+1) n Ue ((K.get _ _ _ _ mS).free n hlt) JU ?_; replace K:=K.setCell [] (w.heap.size+1) .u32 8 f n hlt (iv n) mS YQ YQ JK; have HS:=show Hid _ from (And.intro K (show ∀ j,j<n+1→upd f n (iv n) j=iv j from fun j hj=>by
     by_cases e:j=n
     · exact Zz
     rw [jR _ _ _ _ e]; exact hd j JK))
    clear K hd; generalize wr.setCell ⟨w.heap.size+1,n,none⟩ (.int .u32 (iv n))=w4 at HS ⊢; generalize upd f n (iv n)=f' at HS; show Exit.inBlock _ _ _ _ _
    exact QG
  obtain rfl:n=8:=by omega
  have i0:=iv_in 0 JK; have i1:0≤(16842752:Int)∧(16842752:Int)<V:=by decide
  have i2:0≤256*(kl:Int)∧256*(kl:Int)<V:=by simp only [V]; omega
  have i3:0≤(size:Int)∧(size:Int)<V:=by simp only [V]; omega
  have HX:hxr (f 0) (hxr (hxr 16842752 (256*(kl:Int))) (size:Int))=hxr (hxr (hxr (iv 0) 16842752) (256*(kl:Int))) (size:Int):=by
   rw [hd 0 JK,fJ (hxr (iv 0) 16842752) _ _ (yN _ _ i0 i1) i2 i3,fJ (iv 0) _ _ i0 i1 (yN _ _ i2 i3),fJ 16842752 _ _ i1 i2 i3]
  go_upto_region 7 with fail; refine wR (xqL (.pointer (some ⟨w.heap.size+1,0,none⟩)) (fun w'=>ixS (w.heap.size+1) 0 JG w' _ _ rfl rfl rfl) ?_); refine ycL (.int .u32 (f 0)) (w.heap.size+1) 0 Tryz.underlying118 ((K.get _ _ _ _ mS).cell 0 JG) ?_; refine xmL ?_; refine xqL (.int .u32 (kl:Int)) Yt ?_; refine xqL (.int .u32 (256*(kl:Int))) (fun w=>j9j .u32 .u64 _ 8 _ _ _ _ _ rfl rfl rfl JG (by rw [IntKind.wrap_u32',show (2:Int)^min (8:Int).toNat IntKind.u32.bits=256 from by decide]; omega) w) ?_; refine xqL _ Js ?_; refine xmL ?_; refine xqL (.int .u32 (size:Int)) Yt ?_; refine xqL _ Js ?_; refine xqL _ (fun w=>j2i .u32 _ _ _ _ _ _ _ rfl rfl rfl HX w) ?_; refine xqL (.pointer (some ⟨w.heap.size+1,0,none⟩)) (fun w'=>ixS (w.heap.size+1) 0 JG w' _ _ rfl rfl rfl) ?_; refine ywL .u32 (hxr (hxr (hxr (iv 0) 16842752) (256*(kl:Int))) (size:Int)) (w.heap.size+1) 0 (by rw [(K.get _ _ _ _ mS).cell 0 JG]; rfl) ((K.get _ _ _ _ mS).free 0 JG) JU ?_; replace K:=K.setCell [] (w.heap.size+1) .u32 8 f 0 JG (hxr (hxr (hxr (iv 0) 16842752) (256*(kl:Int))) (size:Int)) mS YQ YQ JK; have HR:=(K.get _ _ _ _ mS).congr (g:=bh0 kl size) (fun j hj=>by
   unfold bh0; by_cases e:j=0
   · subst e; rw [jP,jP]
   rw [jR _ _ _ _ e,jR _ _ _ _ e]; exact hd j hj)
  generalize wr.setCell ⟨w.heap.size+1,0,none⟩ (.int .u32 (hxr (hxr (hxr (iv 0) 16842752) (256*(kl:Int))) (size:Int)))=w5 at K HR ⊢; have hz':=(K.room _ mS).1; have hB:=(K.fill _ _ mS (row .u32 8 (bh0 kl size))).below; clear K hd hlt hn g1 HX; generalize hf:bh0 kl size=g at *; show Exit.then _ _ _ _ _
  go_wp2_with (first | (refine yl (HR) Tryz.underlying139 (zQ _) ?_) | (refine ys .u32 8 g (jM hz') (vT _) ?_)); exact bRq (v:=(.agg (row .u32 8 (g)).toArray)) (jQ Tryz.results118 rfl (Has.all hz' .u32 g).range Tryz.underlying139 rfl (zQ g)) rfl ⟨rfl,hB⟩
theorem q1r {h:Nat→Int} {n:Nat} {g:Nat→Int} (hd:∀ j,j<4*n→g j=eC h j) (j:Nat) (hj:j<4*(n+1)):uA g (4*n) 4 (b32 (h n)) j=eC h j:=by
 unfold uA
 by_cases e:4*n≤j∧j<4*n+4
 · rw [if_pos e]; unfold eC; rw [show j/4=n by omega,show j%4=j-4*n by omega]
 rw [if_neg e]; exact hd j JK
theorem j7m (h:Nat→Int) (w:World) :
 Calls Tryz.prog 119 #[(.agg (row .u32 8 (h)).toArray)] w fun e w'=>e=.returned (.agg (row .u8 32 (eC h)).toArray)∧Below w.heap.size w w':=by
 have K:=Kr.init w; replace K:=K.box .u32 8 h 139 (w.heap.size) rfl; replace K:=K.make 32 jY 23 (w.heap.size+1) Jf (jK _ _ _ Jf).there; replace K:=K.make 32 jY 23 (w.heap.size+1+1) Jf (jK _ _ _ Jf).there; have H:=jK ((w.alloc (.cells (row .u32 8 h).toArray 139)).alloc (.cells jY 23)) 23 (w.heap.size+1+1) Jf
 go_enter Tryz.func119,Tryz.ntmps119
 go_upto_region 2 with fail; generalize (((w.alloc (.cells (row .u32 8 h).toArray 139)).alloc (.cells jY 23)).alloc (.cells jY 23))=w0 at K H ⊢; go_wp2
 go_loopw [5] (fun i w'=>∃ (n:Nat) (g:Nat→Int),n≤8∧i=.int .i64 n∧Kr w (w.heap.size+1+1+1) [(w.heap.size,.u32,8,h)] [(w.heap.size+1+1,32),(w.heap.size+1,32)] w'∧Has w' (w.heap.size+1+1) .u8 32 g∧∀ j,j<4*n→g j=eC h j) (fun i _=>8-(intOf i).toNat)
 case atStart=>exact ⟨0,_,by omega,rfl,K,H,fun j hj=>by omega⟩
 case round =>
  clear K H; obtain ⟨n,g,hn,rfl,K,H,hd⟩:=hrel; have g1:(0:Int)≤(n:Int):=by omega
  by_cases hlt:n<8
  · have g2:(n:Int)<8:=by omega
    have HD:=show Hid _ from fun j hj=>q1r hd j hj; clear hd; go_upto_region 5 with fail; refine wD (S:=fun w'=>Kr w (w.heap.size+1+1+1) [(w.heap.size,.u32,8,h)] [(w.heap.size+1+1,32),(w.heap.size+1,32)] w') JU K.drew ?_; clear K; intro K; replace H:=H.drew; refine xmH 0 8 K ?_
    refine xqH 1 9 rfl (.int .i64 (4*(n:Int))) GW K ?_; refine xqH 2 10 rfl (.slice (some ⟨w.heap.size+1+1,4*n,none⟩) (32-4*n) (32-4*n)) (fun w'=>mY _ _ _ _ _ _ rfl rfl rfl (q6p (w.heap.size+1+1) n hlt w')) K ?_; refine xmH 3 11 K ?_; refine xqH 4 12 rfl (.pointer (some ⟨w.heap.size,n,none⟩)) Vw K ?_; refine ycH 5 13 (.int .u32 (h n)) (w.heap.size) n Tryz.underlying118 K (fun _ h=>(h.get _ _ _ _ mS).cell n hlt) ?_; refine yaH 6 14 (wY (w.heap.size+1+1) (4*n) 32 (32-4*n) (32-4*n) JK g (h n) JK _ H) ?_; rintro e w' ⟨rfl,rfl⟩; replace K:=K.poke (w.heap.size+1+1) 32 mS (4*n) (row .u8 4 (b32 (h n))); replace H:=H.part (4*n) 4 JK (b32 (h n)); refine ⟨_,rfl,K,nH ?_⟩; refine wE JU ?_ _; have HS:=show Hid _ from (And.intro K (And.intro H HD.out)); clear K H HD; generalize (wr.drew.setCells (w.heap.size+1+1) (4*n) (row .u8 4 (b32 (h n))))=w6 at *; go_wp2
    go_roundw
    case rel=>first | exact ⟨n+1,_,by omega,by go_num,HS.out⟩ | ((repeat apply Exists.intro); refine ⟨⟨n+1,_,by omega,by go_num,HS.out⟩,rfl⟩)
    case measure=>simp [intOf]; omega
  obtain rfl:n=8:=by omega
  have h1:=H.congr (g:=eC h) (fun j hj=>hd j JK); have hz:=(K.room _ (mT _ mS)).1; have hB:=(K.fill _ _ (mT _ mS) (row .u8 32 (eC h))).below; clear K H hd hlt hn g1; generalize hf:eC h=f at *; go_wp2_with (first | (refine yl (h1) Tryz.underlying23 (jJ _) ?_) | (refine ys .u8 32 f (jM hz) (jV _) ?_)); exact bRq (v:=(.agg (row .u8 32 (f)).toArray)) (jQ Tryz.results119 rfl (Has.all hz .u8 _).range Tryz.underlying23 rfl (jJ _)) rfl ⟨rfl,hB⟩
theorem j4s (h:Nat→Int) (t:Int) (last:Bool) (w:World) (hg:BGlob w) :
 Calls Tryz.prog 160 #[(.agg (row .u32 8 (h)).toArray),.int .u64 t,.bool last] w fun e w'=>e=.returned (.agg (row .u32 16 (bst h t last)).toArray)∧Below w.heap.size w w':=by
 have K:=Kr.init w; replace K:=K.box .u32 8 h 139 (w.heap.size) rfl; replace K:=K.make 16 yT 165 (w.heap.size+1) Jf (tG _ _ _ Jf).there; replace K:=K.boxO .u32 16 (fun _=>0) (.cells yT 165) (w.heap.size+1+1) Jf (tG _ _ _ Jf)
 go_enter Tryz.func160,Tryz.ntmps160
 go_upto_region 2 with fail; generalize (((w.alloc (.cells (row .u32 8 h).toArray 139)).alloc (.cells yT 165)).alloc (.cells yT 165))=w0 at K ⊢; go_wp2
 go_loopw [9] (fun i w'=>∃ (n:Nat) (f:Nat→Int),n≤8∧i=.int .i64 n∧Kr w (w.heap.size+1+1+1) [(w.heap.size+1+1,.u32,16,f),(w.heap.size,.u32,8,h)] [(w.heap.size+1,16)] w'∧∀ j,j<n→f j=h j∧f (j+8)=iv j) (fun i _=>8-(intOf i).toNat)
 case atStart=>exact ⟨0,_,by omega,rfl,K,fun j hj=>by omega⟩
 case round =>
  clear K; obtain ⟨n,f,hn,rfl,K,hd⟩:=hrel; have g1:(0:Int)≤(n:Int):=by omega
  by_cases hlt:n<8
  · have g2:(n:Int)<8:=by omega
    have l8:n<16:=by omega
    have l88:n+8<16:=by omega
    go_upto_region 5 with fail; have HR:=(K.get _ _ _ _ mS).drew; replace K:=K.loose [(w.heap.size,.u32,8,h)] (w.heap.size+1+1) .u32 16 f mS Jx Jv JK; refine hdG K ?_; clear K; intro K; generalize wr.drew=w1 at K HR ⊢; refine xmH 0 12 K ?_; refine xmH 1 13 K ?_; refine xqH 2 14 rfl (.int .i64 ((n+8:Nat):Int)) Je K ?_; refine xmH 3 15 K ?_; refine xqH 4 16 rfl (.pointer (some ⟨w.heap.size,n,none⟩)) Vw K ?_; refine ycH 5 17 (.int .u32 (h n)) (w.heap.size) n Tryz.underlying118 K (fun _ h=>(h.get _ _ _ _ mS).cell n hlt) ?_; refine xmH 6 18 K ?_; refine xqH 7 19 rfl (.pointer (some ⟨2,n,none⟩)) (fun w'=>ixV 2 n hlt w' _ _ rfl rfl rfl) K ?_; refine ycH 8 20 (.int .u32 (iv n)) 2 n Tryz.underlying118 K (fun _ h=>(hg.below h.below hg.size).first n hlt) ?_; refine xqH 9 21 rfl (.pointer (some ⟨w.heap.size+1+1,n,none⟩)) (fun w'=>ixW (w.heap.size+1+1) (n) l8 w' _ _ rfl rfl rfl) K ?_; refine gM (i:=10) none rfl .u32 (h n) (w.heap.size+1+1) (n) 118 _ _ JU rfl rfl rfl rfl rfl (by rw [HR.cell (n) l8]; rfl) (HR.free (n) l8) JU (K.poke (w.heap.size+1+1) 16 mS (n) [.int .u32 (h n)]) ?_; simp only [Act.put]; replace K:=K.poke (w.heap.size+1+1) 16 mS (n) [.int .u32 (h n)]; replace HR:=HR.set (n) l8 (h n); refine xqH 11 22 rfl (.pointer (some ⟨w.heap.size+1+1,n+8,none⟩)) (fun w'=>ixW (w.heap.size+1+1) (n+8) l88 w' _ _ rfl rfl rfl) K ?_; refine gM (i:=12) none rfl .u32 (iv n) (w.heap.size+1+1) (n+8) 118 _ _ JU rfl rfl rfl rfl rfl (by rw [HR.cell (n+8) l88]; rfl) (HR.free (n+8) l88) JU (K.poke (w.heap.size+1+1) 16 mS (n+8) [.int .u32 (iv n)]) ?_; simp only [Act.put]; replace K:=K.poke (w.heap.size+1+1) 16 mS (n+8) [.int .u32 (iv n)]; replace HR:=HR.set (n+8) l88 (iv n); refine wE JU ?_ _; replace K:=K.settle [(w.heap.size+1,16)] (w.heap.size+1+1) .u32 16 (upd (upd f n (h n)) (n+8) (iv n)) mS KZ YW HR; have HS:=show Hid _ from (And.intro K (show ∀ j,j<n+1→(upd (upd f n (h n)) (n+8) (iv n)) j=h j∧(upd (upd f n (h n)) (n+8) (iv n)) (j+8)=iv j from fun j hj=>by
     by_cases e:j=n
     · subst e; rw [jR _ _ _ _ (show j≠j+8 by omega),jP,jP]; exact ⟨rfl,rfl⟩
     rw [jR _ _ _ _ (show j≠n+8 by omega),jR _ _ _ _ e,jR _ _ _ _ (show j+8≠n+8 by omega),jR _ _ _ _ (show j+8≠n by omega)]; exact hd j JK))
    clear K HR hd; generalize (upd (upd f n (h n)) (n+8) (iv n))=f' at HS; exact QG
  obtain rfl:n=8:=by omega
  have HR:=(K.get _ _ _ _ mS).congr (g:=app h 8 iv) (fun j hj=>by
   unfold app; by_cases e:j<8
   · rw [if_pos e]; exact (hd j e).1
   rw [if_neg e]; have:=(hd (j-8) JK).2; rw [show j-8+8=j by omega] at this; exact this)
  replace K:=(K.loose [(w.heap.size,.u32,8,h)] (w.heap.size+1+1) .u32 16 f mS Jx Jv JK).settle [(w.heap.size+1,16)] (w.heap.size+1+1) .u32 16 (app h 8 iv) mS KZ YW HR; clear HR hd hlt hn g1; go_upto_region 7 with fail; refine wR (xqL (.pointer (some ⟨w.heap.size+1+1,12,none⟩)) GU ?_); refine ycL (.int .u32 (iv 4)) (w.heap.size+1+1) 12 Tryz.underlying118 ((K.get _ _ _ _ mS).cell 12 JG) ?_; refine xmL ?_; refine xqL _ Vi ?_; refine xqL _ Js ?_; refine xqL (.pointer (some ⟨w.heap.size+1+1,12,none⟩)) GU ?_; refine ywL .u32 (hxr (iv 4) (t%4294967296)) (w.heap.size+1+1) 12 (by rw [(K.get _ _ _ _ mS).cell 12 JG]; rfl) ((K.get _ _ _ _ mS).free 12 JG) JU ?_; replace K:=K.setCell [(w.heap.size,.u32,8,h)] (w.heap.size+1+1) .u32 16 (app h 8 iv) 12 JG (hxr (iv 4) (t%4294967296)) mS Jx Jv JK; generalize wr.setCell ⟨w.heap.size+1+1,12,none⟩ (.int .u32 (hxr (iv 4) (t%4294967296)))=w2 at K ⊢; show Exit.then _ _ _ _ _; go_upto_region 8 with fail; refine wR (xqL (.pointer (some ⟨w.heap.size+1+1,13,none⟩)) GV ?_); refine ycL (.int .u32 (iv 5)) (w.heap.size+1+1) 13 Tryz.underlying118 ((K.get _ _ _ _ mS).cell 13 JG) ?_
  refine xmL ?_; refine xqL (.int .u64 (t/4294967296)) Ww ?_; refine xqL _ Vi ?_; refine xqL _ Js ?_; refine xqL (.pointer (some ⟨w.heap.size+1+1,13,none⟩)) GV ?_; refine ywL .u32 (hxr (iv 5) (t/4294967296%4294967296)) (w.heap.size+1+1) 13 (by rw [(K.get _ _ _ _ mS).cell 13 JG]; rfl) ((K.get _ _ _ _ mS).free 13 JG) JU ?_; replace K:=K.setCell [(w.heap.size,.u32,8,h)] (w.heap.size+1+1) .u32 16 (upd (app h 8 iv) 12 (hxr (iv 4) (t%4294967296))) 13 JG (hxr (iv 5) (t/4294967296%4294967296)) mS Jx Jv JK; generalize w2.setCell ⟨w.heap.size+1+1,13,none⟩ (.int .u32 (hxr (iv 5) (t/4294967296%4294967296)))=w3 at K ⊢; show Exit.then _ _ _ _ _; have hcon:=q6f h t (upd (upd (app h 8 iv) 12 (hxr (iv 4) (t%4294967296))) 13 (hxr (iv 5) (t/4294967296%4294967296))) last (fun _=>rfl)
  cases last
  · have HR:=(K.get _ _ _ _ mS).congr (g:=bst h t false) hcon; have hz':=(K.room _ mS).1; have hB:=(K.fill _ _ mS (row .u32 16 (bst h t false))).below; clear K hcon; generalize hf:bst h t false=g at *; exact Qy
  go_upto_region 10 with fail; refine wR (xqL (.pointer (some ⟨w.heap.size+1+1,14,none⟩)) GY ?_); refine ycL (.int .u32 (iv 6)) (w.heap.size+1+1) 14 Tryz.underlying118 ((K.get _ _ _ _ mS).cell 14 JG) ?_; refine xqL (.int .u32 (4294967295-iv 6)) (fun w=>x4t .u32 _ _ _ _ rfl rfl Jw w) ?_; refine xqL (.pointer (some ⟨w.heap.size+1+1,14,none⟩)) GY ?_; refine ywL .u32 (4294967295-iv 6) (w.heap.size+1+1) 14 (by rw [(K.get _ _ _ _ mS).cell 14 JG]; rfl) ((K.get _ _ _ _ mS).free 14 JG) JU ?_; replace K:=K.setCell [(w.heap.size,.u32,8,h)] (w.heap.size+1+1) .u32 16 (upd (upd (app h 8 iv) 12 (hxr (iv 4) (t%4294967296))) 13 (hxr (iv 5) (t/4294967296%4294967296))) 14 JG (4294967295-iv 6) mS Jx Jv JK; generalize w3.setCell ⟨w.heap.size+1+1,14,none⟩ (.int .u32 (4294967295-iv 6))=w4 at K ⊢; show Exit.then _ _ _ _ _; have HR:=(K.get _ _ _ _ mS).congr (g:=bst h t true) hcon
  have hz':=(K.room _ mS).1; have hB:=(K.fill _ _ mS (row .u32 16 (bst h t true))).below; clear K hcon; generalize hf:bst h t true=g at *; exact Qy
section
def q5s (md:Region.Mode) (ops:Array Oper) (i:Nat):Nat→Nat→Bool
 | 0,_=>false
 | f+1,c=>match ops[c]? with
   | none=>false
   | some oc=>oc.after.any fun e=>Region.binds md e&&(e.on == i || q5s md ops i f e.on)
def Closed (md:Region.Mode) (ops:Array Oper) (l:Array Bool):Prop:=∀ j oj,ops[j]?=some oj→l.getD j false=true→∀ e∈oj.after,Region.binds md e=true→l.getD e.on false=true
def j9e (md:Region.Mode) (ops:Array Oper) (l:Array Bool):Bool:=(List.range ops.size).all fun j=>match ops[j]? with
 | none=>true
 | some oj=>!l.getD j false || oj.after.all fun e=>!Region.binds md e || l.getD e.on false
theorem q1m {md:Region.Mode} {ops:Array Oper} {l:Array Bool} (h:j9e md ops l=true):Closed md ops l:=by
 intro j oj hj hl e he hb
 have hlt:j<ops.size:=(Array.getElem?_eq_some_iff.1 hj).1
 have h1:=List.all_eq_true.1 h j (List.mem_range.2 hlt)
 simp only [hj,hl,Bool.not_true,Bool.false_or] at h1
 have h2:=Array.all_eq_true'.1 h1 e he
 simpa only [hb,Bool.not_true,Bool.false_or] using h2
theorem nF {l:Array Bool} {i j:Nat} (h:l.getD j false=true):(l.setIfInBounds i true).getD j false=true:=by
 rw [Array.getD_eq_getD_getElem?] at h ⊢
 by_cases e:i=j
 · subst e
   cases hc:l[i]? with
   | none=>rw [hc] at h; cases h
   | some b =>
     have hb:=(Array.getElem?_eq_some_iff.1 hc).1; rw [Array.getElem?_setIfInBounds_self_of_lt hb]; rfl
 rw [Array.getElem?_setIfInBounds_ne e]; exact h
theorem Closed.next {md:Region.Mode} {ops:Array Oper} {l:Array Bool} (h:Closed md ops l) {i:Nat} (hi:i∈Region.ready md ops l):Closed md ops (l.setIfInBounds i true):=by
 intro j oj hj hl e he hb
 by_cases hji:j=i
 · subst hji; obtain ⟨_,o,ho,hall⟩:=mem_ready.1 hi; obtain rfl:o=oj:=Option.some.inj (ho.symm.trans hj); exact nF (hall e he hb)
 rw [getD_set_ne false (Ne.symm hji)] at hl
 exact nF (h j oj hj hl e he hb)
theorem eS {md:Region.Mode} {ops:Array Oper} {l:Array Bool} {i:Nat} (h:Closed md ops l):∀ (f c:Nat),(∀ oc,ops[c]?=some oc→∀ e∈oc.after,Region.binds md e=true→l.getD e.on false=true)→q5s md ops i f c=true→l.getD i false=true
 | 0,_,_,hd=>by cases hd
 | f+1,c,hc,hd=>by
   unfold q5s at hd
   cases ho:ops[c]? with
   | none=>rw [ho] at hd; cases hd
   | some oc =>
     rw [ho] at hd
     obtain ⟨e,he,hb⟩:=Array.any_eq_true'.1 hd
     simp only [xbA,Bool.or_eq_true,beq_iff_eq] at hb
     have hl:=hc oc ho e he hb.1
     rcases hb.2 with h1 | h1
     · rw [← h1]; exact hl
     · exact eS h f e.on (fun o2 ho2 e2 he2 hb2=>h e.on o2 ho2 hl e2 he2 hb2) h1
section
variable {P:Program} {ops:Array Oper} {Q:Exit→Act→World→Prop} {md:Region.Mode} {S:World→Prop} {c:Nat}
theorem aZ {i f:Nat} {oi:Oper} {v:Value} (hi:ops[i]?=some oi) (hdep:q5s md ops i f c=true) (hsel:∀ (j:Nat) (o:Oper) cs b,ops[j]?=some o→o.op≠.select cs b)
 (hQ:∀ p a w,Q (.panic p) (a.put oi.dst v) w→Q (.panic p) a w):∀ (n:Nat) (l:Array Bool) (a:Act) (w:World),
  Closed md ops l→(∀ j oj,ops[j]?=some oj→j≠i→l.getD j true=false→(∀ e∈oj.after,Region.binds md e=true→e.on≠i)→oi.apart ops oj=true) →
  l.getD c true=false→i∈Region.ready md ops l→YieldsIf P ops S oi v a→S w →
  qP P md ops Q S c n (l.setIfInBounds i true) (a.put oi.dst v) w→qP P md ops Q S c (n+1) l a w:=by
 have waits:∀ (l:Array Bool) (j:Nat),Closed md ops l→i∈Region.ready md ops l→j∈Region.ready md ops l→j≠c:=fun l j hcl hr hj e=>by
  subst e; obtain ⟨_,o,ho,hall⟩:=mem_ready.1 hj; exact sJ (mem_ready.1 hr).1 (eS hcl f j (fun oc hoc=>by obtain rfl:o=oc:=Option.some.inj (ho.symm.trans hoc); exact hall) hdep)
 intro n
 induction n with
 | zero =>
   intro l a w _ _ _ hr hy hS H; refine ⟨fun h=>Ug,fun j hj=>?_⟩; by_cases hji:j=i
   · exact Xp
   have:=ready_mono hj hji; rw [H.1] at this
   cases this
 | succ n ih =>
   intro l a w hcl hfree hlc hr hy hS H; refine ⟨fun h=>Ug,fun j hj=>?_⟩; by_cases hji:j=i
   · exact Xp
   have hjc:=waits l j hcl hr hj; have hic:=waits l i hcl hr hr; obtain ⟨hjun,oj,hoj,hall⟩:=mem_ready.1 hj; have hnot:∀ e∈oj.after,Region.binds md e=true→e.on≠i:=fun e he hb heq=>sJ (mem_ready.1 hr).1 We
   have h2:=wpOp_putIf hoj (hfree j oj hoj hji hjun hnot) (fun cs b=>hsel i oi cs b hi) (fun cs b=>hsel j oj cs b hoj) hQ hy (H.2 j (ready_mono hj hji)); have hfree':∀ k ok,ops[k]?=some ok→k≠i→(l.setIfInBounds j true).getD k true=false→(∀ e∈ok.after,Region.binds md e=true→e.on≠i)→oi.apart ops ok=true:=fun k ok hk hki hun hno=>by
    refine hfree k ok hk hki ?_ hno; by_cases hjk:j=k
    · subst hjk; exact hjun
    rw [getD_set_ne true hjk] at hun; exact hun
   refine wpOp_mono (fun a' w' h3=>?_) h2; have hS':S w':=h3.2.1 Wt; refine ⟨fun _=>hS',ih (l.setIfInBounds j true) a' w' (hcl.next hj) hfree' (by rw [getD_set_ne true hjc]; exact hlc) (ready_mono hr (Ne.symm hji)) h3.1 hS' ?_⟩; rw [Array.setIfInBounds_comm _ _ hji]; exact h3.2.2
theorem q5z {i:Nat} (f:Nat) {oi:Oper} (dst:Option Tmp) (hdst:oi.dst=dst) {n:Nat} {l:Array Bool} {a:Act} {w:World} (k:IntKind) (v:Value) (b o:Nat) (ty:TypeId) (x:Operand) (hi:ops[i]?=some oi) (hdep:q5s md ops i f c=true) (hcl:j9e md ops l=true)
 (ho:oi.op=.load ty x) (hx:a.eval x=.pointer (some ⟨b,o,none⟩)) (hw:Region.wanted oi (yielded ops a.tmps)=true)
 (hs:Region.noSelect ops=true) (hf:Region.free md ops l i=true) (hl:l.getD c true=false) (hr:(Region.ready md ops l).contains i=true)
 (hQ:∀ p a w,Q (.panic p) (a.put dst v) w→Q (.panic p) a w) (hu:P.underlying ty=some (.int k))
 (hS:S w) (hh:∀ w,S w→w.cell? ⟨b,o,none⟩=some v)
 (h:qP P md ops Q S c n (l.setIfInBounds i true) (a.put dst v) w):qP P md ops Q S c (n+1) l a w:=by
 subst hdst
 refine aZ hi hdep (Region.noSelect_spec hs) hQ n l a w (q1m hcl) (Region.free_spec hi hf) hl (by simpa using hr) (.inl ⟨hw,fun w hSw=>?_⟩) hS h
 unfold execOp
 simp only [ho,hx,Instr.loadAt,Instr.sureAddr,Sem.run_bind,Sem.run_pure,xO,vZ w b o ty k v (hh w hSw) hu]
end
end
theorem q6j (a b c d x y:Int) (w:World) :
 Calls Tryz.prog 161 #[.int .u32 a,.int .u32 b,.int .u32 c,.int .u32 d,.int .u32 x,.int .u32 y] w fun e w'=>e=.returned (.tuple #[.int .u32 (bA a b c d x y),.int .u32 (bB a b c d x y),.int .u32 (bC a b c d x y),.int .u32 (bD a b c d x y)])∧w'=w:=by
 go_enter Tryz.func161,Tryz.ntmps161
 go_wp2_with fail
 refine (rD (-16) 16 (.inl ⟨rfl,rfl⟩) _ _).mono ?_; rintro e w16 ⟨rfl,rfl⟩
 go_wp2_with fail
 refine (rD (-12) 20 (.inr (.inl ⟨rfl,rfl⟩)) _ _).mono ?_; rintro e w12 ⟨rfl,rfl⟩
 go_wp2_with fail
 refine (rD (-8) 24 (.inr (.inr (.inl ⟨rfl,rfl⟩))) _ _).mono ?_; rintro e w8 ⟨rfl,rfl⟩
 go_wp2_with fail
 refine (rD (-7) 25 (.inr (.inr (.inr ⟨rfl,rfl⟩))) _ _).mono ?_; rintro e w7 ⟨rfl,rfl⟩
 go_wp2_with fail
 exact bRq (rB Tryz.results161 rfl rfl rfl rfl) rfl ⟨by simp only [bA,bB,bC,bD,bA1,bB1,bC1,bD1,mA,mD,hxr,had,Int.emod_add_emod,Int.add_assoc]; rfl,rfl⟩
theorem q8x {P:Program} {o:Oper} {a:Act} (t e:TypeId) (n m:Nat) (k:IntKind) (b off i:Nat) (x y:Operand) (hu:P.underlying t=some (.array n e)) (hsz:∀ w,(sizeOf e).run P w=.ok m w) (hi:i<n) (ho:o.op=.indexAddr t x y) (hx:a.eval x=.pointer (some ⟨b,off,none⟩)) (hy:a.eval y=.int k (i:Int)) (w:World) :
 (execOp a.eval o).run P w=.ok (.value (.pointer (some ⟨b,off+i*m,none⟩))) w:=by
 have e1:(Instr.indexAt t (.pointer (some ⟨b,off,none⟩)) (.int k (i:Int))).run P w=.ok (.pointer (some ⟨b,off+i*m,none⟩)) w:=by
  simp [Instr.indexAt,run_underlying hu,Instr.sureAddr,asIntOf,hsz,Addr.add_mid]; intro hf; omega
 exact XQ
theorem x3r (h z:Nat→Int) (t:Int) (last:Bool) (hh:In V 8 h) (n:Nat) (hn:n<8):hxr (h n) (hxr (bR (bpw z) (bst h t last) 10 n) (bR (bpw z) (bst h t last) 10 (n+8)))=bpr h z t last n :=
 (fJ _ _ _ (hh n hn) (aQ _ _ (nQ h t last hh) 10 n JK) (aQ _ _ (nQ h t last hh) 10 (n+8) JK)).symm
theorem rQ (h:Nat→Int) (hh:In V 8 h) (z:Nat→Int) (t:Int) (last:Bool) (w:World) (hg:BGlob w) :
 Calls Tryz.prog 142 #[(.agg (row .u32 8 (h)).toArray),(.agg (row .u32 16 (bpw z)).toArray),.int .u64 t,.bool last] w fun e w'=>e=.returned (.agg (row .u32 8 (bpr h z t last)).toArray)∧Below w.heap.size w w':=by
 have HG:=show Hid _ from (fun n hn=>x3r h z t last hh n hn); generalize hGe:bpr h z t last=G at HG; generalize hme:bpw z=m at HG; have K:=Kr.init w; replace K:=K.box .u32 8 h 139 (w.heap.size) rfl; replace K:=K.box .u32 16 m 165 (w.heap.size+1) Jf; replace K:=K.make 8 gV 139 (w.heap.size+1+1) Jf (sV _ _ _ Jf).there; clear hme hGe hh
 go_enter Tryz.func142,Tryz.ntmps142
 go_upto_region 1 with fail; generalize (((w.alloc (.cells (row .u32 8 h).toArray 139)).alloc (.cells (row .u32 16 m).toArray 165)).alloc (.cells gV 139))=w0 at K ⊢; refine wR (ykL .u32 8 (h) (w.heap.size) 0 Tryz.underlying139 (zQ _) ((K.get _ _ _ _ (mT _ mS)).range) ?_); refine xmL ?_
 refine xmL ?_; refine clT (j4s h t last _ (hg.below K.below hg.size)) K ?_; clear K; intro w1 K; refine qH yT 165 rfl JW (nL ?_); refine ysL .u32 16 (bst h t last) w1.heap.size (jM (tG _ _ _ rfl).there) (nJ _) ?_; have zX:=K.size; replace K:=K.fresh .u32 16 (bst h t last) yT 165 (tG _ _ _ rfl).there; generalize ((w1.alloc (.cells yT 165)).setCells w1.heap.size 0 (row .u32 16 (bst h t last)))=w2 at K ⊢; generalize w1.heap.size=X at *; show Exit.then _ _ _ _ _; generalize bst h t last=v0 at *; go_wp2
 go_loopw [21] (fun i w'=>∃ r:Nat,r≤10∧i=.int .i64 r∧Kr w (X+1) [(X,.u32,16,bR m v0 r),(w.heap.size+1,.u32,16,m),(w.heap.size,.u32,8,h)] [(w.heap.size+1+1,8)] w') (fun i _=>10-(intOf i).toNat)
 case atStart=>exact ⟨0,by omega,rfl,K⟩
 case round =>
  clear K; obtain ⟨r,hr,rfl,K⟩:=hrel; have g1:(0:Int)≤(r:Int):=by omega
  by_cases hlt:r<10
  · have g2:(r:Int)<10:=by omega
    go_wp2; go_loopw [24] (fun i w'=>∃ q:Nat,q≤8∧i=.int .i64 q∧Kr w (X+1) [(X,.u32,16,bN m (sg r) (bR m v0 r) q),(w.heap.size+1,.u32,16,m),(w.heap.size,.u32,8,h)] [(w.heap.size+1+1,8)] w') (fun i _=>8-(intOf i).toNat)
    case atStart=>exact ⟨0,by omega,rfl,K⟩
    case round =>
     clear K; obtain ⟨q,hq,rfl,K⟩:=hrel; have g3:(0:Int)≤(q:Int):=by omega
     by_cases hlt2:q<8
     · have g4:(q:Int)<8:=by omega
       have HT:=show Hid _ from (show bN m (sg r) (bR m v0 r) (q+1)=bAt m (sg r) (bN m (sg r) (bR m v0 r) q) q from rfl); generalize bN m (sg r) (bR m v0 r) q=v at *; have HK:=show Hid _ from fun (n:Nat)=>K.drewN (q:=n)
       obtain ⟨p1,p2,p3,p4⟩:=(hg.below K.below hg.size).four q hlt2; have l1:pA q<16:=by have:=q3t q; omega
       have l2:pB q<16:=by have:=j8k q; omega
       have l3:pC q<16:=by have:=q3s q; omega
       have l4:pD q<16:=j8j q; have s1:=kC r (2*q); have s2:=kC r (2*q+1); unfold bAt bMx at HT; have hzX:=K.base; clear K hq hr; generalize hA:pA q=A at *; generalize hB:pB q=B at *; generalize hC:pC q=C at *; generalize hD:pD q=D at *; clear hA hB hC hD; go_wp2; go_quiet (fail); go_upto_region 9 with fail; have K:=HK.out nq; clear p1 p2 p3 p4 HK; generalize wr.drewN nq=w3 at K ⊢; refine qK (S:=fun w'=>Kr w (X+1) [(X,.u32,16,v),(w.heap.size+1,.u32,16,m),(w.heap.size,.u32,8,h)] [(w.heap.size+1+1,8)] w') 33 JU K.drew ?_; clear K; intro K; refine xmC 0 44 K ?_; refine xmC 1 45 K ?_; refine xmC 2 46 K ?_; refine xmC 3 47 K ?_; refine xmC 4 48 K ?_; refine xqC 5 49 rfl (.pointer (some ⟨X,A,none⟩)) (fun w'=>aR X A l1 w' _ _ rfl rfl rfl) K ?_; refine ycC 6 50 (.int .u32 (v A)) X A Tryz.underlying118 K (fun _ h=>(h.get _ _ _ _ mS).cell A l1) ?_; refine xmC 7 51 K ?_; refine xqC 8 52 rfl (.pointer (some ⟨X,B,none⟩)) (fun w'=>aR X B l2 w' _ _ rfl rfl rfl) K ?_; refine ycC 9 53 (.int .u32 (v B)) X B Tryz.underlying118 K (fun _ h=>(h.get _ _ _ _ mS).cell B l2) ?_; refine xmC 10 54 K ?_; refine xqC 11 55 rfl (.pointer (some ⟨X,C,none⟩)) (fun w'=>aR X C l3 w' _ _ rfl rfl rfl) K ?_; refine ycC 12 56 (.int .u32 (v C)) X C Tryz.underlying118 K (fun _ h=>(h.get _ _ _ _ mS).cell C l3) ?_; refine xmC 13 57 K ?_; refine xqC 14 58 rfl (.pointer (some ⟨X,D,none⟩)) (fun w'=>aR X D l4 w' _ _ rfl rfl rfl) K ?_; refine ycC 15 59 (.int .u32 (v D)) X D Tryz.underlying118 K (fun _ h=>(h.get _ _ _ _ mS).cell D l4) ?_; refine xmC 16 60 K ?_; refine xmC 17 61 K ?_; refine xqC 18 62 rfl (.int .i64 ((2*q:Nat):Int)) Jr K ?_; refine xqC 19 63 rfl (.pointer (some ⟨5,0+r*16,none⟩)) KY K ?_; refine xqC 20 64 rfl (.pointer (some ⟨5,0+r*16+(2*q),none⟩)) (fun w'=>uD (P:=Tryz.prog) 119 5 16 .i64 5 (0+r*16) (2*q) _ _ Tryz.underlying119 JW JK rfl rfl rfl w') K ?_; refine q5z (i:=21) 8 (some 65) rfl .u8 (.int .u8 ((sg r (2*q):Nat):Int)) 5 (0+r*16+(2*q)) 5 _ rfl JU JU rfl rfl rfl JU JU JU JU (fun _ _ _ h=>h) Tryz.underlying5 K (fun _ h=>(by rw [nZ]; exact (hg.below h.below hg.size).sg r (2*q) hlt JK)) ?_; simp only [aP,lI,l0,lS]; refine xqC 22 66 rfl (.pointer (some ⟨w.heap.size+1,sg r (2*q),none⟩)) (fun w'=>aR (w.heap.size+1) (sg r (2*q)) s1 w' _ _ rfl rfl rfl) K ?_; refine ycC 23 67 (.int .u32 (m (sg r (2*q)))) (w.heap.size+1) (sg r (2*q)) Tryz.underlying118 K (fun _ h=>(h.get _ _ _ _ (mT _ mS)).cell (sg r (2*q)) s1) ?_; refine xmC 24 68 K ?_; refine xmC 25 69 K ?_; refine xqC 26 70 rfl (.int .i64 ((2*q:Nat):Int)) Jr K ?_; refine xqC 27 71 rfl (.int .i64 ((2*q+1:Nat):Int)) Je K ?_; refine xqC 28 72 rfl (.pointer (some ⟨5,0+r*16,none⟩)) KY K ?_; refine xqC 29 73 rfl (.pointer (some ⟨5,0+r*16+(2*q+1),none⟩)) (fun w'=>uD (P:=Tryz.prog) 119 5 16 .i64 5 (0+r*16) (2*q+1) _ _ Tryz.underlying119 JW JK rfl rfl rfl w') K ?_; refine q5z (i:=30) 8 (some 74) rfl .u8 (.int .u8 ((sg r (2*q+1):Nat):Int)) 5 (0+r*16+(2*q+1)) 5 _ rfl JU JU rfl rfl rfl JU JU JU JU (fun _ _ _ h=>h) Tryz.underlying5 K (fun _ h=>(by rw [nZ]; exact (hg.below h.below hg.size).sg r (2*q+1) hlt JK)) ?_; simp only [aP,lI,l0,lS]; refine xqC 31 75 rfl (.pointer (some ⟨w.heap.size+1,sg r (2*q+1),none⟩)) (fun w'=>aR (w.heap.size+1) (sg r (2*q+1)) s2 w' _ _ rfl rfl rfl) K ?_; refine ycC 32 76 (.int .u32 (m (sg r (2*q+1)))) (w.heap.size+1) (sg r (2*q+1)) Tryz.underlying118 K (fun _ h=>(h.get _ _ _ _ (mT _ mS)).cell (sg r (2*q+1)) s2) ?_; refine x0v (S2:=fun _=>True) (some 77) rfl JU rfl rfl JW (q6j (v A) (v B) (v C) (v D) (m (sg r (2*q))) (m (sg r (2*q+1))) _) JU ?_; rintro e w' ⟨rfl,rfl⟩; refine ⟨_,rfl,nH ?_⟩; have T:True:=trivial; refine xmH 34 43 T ?_; refine xmH 35 78 T ?_; refine xmH 36 79 T ?_; refine xmH 37 80 T ?_; refine xmH 38 81 T ?_; have h0:=K.get _ _ _ _ mS; replace K:=K.loose [(w.heap.size+1,.u32,16,m),(w.heap.size,.u32,8,h)] X .u32 16 v mS YZ Jm JK; refine xqH 39 82 rfl (.pointer (some ⟨X,A,none⟩)) (fun w'=>aR X A l1 w' _ _ rfl rfl rfl) T ?_; refine gM (i:=40) none rfl .u32 (bA (v A) (v B) (v C) (v D) (m (sg r (2*q))) (m (sg r (2*q+1)))) X A 118 _ _ JU rfl rfl rfl rfl rfl (by rw [h0.cell A l1]; rfl) (h0.free A l1) JU T ?_; simp only [Act.put]; have h1:=h0.set A l1 (bA (v A) (v B) (v C) (v D) (m (sg r (2*q))) (m (sg r (2*q+1)))); replace K:=K.poke X 16 mS A [.int .u32 (bA (v A) (v B) (v C) (v D) (m (sg r (2*q))) (m (sg r (2*q+1))))]; clear h0; refine xqH 41 83 rfl (.pointer (some ⟨X,B,none⟩)) (fun w'=>aR X B l2 w' _ _ rfl rfl rfl) T ?_; refine gM (i:=42) none rfl .u32 (bB (v A) (v B) (v C) (v D) (m (sg r (2*q))) (m (sg r (2*q+1)))) X B 118 _ _ JU rfl rfl rfl rfl rfl (by rw [h1.cell B l2]; rfl) (h1.free B l2) JU T ?_; simp only [Act.put]; have h2:=h1.set B l2 (bB (v A) (v B) (v C) (v D) (m (sg r (2*q))) (m (sg r (2*q+1)))); replace K:=K.poke X 16 mS B [.int .u32 (bB (v A) (v B) (v C) (v D) (m (sg r (2*q))) (m (sg r (2*q+1))))]; clear h1; refine xqH 43 84 rfl (.pointer (some ⟨X,C,none⟩)) (fun w'=>aR X C l3 w' _ _ rfl rfl rfl) T ?_; refine gM (i:=44) none rfl .u32 (bC (v A) (v B) (v C) (v D) (m (sg r (2*q))) (m (sg r (2*q+1)))) X C 118 _ _ JU rfl rfl rfl rfl rfl (by rw [h2.cell C l3]; rfl) (h2.free C l3) JU T ?_; simp only [Act.put]; have h3:=h2.set C l3 (bC (v A) (v B) (v C) (v D) (m (sg r (2*q))) (m (sg r (2*q+1)))); replace K:=K.poke X 16 mS C [.int .u32 (bC (v A) (v B) (v C) (v D) (m (sg r (2*q))) (m (sg r (2*q+1))))]; clear h2; refine xqH 45 85 rfl (.pointer (some ⟨X,D,none⟩)) (fun w'=>aR X D l4 w' _ _ rfl rfl rfl) T ?_; refine gM (i:=46) none rfl .u32 (bD (v A) (v B) (v C) (v D) (m (sg r (2*q))) (m (sg r (2*q+1)))) X D 118 _ _ JU rfl rfl rfl rfl rfl (by rw [h3.cell D l4]; rfl) (h3.free D l4) JU T ?_; simp only [Act.put]; have h4:=h3.set D l4 (bD (v A) (v B) (v C) (v D) (m (sg r (2*q))) (m (sg r (2*q+1)))); replace K:=K.poke X 16 mS D [.int .u32 (bD (v A) (v B) (v C) (v D) (m (sg r (2*q))) (m (sg r (2*q+1))))]; clear h3; refine wE JU ?_ _; rw [← HT.out] at h4; replace K:=K.settle [(w.heap.size+1+1,8)] X .u32 16 _ mS KZ YW h4; have HS:=show Hid _ from K; clear K h4 T l1 l2 l3 l4 HT; go_wp2
       go_roundw
       case rel=>first | exact ⟨q+1,by omega,by go_num,HS.out⟩ | ((repeat apply Exists.intro); refine ⟨⟨q+1,by omega,by go_num,HS.out⟩,rfl⟩)
       case measure=>simp [intOf]; omega
     obtain rfl:q=8:=by omega
     have HS:=show Hid (Kr w (X+1) [(X,.u32,16,bR m v0 (r+1)),(w.heap.size+1,.u32,16,m),(w.heap.size,.u32,8,h)] [(w.heap.size+1+1,8)] wr) from K; clear K hlt2 hq g3; go_wp2
     exact Qu
  obtain rfl:r=10:=by omega
  clear hlt hr g1; generalize bR m v0 10=F at *; replace K:Kr w (X+1) [(w.heap.size,.u32,8,h),(X,.u32,16,F)] [(w.heap.size+1+1,8)] wr:=K.sub _ (fun p hp=>by rcases xc1 hp with rfl | hp; exact (mI 2 rfl); obtain rfl:=xm1 hp; exact mS); go_wp2; go_loopw [88] (fun i w'=>∃ (n:Nat) (f:Nat→Int),n≤8∧i=.int .i64 n∧Kr w (X+1) [(w.heap.size,.u32,8,f),(X,.u32,16,F)] [(w.heap.size+1+1,8)] w'∧(∀ j,j<n→f j=G j)∧∀ j,n≤j→f j=h j) (fun i _=>8-(intOf i).toNat)
  case atStart=>exact ⟨0,h,by omega,rfl,K,fun j hj=>by omega,fun _ _=>rfl⟩
  case round =>
   clear K; obtain ⟨n,f,hn,rfl,K,hd,hk⟩:=hrel; have g1:(0:Int)≤(n:Int):=by omega
   by_cases hlt:n<8
   · have g2:(n:Int)<8:=by omega
     have hz0:=K.base; have HX:hxr (f n) (hxr (F n) (F (n+8)))=G n:=by rw [hk n (xnR _)]; exact HG.out n hlt
     have l8:n<16:=by omega
     have l88:n+8<16:=by omega
     go_upto_region 15 with fail; refine hdC 13 K ?_; clear K; intro K; generalize wr.drew=w4 at K ⊢; refine xmC 0 91 K ?_; refine xqC 1 92 rfl (.pointer (some ⟨w.heap.size,n,none⟩)) Vw K ?_; refine ycC 2 93 (.int .u32 (f n)) (w.heap.size) n Tryz.underlying118 K (fun _ h=>(h.get _ _ _ _ mS).cell n hlt) ?_; refine xmC 3 94 K ?_; refine xqC 4 95 rfl (.pointer (some ⟨X,n,none⟩)) (fun w'=>ixW X n l8 w' _ _ rfl rfl rfl) K ?_; refine ycC 5 96 (.int .u32 (F n)) X n Tryz.underlying118 K (fun _ h=>(h.get _ _ _ _ (mT _ mS)).cell n l8) ?_; refine xmC 6 97 K ?_; refine xqC 7 98 rfl (.int .i64 ((n+8:Nat):Int)) Je K ?_; refine xqC 8 99 rfl (.pointer (some ⟨X,n+8,none⟩)) (fun w'=>ixW X (n+8) l88 w' _ _ rfl rfl rfl) K ?_; refine ycC 9 100 (.int .u32 (F (n+8))) X (n+8) Tryz.underlying118 K (fun _ h=>(h.get _ _ _ _ (mT _ mS)).cell (n+8) l88) ?_; refine xqC 10 101 rfl _ Js K ?_; refine xqC 11 102 rfl _ (fun w=>j2i .u32 _ _ _ _ _ _ _ rfl rfl rfl HX w) K ?_; refine xqC 12 103 rfl (.pointer (some ⟨w.heap.size,n,none⟩)) Vw K ?_; refine gJ (S2:=fun _=>True) none rfl .u32 (G n) (w.heap.size) n 118 _ _ JU rfl rfl rfl rfl rfl Ue ((K.get _ _ _ _ mS).free n hlt) JU JU ?_; simp only [Act.put]; refine wE JU ?_ _; replace K:=K.setCell [(X,.u32,16,F)] (w.heap.size) .u32 8 f n hlt (G n) mS Jx Jv (xnR _); have HS:=show Hid _ from (And.intro K (And.intro (show ∀ j,j<n+1→upd f n (G n) j=G j from fun j hj=>by
      by_cases e:j=n
      · exact Zz
      rw [jR _ _ _ _ e]; exact hd j JK) (show ∀ j,n+1≤j→upd f n (G n) j=h j from fun j hj=>by rw [jR _ _ _ _ (show j≠n by omega)]; exact hk j JK)))
     clear K hd hk HX; generalize w4.setCell ⟨w.heap.size,n,none⟩ (.int .u32 (G n))=w5 at HS ⊢; generalize upd f n (G n)=f' at HS; exact QG
   obtain rfl:n=8:=by omega
   have HR:=(K.get _ _ _ _ mS).congr (g:=G) (fun j hj=>hd j hj); have hz':=(K.room _ mS).1; have hB:=(K.fill _ _ mS (row .u32 8 G)).below; clear K hd hk hlt hn g1; go_wp2_with (first | (refine yl (HR) Tryz.underlying139 (zQ _) ?_) | (refine ys .u32 8 G (jM hz') (vT _) ?_)); exact bRq (v:=(.agg (row .u32 8 (G)).toArray)) (jQ Tryz.results142 rfl (Has.all hz' .u32 G).range Tryz.underlying139 rfl (zQ G)) rfl ⟨by first | rfl | rw [hGe],hB⟩
theorem sH (h0:Nat→Int) (hh:In V 8 h0) (n:Nat) (f:Nat→Int) (c:Nat) (sp:Option Addr) (len cap:Nat) (hn:n≤64*c+len) (hn':64*c+len≤n) (hc:c=0∨0<len) (hlen:n≤281474976710656) (hcap:len≤cap) (z:Nat→Int) (hz:In 256 len z) (hf:∀ j,f (64*c+j)=xJ len z j) (w:World) (hg:BGlob w) (hs:Src w sp len z) :
 Calls Tryz.prog 141 #[(.agg (row .u32 8 (tH h0 n f c)).toArray),.int .u64 ((64*c:Nat):Int),.slice sp len cap] w fun e w'=>e=.returned (.agg (row .u32 8 (tH h0 n f (nbt n))).toArray)∧Below w.heap.size w w':=by
 have K:=Kr.init w; replace K:=K.box .u32 8 (tH h0 n f c) 139 (w.heap.size) rfl; replace K:=K.make 8 gV 139 (w.heap.size+1) Jf (sV _ _ _ Jf).there
 go_enter Tryz.func141,Tryz.ntmps141
 go_upto_region 1 with fail; generalize ((w.alloc (.cells (row .u32 8 (tH h0 n f c)).toArray 139)).alloc (.cells gV 139))=w0 at K ⊢
 go_loopw [1,2] (fun d b w'=>∃ (i L:Nat) (sq:Option Addr) (cq:Nat),64*i+L=len∧(c+i=0∨0<L)∧L≤cq∧d=.int .u64 ((64*(c+i):Nat):Int)∧b=.slice sq L cq∧Src w sq L (fun j=>z (64*i+j))∧Kr w (w.heap.size+1+1) [(w.heap.size,.u32,8,tH h0 n f (c+i))] [(w.heap.size+1,8)] w') (fun _ b _=>j5n b)
 case atStart=>exact ⟨0,len,sp,cap,by omega,by omega,hcap,rfl,rfl,by simpa using hs,K⟩
 case round =>
  clear K hs; obtain ⟨i,L,sq,cq,hL,hp,hLc,rfl,rfl,hs,K⟩:=hrel; by_cases hlt:64<L
  · have g1:(64:Int)<(L:Int):=by omega
    obtain ⟨sh,hh1,hh2⟩:=q5u (P:=Tryz.prog) (t:=32) JU JW sq L cq 64 JK hLc; obtain ⟨sl,hl1,hl2⟩:=j2e (P:=Tryz.prog) (t:=32) JU JW sq L cq 64 JK hLc; have HP:=show Hid _ from (show bpr (tH h0 n f (c+i)) (xJ 64 (fun j=>z (64*i+j))) ((64*(c+i)+64:Nat):Int) false=tH h0 n f (c+i+1) from by
     have e1:min (64*(c+i)+64) n=64*(c+i)+64:=by omega
     have e2:decide (c+i+1=nbt n)=false:=decide_eq_false (by unfold nbt; rw [if_neg JK]; omega)
     conv=>rhs; unfold tH; rw [e1,e2]
     refine nX _ _ _ _ _ (fun j hj=>?_); have e3:=hf (64*i+j); rw [show 64*c+(64*i+j)=64*(c+i)+j by omega] at e3; rw [e3]; unfold xJ; rw [if_pos hj,if_pos JK])
    go_upto_region 2 with fail; refine wR (xmL ?_); refine xqL (.int .u64 ((64*(c+i)+64:Nat):Int)) (fun w=>vM .u64 _ _ _ _ _ _ _ rfl rfl rfl Kp w) ?_; refine xmL ?_; show Exit.then _ _ _ _ _; go_upto_region 3 with fail
    refine qK (S:=fun w'=>Kr w (w.heap.size+1+1) [(w.heap.size,.u32,8,tH h0 n f (c+i))] [(w.heap.size+1,8)] w') 6 JU K.drew ?_; clear K; intro K; refine aU (i:=0) (some 12) rfl .u32 8 (tH h0 n f (c+i)) (w.heap.size) 0 139 _ _ rfl rfl JU rfl rfl rfl JU JU JU JU (fun _ _ _ h=>h) Tryz.underlying139 rfl (zQ _) K (fun _ h=>(h.get _ _ _ _ mS).range) (nC ?_); refine xmC 1 13 K ?_; refine xqC 2 14 rfl (.slice sh 64 cq) (fun w=>j0a _ _ _ _ _ _ rfl rfl rfl (hh1 w)) K ?_; refine xmC 4 16 K ?_; refine yaC 3 15 (nY sh 64 cq (xnR _) (fun j=>z (64*i+j)) (fun j hj=>hz _ JK) _ ((hh2 _ _ hs).below K.below (xnR _))) ?_; rintro e w2 ⟨rfl,l⟩; replace K:=K.call l; clear l; refine ⟨_,rfl,K,nC ?_⟩; refine yaC 5 17 (rQ (tH h0 n f (c+i)) (q2l h0 n f hh _) (xJ 64 (fun j=>z (64*i+j))) ((64*(c+i)+64:Nat):Int) false _ (hg.below K.below hg.size)) ?_; rintro e w3 ⟨rfl,l⟩; replace K:=K.call l; clear l; refine ⟨_,rfl,K,nC ?_⟩; rw [HP.out]; refine tM (S2:=fun _=>True) none rfl .u32 8 (tH h0 n f (c+i+1)) (w.heap.size) 139 _ _ JU rfl rfl rfl rfl rfl (q1p (K.get _ _ _ _ mS)) (vT _) JU ?_; simp only [Act.put]; refine wE JU ?_ _; replace K:=K.set [] (w.heap.size) .u32 8 (tH h0 n f (c+i)) (tH h0 n f (c+i+1)) mS YQ YQ (xnR _); generalize w3.setCells (w.heap.size) 0 (row .u32 8 (tH h0 n f (c+i+1)))=w4 at K ⊢; clear HP hh1 hh2; go_upto_region 4 with fail; refine wR (xmL ?_); refine xqL (.slice sl (L-64) (cq-64)) (fun w=>mY _ _ _ _ _ _ rfl rfl rfl (hl1 w)) ?_; refine xmL ?_; have HS:=show Hid _ from (And.intro (show Src w sl (L-64) (fun j=>z (64*(i+1)+j)) from (hl2 _ _ hs).congr (fun j hj=>by show z (64*i+(64+j))=_; congr 1; omega)) (show Kr w (w.heap.size+1+1) [(w.heap.size,.u32,8,tH h0 n f (c+(i+1)))] [(w.heap.size+1,8)] w4 from K)); clear K hs hl1 hl2
    show Exit.inBlock _ _ _ _ _
    go_wp2; go_roundw
    case rel=>first | exact ⟨i+1,L-64,sl,cq-64,by omega,by omega,by omega,by congr 1,rfl,HS.out⟩ | ((repeat apply Exists.intro); refine ⟨⟨i+1,L-64,sl,cq-64,by omega,by omega,by omega,by congr 1,rfl,HS.out⟩,rfl⟩)
    case measure=>simp [j5n]; omega
  have g1:(L:Int)≤64:=by omega
  have HP:=show Hid _ from (show bpr (tH h0 n f (c+i)) (xJ L (fun j=>z (64*i+j))) ((64*(c+i)+L:Nat):Int) true=tH h0 n f (nbt n) from by
   have e0:nbt n=c+i+1:=by
    unfold nbt; split
    · omega
    omega
   have e1:min (64*(c+i)+64) n=64*(c+i)+L:=by omega
   have e2:decide (c+i+1=c+i+1)=true:=decide_eq_true rfl; rw [e0]
   conv=>rhs; unfold tH; rw [e1,e0,e2]
   refine nX _ _ _ _ _ (fun j hj=>?_); have e3:=hf (64*i+j); rw [show 64*c+(64*i+j)=64*(c+i)+j by omega] at e3; rw [e3]; unfold xJ; by_cases e:j<L
   · rw [if_pos e,if_pos JK]
   rw [if_neg e,if_neg JK])
  go_upto_region 5 with fail; refine qK (S:=fun w'=>Kr w (w.heap.size+1+1) [(w.heap.size,.u32,8,tH h0 n f (c+i))] [(w.heap.size+1,8)] w') 9 JU K.drew ?_; clear K; intro K; refine aU (i:=0) (some 20) rfl .u32 8 (tH h0 n f (c+i)) (w.heap.size) 0 139 _ _ rfl rfl JU rfl rfl rfl JU JU JU JU (fun _ _ _ h=>h) Tryz.underlying139 rfl (zQ _) K (fun _ h=>(h.get _ _ _ _ mS).range) (nC ?_); refine xmC 1 21 K ?_; refine xmC 3 23 K ?_; refine xmC 4 24 K ?_; refine xqC 5 25 rfl _ Jk K ?_; refine xqC 6 26 rfl (.int .u64 (L:Int)) VH K ?_; refine xqC 7 27 rfl (.int .u64 ((64*(c+i)+L:Nat):Int)) (fun w=>vM .u64 _ _ _ _ _ _ _ rfl rfl rfl Kp w) K ?_; refine yaC 2 22 (nY sq L cq JK (fun j=>z (64*i+j)) (fun j hj=>hz _ JK) _ (hs.below K.below (xnR _))) ?_; rintro e w2 ⟨rfl,l⟩; replace K:=K.call l; clear l; refine ⟨_,rfl,K,nC ?_⟩; refine yaC 8 28 (rQ (tH h0 n f (c+i)) (q2l h0 n f hh _) (xJ L (fun j=>z (64*i+j))) ((64*(c+i)+L:Nat):Int) true _ (hg.below K.below hg.size)) ?_; rintro e w3 ⟨rfl,l⟩; replace K:=K.call l; clear l; refine ⟨_,rfl,K,nC ?_⟩; rw [HP.out]; have hz':=(K.room _ mS).1; refine tM (S2:=fun _=>True) none rfl .u32 8 (tH h0 n f (nbt n)) (w.heap.size+1) 139 _ _ JU rfl rfl rfl rfl rfl (jM hz') (vT _) JU ?_; simp only [Act.put]; refine wE JU ?_ _; have hB:=(K.fill _ _ mS (row .u32 8 (tH h0 n f (nbt n)))).below; clear K HP hs hp; generalize hGe:tH h0 n f (nbt n)=G at *; go_wp2; exact bRq (v:=(.agg (row .u32 8 (G)).toArray)) (jQ Tryz.results141 rfl (Has.all hz' .u32 G).range Tryz.underlying139 rfl (zQ G)) rfl ⟨by first | rfl | rw [hGe] | (rw [← hGe]; done) | (rw [← hGe,nZ]; done) | (rw [← hGe,Nat.add_zero]; done),hB⟩
theorem q6g (h0:Nat→Int) (hh:In V 8 h0) (fp:Option Addr) (fl fc:Nat) (hfl:fl=0∨fl=64) (hfc:fl≤fc) (y:Nat→Int) (hy:In 256 fl y) (sp:Option Addr) (len cap:Nat) (hlen:len≤140737488355072) (hcap:len≤cap) (z:Nat→Int) (hz:In 256 len z) (w:World) (hg:BGlob w) (hf:Src w fp fl y) (hs:Src w sp len z) :
 Calls Tryz.prog 117 #[(.agg (row .u32 8 (h0)).toArray),.slice fp fl fc,.slice sp len cap] w fun e w'=>e=.returned (.agg (row .u32 8 (tH h0 (fl+len) (tx2 fl y len z) (nbt (fl+len)))).toArray)∧Below w.heap.size w w':=by
 have K:=Kr.init w; replace K:=K.box .u32 8 h0 139 (w.heap.size) rfl; replace K:=K.make 8 gV 139 (w.heap.size+1) Jf (sV _ _ _ Jf).there
 go_enter Tryz.func117,Tryz.ntmps117
 go_upto_region 1 with fail; generalize ((w.alloc (.cells (row .u32 8 h0).toArray 139)).alloc (.cells gV 139))=w0 at K ⊢
 rcases hfl with rfl | rfl
 · go_upto_region 2 with fail; refine wR (ykL .u32 8 (h0) (w.heap.size) 0 Tryz.underlying139 (zQ _) ((K.get _ _ _ _ mS).range) ?_); refine xmL ?_; refine clT (sH h0 hh (0+len) (tx2 0 y len z) 0 sp len cap JK JK (.inl rfl) JK hcap z hz (fun j=>by unfold tx2; rw [if_neg (xnZ _),Nat.sub_zero,Nat.mul_zero,nZ]) _ (hg.below K.below hg.size) (hs.below K.below (xnR _))) K ?_; clear K; intro w1 K; have hz':=(K.room _ mS).1; refine ysL .u32 8 (tH h0 (0+len) (tx2 0 y len z) (nbt (0+len))) (w.heap.size+1) (jM hz') (vT _) ?_; have hB:=(K.fill _ _ mS (row .u32 8 (tH h0 (0+len) (tx2 0 y len z) (nbt (0+len))))).below; clear K; generalize hGe:(tH h0 (0+len) (tx2 0 y len z) (nbt (0+len)))=G at *; exact Qx
 by_cases hl0:len=0
 · subst hl0; go_upto_region 4 with fail; refine wR (ykL .u32 8 (h0) (w.heap.size) 0 Tryz.underlying139 (zQ _) ((K.get _ _ _ _ mS).range) ?_); refine xmL ?_; refine clT (sH h0 hh (64+0) (tx2 64 y 0 z) 0 fp 64 fc JK JK (.inl rfl) JK hfc y hy (q2h y z) _ (hg.below K.below hg.size) (hf.below K.below (xnR _))) K ?_; clear K; intro w1 K; have hz':=(K.room _ mS).1; refine ysL .u32 8 (tH h0 (64+0) (tx2 64 y 0 z) (nbt (64+0))) (w.heap.size+1) (jM hz') (vT _) ?_; have hB:=(K.fill _ _ mS (row .u32 8 (tH h0 (64+0) (tx2 64 y 0 z) (nbt (64+0))))).below; clear K; generalize hGe:(tH h0 (64+0) (tx2 64 y 0 z) (nbt (64+0)))=G at *; exact Qx
 have g1:(len:Int)≠0:=by omega
 have HP:=show Hid _ from (show bpr h0 (xJ 64 y) ((64:Nat):Int) false=tH h0 (64+len) (tx2 64 y len z) 1 from by
  have e1:min (64*0+64) (64+len)=64:=by omega
  have e2:decide (0+1=nbt (64+len))=false:=decide_eq_false (by unfold nbt; rw [if_neg JK]; omega)
  conv=>rhs; unfold tH; rw [e1,e2]
  refine nX _ _ _ _ _ (fun j hj=>?_); unfold xJ tx2; rw [if_pos hj,if_pos (show 64*0+j<64 by omega),Nat.mul_zero,nZ])
 go_upto_region 5 with fail; refine qK (S:=fun w'=>Kr w (w.heap.size+1+1) [(w.heap.size,.u32,8,h0)] [(w.heap.size+1,8)] w') 6 JU K.drew ?_; clear K; intro K
 refine aU (i:=0) (some 19) rfl .u32 8 (h0) (w.heap.size) 0 139 _ _ rfl rfl JU rfl rfl rfl JU JU JU JU (fun _ _ _ h=>h) Tryz.underlying139 rfl (zQ _) K (fun _ h=>(h.get _ _ _ _ mS).range) (nC ?_); refine xmC 1 20 K ?_; refine xmC 4 23 K ?_
 refine yaC 2 21 (nY fp 64 fc (xnR _) y hy _ (hf.below K.below (xnR _))) ?_; rintro e w2 ⟨rfl,l⟩; replace K:=K.call l; clear l
 refine ⟨_,rfl,K,nC ?_⟩
 refine yaC 3 22 (rQ h0 hh (xJ 64 y) ((64:Nat):Int) false _ (hg.below K.below hg.size)) ?_; rintro e w3 ⟨rfl,l⟩; replace K:=K.call l; clear l
 refine ⟨_,rfl,K,nC ?_⟩
 rw [HP.out]
 refine yaC 5 24 (sH h0 hh (64+len) (tx2 64 y len z) 1 sp len cap JK JK (.inr JK) JK hcap z hz (fun j=>by unfold tx2; rw [if_neg (show ¬ 64*1+j<64 by omega),show 64*1+j-64=j by omega]) _ (hg.below K.below hg.size) (hs.below K.below (xnR _))) ?_
 rintro e w4 ⟨rfl,l⟩; replace K:=K.call l; clear l
 refine ⟨_,rfl,K,nC ?_⟩
 have hz':=(K.room _ mS).1
 refine tM (S2:=fun _=>True) none rfl .u32 8 (tH h0 (64+len) (tx2 64 y len z) (nbt (64+len))) (w.heap.size+1) 139 _ _ JU rfl rfl rfl rfl rfl (jM hz') (vT _) JU ?_; simp only [Act.put]
 refine wE JU ?_ _
 have hB:=(K.fill _ _ mS (row .u32 8 (tH h0 (64+len) (tx2 64 y len z) (nbt (64+len))))).below; clear K HP hs; generalize hGe:(tH h0 (64+len) (tx2 64 y len z) (nbt (64+len)))=G at *; go_wp2
 exact bRq (v:=(.agg (row .u32 8 (G)).toArray)) (jQ Tryz.results117 rfl (Has.all hz' .u32 G).range Tryz.underlying139 rfl (zQ G)) rfl ⟨by first | rfl | rw [hGe] | (rw [← hGe]; done) | (rw [← hGe,nZ]; done) | (rw [← hGe,Nat.add_zero]; done),hB⟩
theorem vC (fp:Option Addr) (fl fc:Nat) (hfl:fl=0∨fl=64) (hfc:fl≤fc) (y:Nat→Int) (hy:In 256 fl y) (sp:Option Addr) (len cap:Nat) (hlen:len≤140737488355072) (hcap:len≤cap) (z:Nat→Int) (hz:In 256 len z) (w:World) (hg:BGlob w) (hf:Src w fp fl y) (hs:Src w sp len z) :
 Calls Tryz.prog 98 #[.slice fp fl fc,.slice sp len cap] w fun e w'=>e=.returned (.agg (row .u8 32 (jB (fl+len) (app y fl z))).toArray)∧Below w.heap.size w w':=by
 have HE:=show Hid _ from q1t fl y len z; have K:=Kr.init w; replace K:=K.make 32 jY 23 (w.heap.size) rfl (jK _ _ _ rfl).there
 go_enter Tryz.func98,Tryz.ntmps98
 go_upto_region 1 with fail; generalize (w.alloc (.cells jY 23))=w0 at K ⊢; refine wR ?_; refine clT (j7n 0 32 JG JG _ (hg.below K.below hg.size)) K ?_; clear K; intro w1 K; refine xm2 ?_
 refine clT (q6g (bh0 0 32) (q6n 0 32 JG JG) fp fl fc hfl hfc y hy sp len cap hlen hcap z hz _ (hg.below K.below hg.size) (hf.below K.below (xnR _)) (hs.below K.below (xnR _))) K ?_; clear K; intro w2 K; refine clT (j7m (tH (bh0 0 32) (fl+len) (tx2 fl y len z) (nbt (fl+len))) _) K ?_; clear K; intro w3 K
 rw [← HE.out]
 have hz':=(K.room _ mS).1
 refine ysL .u8 32 (jB (fl+len) (app y fl z)) (w.heap.size) (jM hz') (jV _) ?_; have hB:=(K.fill _ _ mS (row .u8 32 (jB (fl+len) (app y fl z)))).below; clear K HE; generalize hGe:jB (fl+len) (app y fl z)=G at *; show Exit.then _ _ _ _ _; go_wp2
 exact bRq (v:=(.agg (row .u8 32 (G)).toArray)) (jQ Tryz.results98 rfl (Has.all hz' .u8 G).range Tryz.underlying23 rfl (jJ G)) rfl ⟨by first | rfl | rw [hGe] | (rw [← hGe]; done) | (rw [← hGe,nZ]; done) | (rw [← hGe,Nat.add_zero]; done),hB⟩
theorem pL (kp:Option Addr) (kl kc:Nat) (hkl:kl≤64) (key:Nat→Int) (c:Int) (w:World) (hk:Src w kp kl key) :
 Calls Tryz.prog 163 #[.slice kp kl kc,.int .u8 c] w fun e w'=>∃ g,e=.returned (.slice (some ⟨g,0,none⟩) 64 64)∧Has w' g .u8 64 (bxx c (xJ kl key))∧(w.heap.size≤g∧g<w'.heap.size)∧Below w.heap.size w w':=by
 go_enter Tryz.func163,Tryz.ntmps163
 go_upto_region 1 with fail; have K:=(Kr.init w).box .u8 64 (fun _=>0) 5 (w.heap.size) rfl; refine wR (xaL (w':=w.alloc (.cells (row .u8 64 (fun _=>0)).toArray 5)) (.slice (some ⟨w.heap.size,0,none⟩) 64 64) (j6i 32 _ _ _ _ _ rfl rfl rfl (q4h 64 JG w)) ?_); refine xmL ?_
 show Exit.then _ _ _ _ _; go_upto_region 2 with fail; generalize w.alloc (.cells (row .u8 64 (fun _=>0)).toArray 5)=w0 at K ⊢; have HR:=K.get _ _ _ _ mS; replace K:=K.loose [] (w.heap.size) .u8 64 (fun _=>0) mS YQ YQ (xnR _); refine wR (xm2 ?_)
 refine xaL (.int .i64 (kl:Int)) (uE _ _ 32 32 5 rfl Tryz.underlying32 JU (w.heap.size) 64 64 kl kc 64 kp key rfl rfl hkl hkl HR.there (hk.below K.below (xnR _))) ?_; replace K:=K.fill (w.heap.size) 64 mS (row .u8 kl key)
 replace HR:=(HR.part 0 kl JK key).congr (g:=xJ kl key) (fun j hj=>by
  unfold uA xJ; by_cases e:j<kl
  · rw [if_pos JK,if_pos e,Nat.sub_zero]
  rw [if_neg JK,if_neg e])
 replace K:=K.settle [] (w.heap.size) .u8 64 (xJ kl key) mS (fun _ hq=>by cases hq) (fun _ hq=>by cases hq) HR; generalize w0.setCells (w.heap.size) 0 (row .u8 kl key)=w1 at K ⊢; clear HR w0 hk hkl; show Exit.then _ _ _ _ _; generalize hpe:xJ kl key=p at K; go_wp2
 go_loopw [13] (fun i w'=>∃ (n:Nat) (f:Nat→Int),n≤64∧i=.int .i64 n∧Kr w (w.heap.size+1) [(w.heap.size,.u8,64,f)] [] w'∧(∀ j,j<n→f j=bxx c p j)∧∀ j,n≤j→f j=p j) (fun i _=>64-(intOf i).toNat)
 case atStart=>exact ⟨0,p,by omega,rfl,K,fun j hj=>by omega,fun _ _=>rfl⟩
 case round =>
  clear K; obtain ⟨n,f,hn,rfl,K,hd,hk⟩:=hrel; have g1:(0:Int)≤(n:Int):=by omega
  by_cases hlt:n<64
  · have g2:(n:Int)<64:=by omega
    have HX:bits .xor .u8 (f n) c=bxx c p n:=by rw [hk n (xnR _)]; rfl
    go_upto_region 6 with fail; refine wR (xm2 ?_); refine xqL (.pointer (some ⟨w.heap.size,n,none⟩)) Wz ?_; refine ycL (.int .u8 (f n)) (w.heap.size) n Tryz.underlying5 ((K.get _ _ _ _ mS).cell n hlt) ?_; refine xmL ?_; refine xqL _ (fun w=>j2i .u8 _ _ _ _ _ _ _ rfl rfl rfl HX w) ?_; refine xqL (.pointer (some ⟨w.heap.size,n,none⟩)) Wz ?_; refine ywL .u8 (bxx c p n) (w.heap.size) n Ue ((K.get _ _ _ _ mS).free n hlt) JU ?_; replace K:=K.setCell [] (w.heap.size) .u8 64 f n hlt (bxx c p n) mS YQ YQ (xnR _); have HS:=show Hid _ from (And.intro K (And.intro (show ∀ j,j<n+1→upd f n (bxx c p n) j=bxx c p j from fun j hj=>by
     by_cases e:j=n
     · exact Zz
     rw [jR _ _ _ _ e]; exact hd j JK) (show ∀ j,n+1≤j→upd f n (bxx c p n) j=p j from fun j hj=>by rw [jR _ _ _ _ (show j≠n by omega)]; exact hk j JK)))
    clear K hd hk HX; generalize wr.setCell ⟨w.heap.size,n,none⟩ (.int .u8 (bxx c p n))=w5 at HS ⊢; generalize upd f n (bxx c p n)=f' at HS; show Exit.inBlock _ _ _ _ _
    exact QG
  obtain rfl:n=64:=by omega
  have HR:=(K.get _ _ _ _ mS).congr (g:=bxx c p) (fun j hj=>hd j hj); have hB:=K.below; have hz:=K.size; clear K hd hk hlt hn g1; go_wp2; go_ret; exact ⟨w.heap.size,rfl,by rw [hpe]; exact HR,⟨xnR _,by omega⟩,hB⟩
theorem sK (b:Nat) (w:World):(Instr.sliceAt 23 (.pointer (some ⟨b,0,none⟩)) none none none).run Tryz.prog w=.ok (.slice (some ⟨b,0,none⟩) 32 32) w:=by kernel_rfl
theorem q6u (y z:Nat→Int):app y 0 z=z:=by
 funext j
 unfold app
 rw [if_neg (xnZ j),Nat.sub_zero]
theorem fX:q9z:=by
 intro sp len cap hlen hcap _ z hz w hg hs; have K:=Kr.init w; replace K:=K.make 32 jY 23 (w.heap.size) rfl (jK _ _ _ rfl).there
 go_enter Tryz.func74,Tryz.ntmps74
 go_upto_region 1 with fail; generalize (w.alloc (.cells jY 23))=w0 at K ⊢; refine wR (xmL ?_); refine clT (vC none 0 0 (.inl rfl) (xnR _) (fun _=>0) VJ sp len cap hlen hcap z hz _ (hg.below K.below hg.size) VJ (hs.below K.below (xnR _))) K ?_; clear K; intro w1 K
 rw [q6u,nZ]
 have hz':=(K.room _ mS).1
 refine ysL .u8 32 (jB len z) (w.heap.size) (jM hz') (jV _) ?_; have hB:=(K.fill _ _ mS (row .u8 32 (jB len z))).below; clear K; generalize hGe:jB len z=G at *; show Exit.then _ _ _ _ _; go_wp2
 exact bRq (v:=(.agg (row .u8 32 (G)).toArray)) (jQ Tryz.results74 rfl (Has.all hz' .u8 G).range Tryz.underlying23 rfl (jJ G)) rfl ⟨by first | rfl | rw [hGe] | (rw [← hGe]; done),hB⟩
theorem q1s (kl:Nat) (key:Nat→Int) (h:kl≤64):bkk kl key=xJ kl key:=by
 funext j
 unfold bkk xJ
 rw [if_pos h]
theorem q6k (kl:Nat) (key:Nat→Int) (h:¬ kl≤64):bkk kl key=xJ 32 (jB kl key):=by
 funext j
 unfold bkk xJ
 rw [if_neg h]
theorem j4t:x4j:=by
 intro kp kl kc hkl hkc _ key hkk sp len cap hlen hcap _ z hz w hg hk hs; have K:=Kr.init w; replace K:=K.make 32 jY 23 (w.heap.size) rfl (jK _ _ _ rfl).there
 go_enter Tryz.func147,Tryz.ntmps147
 go_upto_region 1 with fail; generalize (w.alloc (.cells jY 23))=w0 at K ⊢
 by_cases hl:kl≤64
 · have g1:(kl:Int)≤64:=by omega
   have HE:=show Hid _ from (show (jB (64+32) (app (bxx 92 (xJ (kl) key)) 64 (jB (64+len) (app (bxx 54 (xJ (kl) key)) 64 z))))=yD kl key len z from by unfold yD; rw [q1s kl key hl]); have hp54:=dW 54 JG (xJ (kl) key) 64 (tP (kl) key hkk 64); have hp92:=dW 92 JG (xJ (kl) key) 64 (tP (kl) key hkk 64); go_upto_region 4 with fail
   refine wR (xmL ?_); refine xcL (pL kp (kl) kc hl key 54 _ (hk.below K.below (xnR _))) ?_; rintro e wa ⟨g,rfl,hG,⟨_,hgl⟩,l⟩; replace K:=K.call l; clear l; refine xeL ?_; refine xmL ?_; refine clT (vC (some ⟨g,0,none⟩) 64 64 (.inr rfl) (xnR _) (bxx 54 (xJ (kl) key)) hp54 sp len cap JK hcap z hz _ (hg.below K.below hg.size) hG.src0 (hs.below K.below (xnR _))) K ?_; clear K; intro wb K; clear hG hgl; refine qH jY 23 rfl JW (nL ?_); refine ysL .u8 32 ((jB (64+len) (app (bxx 54 (xJ (kl) key)) 64 z))) wb.heap.size (jM (jK _ _ _ rfl).there) (jV _) ?_; have zJ:=K.size; replace K:=K.fresh .u8 32 ((jB (64+len) (app (bxx 54 (xJ (kl) key)) 64 z))) jY 23 (jK _ _ _ rfl).there; generalize ((wb.alloc (.cells jY 23)).setCells wb.heap.size 0 (row .u8 32 ((jB (64+len) (app (bxx 54 (xJ (kl) key)) 64 z)))))=wc at K ⊢; generalize wb.heap.size=J at *; show Exit.then _ _ _ _ _; go_upto_region 5 with fail
   refine qK (S:=fun w'=>Kr w (J+1) [(J,.u8,32,(jB (64+len) (app (bxx 54 (xJ (kl) key)) 64 z)))] [(w.heap.size,32)] w') 4 JU K.drew ?_; clear K; intro K; refine xmC 0 17 K ?_; refine xqC 2 19 rfl (.slice (some ⟨J,0,none⟩) 32 32) (fun w'=>yR _ _ _ _ rfl rfl (sK J w')) K ?_; refine yaC 1 18 (pL kp (kl) kc hl key 92 _ (hk.below K.below (xnR _))) ?_; rintro e wd ⟨g2,rfl,hG,⟨_,hgl⟩,l⟩; replace K:=K.call l; clear l; refine ⟨_,rfl,K,nC ?_⟩; refine yaC 3 20 (vC (some ⟨g2,0,none⟩) 64 64 (.inr rfl) (xnR _) (bxx 92 (xJ (kl) key)) hp92 (some ⟨J,0,none⟩) 32 32 JG (xnR _) (jB (64+len) (app (bxx 54 (xJ (kl) key)) 64 z)) (uR _ _ 32) _ (hg.below K.below hg.size) hG.src0 (K.get _ _ _ _ mS).src0) ?_; rintro e we ⟨rfl,l⟩; exact Qe
 have g1:(64:Int)<(kl:Int):=by omega
 go_upto_region 2 with fail; refine wR (xmL ?_); refine clT (fX kp kl kc hkl hkc (fun e=>by have h0:=hk.none e; omega) key hkk _ (hg.below K.below hg.size) (hk.below K.below (xnR _))) K ?_; clear K; intro w1 K; refine qH jY 23 rfl JW (nL ?_)
 refine ysL .u8 32 (jB kl key) w1.heap.size (jM (jK _ _ _ rfl).there) (jV _) ?_; have zX:=K.size; replace K:=K.fresh .u8 32 (jB kl key) jY 23 (jK _ _ _ rfl).there; generalize ((w1.alloc (.cells jY 23)).setCells w1.heap.size 0 (row .u8 32 (jB kl key)))=w2 at K ⊢; generalize w1.heap.size=X at *
 show Exit.then _ _ _ _ _; go_upto_region 3 with fail; refine wR (xqL (.slice (some ⟨X,0,none⟩) 32 32) (fun w'=>yR _ _ _ _ rfl rfl (sK X w')) ?_); refine xmL ?_; show Exit.then _ _ _ _ _
 have HE:=show Hid _ from (show (jB (64+32) (app (bxx 92 (xJ (32) (jB kl key))) 64 (jB (64+len) (app (bxx 54 (xJ (32) (jB kl key))) 64 z))))=yD kl key len z from by unfold yD; rw [q6k kl key hl]); have hp54:=dW 54 JG (xJ (32) (jB kl key)) 64 (tP (32) (jB kl key) (uR kl key 32) 64)
 have hp92:=dW 92 JG (xJ (32) (jB kl key)) 64 (tP (32) (jB kl key) (uR kl key 32) 64); go_upto_region 4 with fail; refine wR (xmL ?_); refine xcL (pL (some ⟨X,0,none⟩) (32) 32 JG (jB kl key) 54 _ (K.get _ _ _ _ mS).src0) ?_; rintro e wa ⟨g,rfl,hG,⟨_,hgl⟩,l⟩; replace K:=K.call l
 clear l; refine xeL ?_; refine xmL ?_; refine clT (vC (some ⟨g,0,none⟩) 64 64 (.inr rfl) (xnR _) (bxx 54 (xJ (32) (jB kl key))) hp54 sp len cap JK hcap z hz _ (hg.below K.below hg.size) hG.src0 (hs.below K.below (xnR _))) K ?_; clear K; intro wb K; clear hG hgl
 refine qH jY 23 rfl JW (nL ?_); refine ysL .u8 32 ((jB (64+len) (app (bxx 54 (xJ (32) (jB kl key))) 64 z))) wb.heap.size (jM (jK _ _ _ rfl).there) (jV _) ?_; have zJ:=K.size
 replace K:=K.fresh .u8 32 ((jB (64+len) (app (bxx 54 (xJ (32) (jB kl key))) 64 z))) jY 23 (jK _ _ _ rfl).there; generalize ((wb.alloc (.cells jY 23)).setCells wb.heap.size 0 (row .u8 32 ((jB (64+len) (app (bxx 54 (xJ (32) (jB kl key))) 64 z)))))=wc at K ⊢; generalize wb.heap.size=J at *; show Exit.then _ _ _ _ _; go_upto_region 5 with fail
 refine qK (S:=fun w'=>Kr w (J+1) [(J,.u8,32,(jB (64+len) (app (bxx 54 (xJ (32) (jB kl key))) 64 z))),(X,.u8,32,jB kl key)] [(w.heap.size,32)] w') 4 JU K.drew ?_; clear K; intro K; refine xmC 0 17 K ?_
 refine xqC 2 19 rfl (.slice (some ⟨J,0,none⟩) 32 32) (fun w'=>yR _ _ _ _ rfl rfl (sK J w')) K ?_; refine yaC 1 18 (pL (some ⟨X,0,none⟩) (32) 32 JG (jB kl key) 92 _ (K.get _ _ _ _ (mT _ mS)).src0) ?_; rintro e wd ⟨g2,rfl,hG,⟨_,hgl⟩,l⟩; replace K:=K.call l; clear l
 refine ⟨_,rfl,K,nC ?_⟩
 refine yaC 3 20 (vC (some ⟨g2,0,none⟩) 64 64 (.inr rfl) (xnR _) (bxx 92 (xJ (32) (jB kl key))) hp92 (some ⟨J,0,none⟩) 32 32 JG (xnR _) (jB (64+len) (app (bxx 54 (xJ (32) (jB kl key))) 64 z)) (uR _ _ 32) _ (hg.below K.below hg.size) hG.src0 (K.get _ _ _ _ mS).src0) ?_
 rintro e we ⟨rfl,l⟩; exact Qe
end Go.Proofs.YtknodlefhclijaaGreatDoor
