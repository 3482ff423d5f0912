/- Texts of Yb Yd Za Words Nums Least Load Save Fold Prod Inv, joined. -/
import Derived.Test.YtknodlefhclijaaGreatDoorP5ShakePlays
set_option maxRecDepth 20000
set_option maxHeartbeats 64000000
namespace Go.Proofs.YtknodlefhclijaaGreatDoor
open Go.RowKit
def stc (s:Sym):List Value:=row .u8 32 s.h++(row .u8 32 s.c++(row .u8 32 s.k++[.bool s.has,.int .i64 (s.n:Int)]))
theorem rH (s:Sym):(stc s).length=98:=by unfold stc; simp [jX]
theorem q2r (s:Sym):((stc s).drop 0).take (row .u8 32 s.h).length=row .u8 32 s.h:=by unfold stc; rw [List.drop_zero,List.take_left]
theorem x0e (s:Sym):((stc s).drop 32).take (row .u8 32 s.c).length=row .u8 32 s.c:=by unfold stc; rw [List.drop_left' (xY s.h),List.take_left]
theorem x4m (s:Sym):((stc s).drop 64).take (row .u8 32 s.k).length=row .u8 32 s.k:=by
 unfold stc
 rw [← List.append_assoc,List.drop_left' (by rw [List.length_append,xY,xY]),List.take_left]
theorem rG (s:Sym) (j:Nat):(stc s)[96+j]?=[Value.bool s.has,.int .i64 (s.n:Int)][j]?:=by
 unfold stc
 exact Xy
theorem q2p (s:Sym) (f:Nat→Int):vR (stc s) 0 (row .u8 32 f)=stc { s with h:=f }:=by
 unfold stc
 exact gU _ _ _ Ub
theorem q2q (s:Sym) (f:Nat→Int):vR (stc s) 32 (row .u8 32 f)=stc { s with c:=f }:=by
 unfold stc
 have:=gS (row .u8 32 s.h) (row .u8 32 f) (row .u8 32 s.c++(row .u8 32 s.k++[.bool s.has,.int .i64 (s.n:Int)])) 0
 rw [xY] at this
 rw [show (32:Nat)=32+0 from rfl,this,gU _ _ _ Ub]
theorem q2o (s:Sym) (f:Nat→Int):vR (stc s) 64 (row .u8 32 f)=stc { s with k:=f }:=by
 unfold stc
 have:=gS (row .u8 32 s.h++row .u8 32 s.c) (row .u8 32 f) (row .u8 32 s.k++[.bool s.has,.int .i64 (s.n:Int)]) 0
 exact XK
theorem q0d (s:Sym) (b:Bool):(stc s).set 96 (.bool b)=stc { s with has:=b }:=by
 unfold stc
 exact Qk
theorem dH (s:Sym) (n:Nat):(stc s).set 97 (.int .i64 (n:Int))=stc { s with n:=n }:=by
 unfold stc
 exact Qk
theorem mB (w0 w:World) (R:Nat) (l:List (Nat × List Value)) (s:Sym) (hw:In 256 32 s.h) (sp:Option Addr) (cap:Nat) (b:List Int) (hlen:b.length≤140737488351232) (hnil:sp=none→cap=0) (hb:Byts b) (M:Mm w0 ((R,stc s)::l) w) (hs:SrcA [R] w sp b.length (bl b)):Calls Tryz.prog 38 #[.pointer (some ⟨R,0,none⟩),.slice sp b.length cap] w fun e w'=>e=.returned (.tuple #[])∧Mm w0 ((R,stc (jU s b))::l) w'∧Off [R] w w':=by
 have hRw:=M.lt mS; have hR0:=M.below.size; have hwz:=xnR w.heap.size
 have hML0:∀ p∈l,p.1<w.heap.size:=fun p hp=>(M.rows p (mT _ hp)).2.2
 have OF:=Off.refl [R] w
 go_enter Tryz.func38,Tryz.ntmps38
 have hML:∀ p∈(R,stc s)::l,p.1<w.heap.size:=fun p hp=>by rcases xc1 hp with rfl | hp; exact hRw; exact hML0 p hp
 go_upto_region 0 with fail; refine wR (xmL ?_); refine xaL (w':=w.alloc (.cells #[] 5)) (.slice (some ⟨w.heap.size,0,none⟩) 0 0) JU ?_
 have O_1:Own (w.alloc (.cells #[] 5)) w.heap.size 5 .u8 0 (fun _=>0) (.slice (some ⟨w.heap.size,0,none⟩) 0 0):=Own.lit w w.heap.size 5 .u8 0 (fun _=>0) hwz Jj
 have hlb:=(Below.refl w.heap.size w).alloc (xnR _) (.cells #[] 5); replace hwz:=xnT hwz hlb.size; replace M:=M.call hlb; replace OF:=OF.below hlb; clear hlb; generalize w.alloc (.cells #[] 5)=w1 at M O_1 hwz OF ⊢; generalize (some ⟨w.heap.size,0,none⟩:Option Addr)=p1 at O_1 ⊢; refine xmL ?_; refine xpL (.pointer (some ⟨R,0,none⟩)) ?_
 refine xpL (.pointer (some ⟨R,0,none⟩)) ?_; refine xaL (.slice (some ⟨R,0,none⟩) 32 32) (yR 23 _ _ _ rfl rfl JU) ?_
 obtain ⟨v,w2,hr,O_2,hgr,_⟩:=jH (P:=Tryz.prog) (ty:=32) Tryz.underlying32 vG O_1 (some ⟨R,0,none⟩) 32 32 s.h (M.srcRow mS 0 32 _ (q2r s)) Jq Jj JK hwz
 replace M:=M.grown hgr w.heap.size hML JK hwz (fun b hb=>(World.ownsRow.lt O_1 b hb).1); replace OF:=OF.grown hgr (fun b hb=>.inr (World.ownsRow.lt O_1 b hb).1); replace hwz:=xnT hwz hgr.size; refine xaL v (jW _ _ 32 _ _ _ rfl rfl rfl hr) ?_; clear hr hgr O_1
 obtain ⟨p2,c2,rfl,_,_⟩:=O_2.bytes
 refine xmL ?_
 obtain ⟨v,w3,hr,O_3,hgr,_⟩:=jH (P:=Tryz.prog) (ty:=32) Tryz.underlying32 vG O_2 sp b.length cap (bl b) (hs.off OF).1 hnil Jj JK hwz
 replace M:=M.grown hgr w.heap.size hML JK hwz (fun b hb=>(World.ownsRow.lt O_2 b hb).1); replace OF:=OF.grown hgr (fun b hb=>.inr (World.ownsRow.lt O_2 b hb).1); replace hwz:=xnT hwz hgr.size; refine xaL v (jW _ _ 32 _ _ _ rfl rfl rfl hr) ?_; clear hr hgr O_2
 obtain ⟨p3,c3,rfl,_,_⟩:=O_3.bytes
 have hzz:In 256 (0+32+b.length) (app (app (fun _=>0) 0 s.h) (0+32) (bl b)):=fun j hj=>by
  show 0≤app (app (fun _=>0) 0 s.h) (0+32) (bl b) j∧app (app (fun _=>0) 0 s.h) (0+32) (bl b) j<256
  unfold app; split
  · rw [if_neg JK]; exact hw (j-0) JK
  exact hb.bl (j-(0+32)) JK
 have hzf:jB (0+32+b.length) (app (app (fun _=>0) 0 s.h) (0+32) (bl b))=jB (32+b.length) (app s.h 32 (bl b)):=by
  rw [show 0+32+b.length=32+b.length by omega]; exact nE _ _ _ fun j hj=>by
   unfold app; rw [show 0+32=32 from rfl]; split
   · rw [if_neg JK,Nat.sub_zero]
   rfl
 refine xcL (kZ p3 _ c3 JK JK O_3.nilCap (app (app (fun _=>0) 0 s.h) (0+32) (bl b)) hzz _ O_3.src) ?_; rintro e w4 ⟨rfl,l1⟩; replace M:=M.call l1; replace OF:=OF.below l1
 rw [hzf]
 clear l1 hzf hzz O_3; refine xeL ?_; refine xpL (.pointer (some ⟨R,0,none⟩)) ?_; refine xpL (.pointer (some ⟨R,0,none⟩)) ?_; refine jG rfl (jC (row .u8 32 (jB (32+b.length) (app s.h 32 (bl b)))) R 0 23 _ _ rfl rfl rfl (M.thereP mS 0 32 YV) JU (jT .u8 32 (jB (32+b.length) (app s.h 32 (bl b))))) ?_; simp only [Act.put]
 replace M:=M.setPart (row .u8 32 (jB (32+b.length) (app s.h 32 (bl b)))) 0 Wv
 rw [q2p] at M
 replace OF:=OF.and1 ((Off.refl [R] _).setAll (b:=R) mS 0 (row .u8 32 (jB (32+b.length) (app s.h 32 (bl b))))) (.inl mS); generalize w4.setCells R 0 (row .u8 32 (jB (32+b.length) (app s.h 32 (bl b))))=w5 at M OF ⊢
 exact ⟨rfl,.tuple #[],by kernel_rfl,rfl,M,OF⟩
theorem q3g (w0 w:World) (R:Nat) (l:List (Nat × List Value)) (s:Sym) (hw:In 256 32 s.c) (sp:Option Addr) (cap:Nat) (b:List Int) (hlen:b.length≤140737488351232) (hnil:sp=none→cap=0) (hb:Byts b) (M:Mm w0 ((R,stc s)::l) w) (hs:SrcA [R] w sp b.length (bl b)):Calls Tryz.prog 69 #[.pointer (some ⟨R,0,none⟩),.slice sp b.length cap] w fun e w'=>e=.returned (.tuple #[])∧Mm w0 ((R,stc (jZ s b))::l) w'∧Off [R] w w':=by
 have hRw:=M.lt mS; have hR0:=M.below.size; have hwz:=xnR w.heap.size
 have hML0:∀ p∈l,p.1<w.heap.size:=fun p hp=>(M.rows p (mT _ hp)).2.2
 have OF:=Off.refl [R] w
 go_enter Tryz.func69,Tryz.ntmps69
 go_upto_region 0 with fail; refine wR (xm3 ?_); refine xpL (.pointer (some ⟨R,0,none⟩)) ?_; refine xpL (.pointer (some ⟨R,32,none⟩)) ?_
 refine xaL (.agg (row .u8 32 s.c).toArray) (jD 23 _ ⟨R,32,none⟩ (row .u8 32 s.c) rfl rfl JW JH (M.part mS 32 _ (x0e s))) ?_; refine xmL ?_; refine xcL (fG s.c hw sp b.length cap JK hnil (bl b) hb.bl _ (hs.off OF).1) ?_; rintro e w1 ⟨rfl,l1⟩; replace M:=M.call l1; replace OF:=OF.below l1
 clear l1; refine xeL ?_; refine xm3 ?_; refine xpL (.pointer (some ⟨R,0,none⟩)) ?_; refine xpL (.pointer (some ⟨R,32,none⟩)) ?_
 refine jG rfl (jC (row .u8 32 (kA s.c b.length (bl b))) R 32 23 _ _ rfl rfl rfl (M.thereP mS 32 32 YV) JU (jT .u8 32 (kA s.c b.length (bl b)))) ?_; simp only [Act.put]; replace M:=M.setPart (row .u8 32 (kA s.c b.length (bl b))) 32 Wv
 rw [q2q] at M
 replace OF:=OF.and1 ((Off.refl [R] _).setAll (b:=R) mS 32 (row .u8 32 (kA s.c b.length (bl b)))) (.inl mS); generalize w1.setCells R 32 (row .u8 32 (kA s.c b.length (bl b)))=w2 at M OF ⊢
 refine xpL (.pointer (some ⟨R,0,none⟩)) ?_; refine xpL (.pointer (some ⟨R,64,none⟩)) ?_; refine jG rfl (jC (row .u8 32 (kB s.c b.length (bl b))) R 64 23 _ _ rfl rfl rfl (M.thereP mS 64 32 YV) JU (jT .u8 32 (kB s.c b.length (bl b)))) ?_; simp only [Act.put]
 replace M:=M.setPart (row .u8 32 (kB s.c b.length (bl b))) 64 Wv
 rw [q2o] at M
 replace OF:=OF.and1 ((Off.refl [R] _).setAll (b:=R) mS 64 (row .u8 32 (kB s.c b.length (bl b)))) (.inl mS); generalize w2.setCells R 64 (row .u8 32 (kB s.c b.length (bl b)))=w3 at M OF ⊢
 refine xT ?_; go_upto_region 1 with fail; refine wR (xmL ?_); refine xpL (.pointer (some ⟨R,0,none⟩)) ?_; refine xpL (.pointer (some ⟨R,96,none⟩)) ?_; refine jG rfl (xR (.bool true) R 96 4 _ _ rfl rfl rfl rfl rfl (M.isSome mS 96 YV) (M.free mS 96 YV) JU) ?_
 simp only [Act.put]; replace M:=M.set 96 YV (.bool true)
 rw [q0d] at M
 replace OF:=OF.and1 ((Off.refl [R] _).set (b:=R) mS 96 (.bool true)) (.inl mS); generalize w3.setCell ⟨R,96,none⟩ (.bool true)=w4 at M OF ⊢
 refine xT ?_; go_upto_region 2 with fail; refine wR (xmL ?_); refine xpL (.pointer (some ⟨R,0,none⟩)) ?_; refine xpL (.pointer (some ⟨R,97,none⟩)) ?_; refine jG rfl (xR (.int .i64 0) R 97 3 _ _ rfl rfl rfl rfl rfl (M.isSome mS 97 YV) (M.free mS 97 YV) JU) ?_
 simp only [Act.put]; replace M:=M.set 97 YV (.int .i64 0)
 rw [show (.int .i64 0:Value)=.int .i64 ((0:Nat):Int) from rfl,dH] at M
 replace OF:=OF.and1 ((Off.refl [R] _).set (b:=R) mS 97 (.int .i64 0)) (.inl mS); generalize w4.setCell ⟨R,97,none⟩ (.int .i64 0)=w5 at M OF ⊢
 exact ⟨rfl,.tuple #[],by kernel_rfl,rfl,M,OF⟩
theorem j5s (w0 w:World) (R:Nat) (l:List (Nat × List Value)) (s:Sym) (hw:In 256 32 s.c) (M:Mm w0 ((R,stc s)::l) w) :
 Calls Tryz.prog 27 #[.pointer (some ⟨R,0,none⟩)] w fun e w'=>e=.returned (.tuple #[.agg (row .u8 32 (kA s.c 0 (bl []))).toArray,.agg (row .u8 32 (kB s.c 0 (bl []))).toArray])∧Below w.heap.size w w':=by
 have hRw:=M.lt mS; have OF:=Off.refl [] w; have hb0:=M.below
 go_enter Tryz.func27,Tryz.ntmps27
 go_upto_region 0 with fail; refine wR ?_; have hz0_:=OF.size; refine xaL (w':=w.alloc (.cells jY 23)) (.pointer (some ⟨w.heap.size,0,none⟩)) JU ?_; have hlb:=(Below.refl w.heap.size w).alloc (xnR _) (.cells jY 23); replace OF:=OF.below hlb; clear hlb
 have hB_B1:w0.heap.size≤w.heap.size:=M.below.size
 replace M:=M.box jY 23 w.heap.size rfl; generalize w.alloc (.cells jY 23)=w1 at M OF ⊢; generalize eB:w.heap.size=B1 at M hB_B1  ⊢
 have hE_B1:w.heap.size≤B1:=Nat.le_of_eq eB
 have hF_B1:B1≤w.heap.size:=Nat.le_of_eq eB.symm
 clear eB
 have hW_B1:w.heap.size≤B1:=by omega
 clear hz0_; have hz0_:=OF.size; refine xaL (w':=w1.alloc (.cells jY 23)) (.pointer (some ⟨w1.heap.size,0,none⟩)) JU ?_; have hlb:=(Below.refl w1.heap.size w1).alloc (xnR _) (.cells jY 23); replace OF:=OF.below hlb; clear hlb
 have hB_B2:w0.heap.size≤w1.heap.size:=M.below.size
 replace M:=M.box jY 23 w1.heap.size rfl; generalize w1.alloc (.cells jY 23)=w2 at M OF ⊢; generalize eB:w1.heap.size=B2 at M hB_B2  ⊢
 have hE_B2:w1.heap.size≤B2:=Nat.le_of_eq eB
 have hF_B2:B2≤w1.heap.size:=Nat.le_of_eq eB.symm
 clear eB
 have hW_B2:w.heap.size≤B2:=by omega
 clear hz0_; refine xT ?_; go_upto_region 1 with fail; refine wR (xmL ?_); refine xpL (.pointer (some ⟨R,0,none⟩)) ?_; refine xpL (.pointer (some ⟨R,32,none⟩)) ?_
 refine xaL (.agg (row .u8 32 s.c).toArray) (jD 23 _ ⟨R,32,none⟩ (row .u8 32 s.c) rfl rfl JW JH (M.part (mI 2 rfl) 32 _ (x0e s))) ?_; refine xcL (fG s.c hw none 0 0 JG (fun _=>rfl) (bl []) VJ _ VJ) ?_; rintro e w3 ⟨rfl,l1⟩; exact Qj
def yH:List Int:=[78,111,105,115,101,95,73,75,95,50,53,53,49,57,95,67,104,97,67,104,97,80,111,108,121,95,66,76,65,75,69,50,115]
def fR (f:Nat→Int):Sym:=⟨f,f,fun _=>0,false,0⟩
def uS:Sym:=fR (jB 33 (bl yH))
theorem snoise_in:Byts yH:=by unfold Byts yH; decide
theorem snew_w:SymW uS:=⟨uR _ _ _,uR _ _ _,fun _ _=>⟨Int.le_refl _,show (0:Int)<256 by decide⟩⟩
theorem q7m (s:Sym):∀ u∈stc s,u.oneCell'=true:=fun u hu=>by
 unfold stc at hu
 rcases List.mem_append.1 hu with h | h
 · exact jT .u8 32 s.h u h
 rcases List.mem_append.1 h with h | h
 · exact jT .u8 32 s.c u h
 rcases List.mem_append.1 h with h | h
 · exact jT .u8 32 s.k u h
 rcases xc1 h with rfl | h
 · rfl
 obtain rfl:=xm1 h
 rfl
theorem tR (w0 w:World) (R:Nat) (l:List (Nat × List Value)) (s:Sym) (M:Mm w0 ((R,stc s)::l) w) :
 Calls Tryz.prog 39 #[.pointer (some ⟨R,0,none⟩)] w fun e w'=>∃ Q,e=.returned (.pointer (some ⟨Q,0,none⟩))∧w.heap.size≤Q∧Mm w0 ((Q,stc s)::(R,stc s)::l) w'∧Below w.heap.size w w':=by
 have OF:=Off.refl [] w; have hb0:=M.below
 go_enter Tryz.func39,Tryz.ntmps39
 go_upto_region 0 with fail; refine wR (xmL ?_); refine xT ?_; go_upto_region 1 with fail; refine wR (xmL ?_); refine xpL (.pointer (some ⟨R,0,none⟩)) ?_
 refine xaL (.agg (stc s).toArray) (jD 81 _ ⟨R,0,none⟩ (stc s) rfl rfl JW (fun _=>by rw [rH]; kernel_rfl) (M.part mS 0 _ Jd)) ?_; have hz0_:=OF.size
 refine xaL (w':=w.alloc (.cells #[.int .u8 0,.int .u8 0,.int .u8 0,.int .u8 0,.int .u8 0,.int .u8 0,.int .u8 0,.int .u8 0,.int .u8 0,.int .u8 0,.int .u8 0,.int .u8 0,.int .u8 0,.int .u8 0,.int .u8 0,.int .u8 0,.int .u8 0,.int .u8 0,.int .u8 0,.int .u8 0,.int .u8 0,.int .u8 0,.int .u8 0,.int .u8 0,.int .u8 0,.int .u8 0,.int .u8 0,.int .u8 0,.int .u8 0,.int .u8 0,.int .u8 0,.int .u8 0,.int .u8 0,.int .u8 0,.int .u8 0,.int .u8 0,.int .u8 0,.int .u8 0,.int .u8 0,.int .u8 0,.int .u8 0,.int .u8 0,.int .u8 0,.int .u8 0,.int .u8 0,.int .u8 0,.int .u8 0,.int .u8 0,.int .u8 0,.int .u8 0,.int .u8 0,.int .u8 0,.int .u8 0,.int .u8 0,.int .u8 0,.int .u8 0,.int .u8 0,.int .u8 0,.int .u8 0,.int .u8 0,.int .u8 0,.int .u8 0,.int .u8 0,.int .u8 0,.int .u8 0,.int .u8 0,.int .u8 0,.int .u8 0,.int .u8 0,.int .u8 0,.int .u8 0,.int .u8 0,.int .u8 0,.int .u8 0,.int .u8 0,.int .u8 0,.int .u8 0,.int .u8 0,.int .u8 0,.int .u8 0,.int .u8 0,.int .u8 0,.int .u8 0,.int .u8 0,.int .u8 0,.int .u8 0,.int .u8 0,.int .u8 0,.int .u8 0,.int .u8 0,.int .u8 0,.int .u8 0,.int .u8 0,.int .u8 0,.int .u8 0,.int .u8 0,.bool false,.int .i64 0] 81)) (.pointer (some ⟨w.heap.size,0,none⟩)) JU ?_
 have hlb:=(Below.refl w.heap.size w).alloc (xnR _) (.cells #[.int .u8 0,.int .u8 0,.int .u8 0,.int .u8 0,.int .u8 0,.int .u8 0,.int .u8 0,.int .u8 0,.int .u8 0,.int .u8 0,.int .u8 0,.int .u8 0,.int .u8 0,.int .u8 0,.int .u8 0,.int .u8 0,.int .u8 0,.int .u8 0,.int .u8 0,.int .u8 0,.int .u8 0,.int .u8 0,.int .u8 0,.int .u8 0,.int .u8 0,.int .u8 0,.int .u8 0,.int .u8 0,.int .u8 0,.int .u8 0,.int .u8 0,.int .u8 0,.int .u8 0,.int .u8 0,.int .u8 0,.int .u8 0,.int .u8 0,.int .u8 0,.int .u8 0,.int .u8 0,.int .u8 0,.int .u8 0,.int .u8 0,.int .u8 0,.int .u8 0,.int .u8 0,.int .u8 0,.int .u8 0,.int .u8 0,.int .u8 0,.int .u8 0,.int .u8 0,.int .u8 0,.int .u8 0,.int .u8 0,.int .u8 0,.int .u8 0,.int .u8 0,.int .u8 0,.int .u8 0,.int .u8 0,.int .u8 0,.int .u8 0,.int .u8 0,.int .u8 0,.int .u8 0,.int .u8 0,.int .u8 0,.int .u8 0,.int .u8 0,.int .u8 0,.int .u8 0,.int .u8 0,.int .u8 0,.int .u8 0,.int .u8 0,.int .u8 0,.int .u8 0,.int .u8 0,.int .u8 0,.int .u8 0,.int .u8 0,.int .u8 0,.int .u8 0,.int .u8 0,.int .u8 0,.int .u8 0,.int .u8 0,.int .u8 0,.int .u8 0,.int .u8 0,.int .u8 0,.int .u8 0,.int .u8 0,.int .u8 0,.int .u8 0,.bool false,.int .i64 0] 81)
 replace OF:=OF.below hlb; clear hlb
 have hB_B1:w0.heap.size≤w.heap.size:=M.below.size
 replace M:=M.box #[.int .u8 0,.int .u8 0,.int .u8 0,.int .u8 0,.int .u8 0,.int .u8 0,.int .u8 0,.int .u8 0,.int .u8 0,.int .u8 0,.int .u8 0,.int .u8 0,.int .u8 0,.int .u8 0,.int .u8 0,.int .u8 0,.int .u8 0,.int .u8 0,.int .u8 0,.int .u8 0,.int .u8 0,.int .u8 0,.int .u8 0,.int .u8 0,.int .u8 0,.int .u8 0,.int .u8 0,.int .u8 0,.int .u8 0,.int .u8 0,.int .u8 0,.int .u8 0,.int .u8 0,.int .u8 0,.int .u8 0,.int .u8 0,.int .u8 0,.int .u8 0,.int .u8 0,.int .u8 0,.int .u8 0,.int .u8 0,.int .u8 0,.int .u8 0,.int .u8 0,.int .u8 0,.int .u8 0,.int .u8 0,.int .u8 0,.int .u8 0,.int .u8 0,.int .u8 0,.int .u8 0,.int .u8 0,.int .u8 0,.int .u8 0,.int .u8 0,.int .u8 0,.int .u8 0,.int .u8 0,.int .u8 0,.int .u8 0,.int .u8 0,.int .u8 0,.int .u8 0,.int .u8 0,.int .u8 0,.int .u8 0,.int .u8 0,.int .u8 0,.int .u8 0,.int .u8 0,.int .u8 0,.int .u8 0,.int .u8 0,.int .u8 0,.int .u8 0,.int .u8 0,.int .u8 0,.int .u8 0,.int .u8 0,.int .u8 0,.int .u8 0,.int .u8 0,.int .u8 0,.int .u8 0,.int .u8 0,.int .u8 0,.int .u8 0,.int .u8 0,.int .u8 0,.int .u8 0,.int .u8 0,.int .u8 0,.int .u8 0,.int .u8 0,.bool false,.int .i64 0] 81 w.heap.size rfl
 generalize w.alloc (.cells #[.int .u8 0,.int .u8 0,.int .u8 0,.int .u8 0,.int .u8 0,.int .u8 0,.int .u8 0,.int .u8 0,.int .u8 0,.int .u8 0,.int .u8 0,.int .u8 0,.int .u8 0,.int .u8 0,.int .u8 0,.int .u8 0,.int .u8 0,.int .u8 0,.int .u8 0,.int .u8 0,.int .u8 0,.int .u8 0,.int .u8 0,.int .u8 0,.int .u8 0,.int .u8 0,.int .u8 0,.int .u8 0,.int .u8 0,.int .u8 0,.int .u8 0,.int .u8 0,.int .u8 0,.int .u8 0,.int .u8 0,.int .u8 0,.int .u8 0,.int .u8 0,.int .u8 0,.int .u8 0,.int .u8 0,.int .u8 0,.int .u8 0,.int .u8 0,.int .u8 0,.int .u8 0,.int .u8 0,.int .u8 0,.int .u8 0,.int .u8 0,.int .u8 0,.int .u8 0,.int .u8 0,.int .u8 0,.int .u8 0,.int .u8 0,.int .u8 0,.int .u8 0,.int .u8 0,.int .u8 0,.int .u8 0,.int .u8 0,.int .u8 0,.int .u8 0,.int .u8 0,.int .u8 0,.int .u8 0,.int .u8 0,.int .u8 0,.int .u8 0,.int .u8 0,.int .u8 0,.int .u8 0,.int .u8 0,.int .u8 0,.int .u8 0,.int .u8 0,.int .u8 0,.int .u8 0,.int .u8 0,.int .u8 0,.int .u8 0,.int .u8 0,.int .u8 0,.int .u8 0,.int .u8 0,.int .u8 0,.int .u8 0,.int .u8 0,.int .u8 0,.int .u8 0,.int .u8 0,.int .u8 0,.int .u8 0,.int .u8 0,.int .u8 0,.bool false,.int .i64 0] 81)=w1 at M OF ⊢
 generalize eB:w.heap.size=B1 at M hB_B1  ⊢
 have hE_B1:w.heap.size≤B1:=Nat.le_of_eq eB
 have hF_B1:B1≤w.heap.size:=Nat.le_of_eq eB.symm
 clear eB
 have hW_B1:w.heap.size≤B1:=by omega
 clear hz0_; refine jG rfl (jC (stc s) B1 0 81 _ _ rfl rfl rfl (M.thereP mS 0 98 (nB rfl)) (by rw [xA,rH]; kernel_rfl) (q7m _)) ?_; simp only [Act.put]; replace M:=M.setAll (stc s) (by rw [rH]; rfl); replace OF:=OF.and1 ((Off.refl [B1] _).setAll mS 0 (stc s)) (.inr JK); generalize w1.setCells B1 0 (stc s)=w2 at M OF ⊢
 exact Qs
theorem j3c (w0 w:World) (l:List (Nat × List Value)) (M:Mm w0 l w) :
 Calls Tryz.prog 37 #[] w fun e w'=>∃ Q,e=.returned (.pointer (some ⟨Q,0,none⟩))∧w.heap.size≤Q∧Mm w0 ((Q,stc uS)::l) w'∧Below w.heap.size w w':=by
 obtain ⟨f,hf⟩:∃ f,f=jB 33 (bl yH):=⟨_,rfl⟩
 rw [show uS=fR f by rw [hf]; rfl]
 have OF:=Off.refl [] w; have hb0:=M.below
 go_enter Tryz.func37,Tryz.ntmps37
 go_upto_region 0 with fail; refine wp_region_list ?_; refine xpL (.pointer none) (xT ?_); go_upto_region 1 with fail; refine wp_region_list ?_; refine sS (w':=w.alloc (.cells (row .u8 33 (bl yH)).toArray 5)) (.slice (some ⟨w.heap.size,0,none⟩) 33 33) rfl (by kernel_rfl) ?_; simp only [aP,lI,l0,lS]
 refine xaL (.slice (some ⟨w.heap.size,0,none⟩) 33 33) (gB 32 5 (row .u8 33 (bl yH)).toArray 33 33 _ rfl rfl Tryz.underlying32 Tryz.underlying5) ?_; have hsrc:=(eV w .u8 33 (bl yH) 5).src0; have hlb:=(Below.refl w.heap.size w).alloc (xnR _) (.cells (row .u8 33 (bl yH)).toArray 5 ((row .u8 33 (bl yH)).toArray.size,(row .u8 33 (bl yH)).toArray.size+1))
 replace M:=M.call hlb; replace OF:=OF.below hlb; clear hlb; generalize w.alloc (.cells (row .u8 33 (bl yH)).toArray 5 ((row .u8 33 (bl yH)).toArray.size,(row .u8 33 (bl yH)).toArray.size+1))=w1 at M hsrc OF ⊢; refine xcL (kZ (some ⟨w.heap.size,0,none⟩) 33 33 (by decide) (by decide) (fun e=>by cases e) (bl yH) snoise_in.bl _ hsrc) ?_; rintro e w2 ⟨rfl,l1⟩
 replace M:=M.call l1; replace OF:=OF.below l1; clear l1 hsrc
 rw [← hf]
 refine xeL ?_; have hz0_:=OF.size; refine sS (w':=w2.alloc (.cells jY 23)) (.pointer (some ⟨w2.heap.size,0,none⟩)) rfl (by kernel_rfl) ?_; simp only [aP,lI,l0,lS]; have hlb:=(Below.refl w2.heap.size w2).alloc (xnR _) (.cells jY 23); replace OF:=OF.below hlb; clear hlb
 have hB_B3:w0.heap.size≤w2.heap.size:=M.below.size
 replace M:=M.box jY 23 w2.heap.size rfl; generalize w2.alloc (.cells jY 23)=w3 at M OF ⊢; generalize eB:w2.heap.size=B3 at M hB_B3  ⊢
 have hE_B3:w2.heap.size≤B3:=Nat.le_of_eq eB
 have hF_B3:B3≤w2.heap.size:=Nat.le_of_eq eB.symm
 clear eB
 replace M:Mm w0 ((B3,[.int .u8 0,.int .u8 0,.int .u8 0,.int .u8 0,.int .u8 0,.int .u8 0,.int .u8 0,.int .u8 0,.int .u8 0,.int .u8 0,.int .u8 0,.int .u8 0,.int .u8 0,.int .u8 0,.int .u8 0,.int .u8 0,.int .u8 0,.int .u8 0,.int .u8 0,.int .u8 0,.int .u8 0,.int .u8 0,.int .u8 0,.int .u8 0,.int .u8 0,.int .u8 0,.int .u8 0,.int .u8 0,.int .u8 0,.int .u8 0,.int .u8 0,.int .u8 0])::l) w3:=M
 have hW_B3:w.heap.size≤B3:=by omega
 clear hz0_; refine jG rfl (jC (row .u8 32 f) B3 0 23 _ _ rfl rfl rfl (M.thereP mS 0 32 (Nat.le_of_ble_eq_true rfl)) (by rw [List.size_toArray,xY]; kernel_rfl) (jT .u8 32 _)) ?_; simp only [Act.put]; replace M:=M.setAll (row .u8 32 f) (by rw [xY]; rfl); replace OF:=OF.and1 ((Off.refl [B3] _).setAll mS 0 (row .u8 32 f)) (.inr (by omega))
 generalize w3.setCells B3 0 (row .u8 32 f)=w4 at M OF ⊢; refine xT ?_; go_upto_region 2 with fail; refine wp_region_list ?_; refine xaL (.agg (row .u8 32 f).toArray) (jD 23 _ ⟨B3,0,none⟩ (row .u8 32 f) rfl rfl (fun _=>by kernel_rfl) (fun _=>by rw [xY]; kernel_rfl) (M.part mS 0 _ (by rw [List.drop_zero,List.take_length]))) ?_
 refine xaL (.agg (row .u8 32 f).toArray) (jD 23 _ ⟨B3,0,none⟩ (row .u8 32 f) rfl rfl (fun _=>by kernel_rfl) (fun _=>by rw [xY]; kernel_rfl) (M.part mS 0 _ (by rw [List.drop_zero,List.take_length]))) ?_; refine xpL (.agg (stc (fR f)).toArray) ?_; refine sS (w':=w4.alloc (.cells (stc (fR f)).toArray 81)) (.pointer (some ⟨w4.heap.size,0,none⟩)) rfl (by kernel_rfl) ?_
 simp only [aP,lI,l0,lS]
 have hW_B5:w.heap.size≤w4.heap.size:=OF.size
 replace OF:=OF.below ((Below.refl w4.heap.size w4).alloc (xnR _) (.cells (stc (fR f)).toArray 81)); replace M:=M.box (stc (fR f)).toArray 81 w4.heap.size rfl; generalize w4.alloc (.cells (stc (fR f)).toArray 81)=w5 at M OF ⊢; generalize w4.heap.size=B5 at M hW_B5 ⊢
 replace M:Mm w0 ((B5,stc (fR f))::(B3,row .u8 32 f)::l) w5:=M
 refine xpL (.pointer (some ⟨B5,0,none⟩)) (xT ?_); replace M:=M.drop2
 have hbel:Below w.heap.size w w5:=⟨M.below.os.trans hb0.os.symm,M.below.tape.trans hb0.tape.symm,M.below.output.trans hb0.output.symm,OF.size,fun b hb=>OF.blk b hb (fun h=>by cases h)⟩
 have HS:=show Hid _ from (And.intro hW_B5 (And.intro M hbel)); clear M OF hbel hW_B5; go_wp2; go_ret
 exact ⟨_,rfl,HS.out⟩
structure Lad where
 pub:(Nat→Int)→List Int
 dh:(Nat→Int)→List Int→Option (List Int)
structure Shk where
 role:Nat
 step:Nat
 sec:Nat→Int
 drw:Nat→Int
 its:List Int
 drn:List Int
 st:Sym
def shz:List Int:=List.replicate 32 0
def qS (a e:Nat→Int) (B:List Int):Shk:=⟨0,0,a,e,B,shz,jU uS B⟩
def yS (L:Lad) (b f:Nat→Int):Shk:=⟨1,0,b,f,shz,shz,jU uS (L.pub b)⟩
def shF (L:Lad) (s:Shk) (t:List Int):Except Int (List Int × Shk) :=
 if s.role≠0∨s.step≠0 then .error 4 else if 128<t.length then .error 2
 else match L.dh s.drw s.its with
  | none=>.error 20
  | some k=>match L.dh s.sec s.its with
    | none=>.error 20
    | some k'=>.ok (L.pub s.drw++(qG (jZ (jU s.st (L.pub s.drw)) k) (L.pub s.sec)++qG (jZ (qN (jZ (jU s.st (L.pub s.drw)) k) (L.pub s.sec)) k') t),{ s with st:=qN (jZ (qN (jZ (jU s.st (L.pub s.drw)) k) (L.pub s.sec)) k') t,step:=1 })
def uY (L:Lad) (s:Shk) (b:List Int):Except Int (List Int × Shk) :=
 if s.role≠1∨s.step≠0 then .error 4 else if b.length<96 then .error 3 else if 224<b.length then .error 2
 else match L.dh s.sec (b.take 32) with
  | none=>.error 20
  | some k=>if soE (jZ (jU s.st (b.take 32)) k) ((b.drop 32).take 48)≠0 then .error (soE (jZ (jU s.st (b.take 32)) k) ((b.drop 32).take 48))
    else match L.dh s.sec (soT (jZ (jU s.st (b.take 32)) k) ((b.drop 32).take 48)) with
     | none=>.error 20
     | some k'=>if soE (jZ (xH (jZ (jU s.st (b.take 32)) k) ((b.drop 32).take 48)) k') (b.drop 80)≠0 then .error (soE (jZ (xH (jZ (jU s.st (b.take 32)) k) ((b.drop 32).take 48)) k') (b.drop 80))
       else .ok (soT (jZ (xH (jZ (jU s.st (b.take 32)) k) ((b.drop 32).take 48)) k') (b.drop 80),{ s with st:=xH (jZ (xH (jZ (jU s.st (b.take 32)) k) ((b.drop 32).take 48)) k') (b.drop 80),its:=soT (jZ (jU s.st (b.take 32)) k) ((b.drop 32).take 48),drn:=b.take 32,step:=1 })
def shS (L:Lad) (s:Shk) (t:List Int):Except Int (List Int × Shk) :=
 if s.role≠1∨s.step≠1 then .error 4 else if 128<t.length then .error 2
 else match L.dh s.drw s.drn with
  | none=>.error 20
  | some k=>match L.dh s.drw s.its with
    | none=>.error 20
    | some k'=>.ok (L.pub s.drw++qG (jZ (jZ (jU s.st (L.pub s.drw)) k) k') t,{ s with st:=qN (jZ (jZ (jU s.st (L.pub s.drw)) k) k') t,step:=2 })
def uK (L:Lad) (s:Shk) (b:List Int):Except Int (List Int × Shk) :=
 if s.role≠0∨s.step≠1 then .error 4 else if b.length<48 then .error 3 else if 176<b.length then .error 2
 else match L.dh s.drw (b.take 32) with
  | none=>.error 20
  | some k=>match L.dh s.sec (b.take 32) with
    | none=>.error 20
    | some k'=>if soE (jZ (jZ (jU s.st (b.take 32)) k) k') (b.drop 32)≠0 then .error (soE (jZ (jZ (jU s.st (b.take 32)) k) k') (b.drop 32))
      else .ok (soT (jZ (jZ (jU s.st (b.take 32)) k) k') (b.drop 32),{ s with st:=xH (jZ (jZ (jU s.st (b.take 32)) k) k') (b.drop 32),step:=2 })
structure Lad.Bs (L:Lad):Prop where
 len:∀ a,(L.pub a).length=32
 byt:∀ a,Byts (L.pub a)
theorem zE {s:Sym} (h:s.has=true) (t:List Int):(qG s t).length=t.length+16:=by rw [zD,if_pos h]
theorem bL {L:Lad} {s:Shk} {t k k':List Int} (hr:s.role=0) (hs:s.step=0) (ht:t.length≤128) (h1:L.dh s.drw s.its=some k) (h2:L.dh s.sec s.its=some k') :
 shF L s t=.ok (L.pub s.drw++(qG (jZ (jU s.st (L.pub s.drw)) k) (L.pub s.sec)++qG (jZ (qN (jZ (jU s.st (L.pub s.drw)) k) (L.pub s.sec)) k') t),{ s with st:=qN (jZ (qN (jZ (jU s.st (L.pub s.drw)) k) (L.pub s.sec)) k') t,step:=1 }):=by
 unfold shF
 rw [if_neg JK,if_neg JK,h1,h2]
theorem q7q {L:Lad} (hL:L.Bs) {s:Shk} {x:Sym} {e a:Nat→Int} {t k k':List Int} (hr:s.role=1) (hs:s.step=0) (hx:s.st=x) (ht:t.length≤128) (hb:Byts t) (h1:L.dh s.sec (L.pub e)=some k) (h2:L.dh s.sec (L.pub a)=some k') :
 uY L s (L.pub e++(qG (jZ (jU x (L.pub e)) k) (L.pub a)++qG (jZ (qN (jZ (jU x (L.pub e)) k) (L.pub a)) k') t))=.ok (t,{ s with st:=qN (jZ (qN (jZ (jU x (L.pub e)) k) (L.pub a)) k') t,its:=L.pub a,drn:=L.pub e,step:=1 }):=by
 subst hx; have l1:=hL.len e
 have l2:(qG (jZ (jU s.st (L.pub e)) k) (L.pub a)).length=48:=by rw [zE rfl,hL.len]
 have l3:(qG (jZ (qN (jZ (jU s.st (L.pub e)) k) (L.pub a)) k') t).length=t.length+16:=zE rfl t
 unfold uY
 rw [if_neg JK,if_neg Ul,if_neg Ul,List.take_left' l1,h1,List.drop_left' l1,List.take_left' l2]
 simp only
 rw [if_neg (by rw [rS]; decide),bT _ _ (hL.byt a),h2,fT]
 simp only
 rw [show (80:Nat)=32+48 from rfl,← List.drop_drop,List.drop_left' l1,List.drop_left' l2,if_neg (by rw [rS]; decide),bT _ _ hb,fT]
theorem bF {L:Lad} {s:Shk} {t k k':List Int} (hr:s.role=1) (hs:s.step=1) (ht:t.length≤128) (h1:L.dh s.drw s.drn=some k) (h2:L.dh s.drw s.its=some k') :
 shS L s t=.ok (L.pub s.drw++qG (jZ (jZ (jU s.st (L.pub s.drw)) k) k') t,{ s with st:=qN (jZ (jZ (jU s.st (L.pub s.drw)) k) k') t,step:=2 }):=by
 unfold shS
 rw [if_neg JK,if_neg JK,h1,h2]
theorem q7p {L:Lad} (hL:L.Bs) {s:Shk} {x:Sym} {f:Nat→Int} {t k k':List Int} (hr:s.role=0) (hs:s.step=1) (hx:s.st=x) (ht:t.length≤128) (hb:Byts t) (h1:L.dh s.drw (L.pub f)=some k) (h2:L.dh s.sec (L.pub f)=some k') :
 uK L s (L.pub f++qG (jZ (jZ (jU x (L.pub f)) k) k') t)=.ok (t,{ s with st:=qN (jZ (jZ (jU x (L.pub f)) k) k') t,step:=2 }):=by
 subst hx; have l1:=hL.len f
 have l3:(qG (jZ (jZ (jU s.st (L.pub f)) k) k') t).length=t.length+16:=zE rfl t
 unfold uK
 rw [if_neg JK,if_neg Ul,if_neg Ul,List.take_left' l1,h1,h2,List.drop_left' l1]
 simp only
 rw [if_neg (by rw [rS]; decide),bT _ _ hb,fT]
theorem q0g {L:Lad} (hL:L.Bs) (a e b f:Nat→Int) (hA:∀ x y,x=e∧y=b∨x=a∧y=b∨x=f∧y=e∨x=f∧y=a→∃ k,L.dh x (L.pub y)=some k∧L.dh y (L.pub x)=some k) (t r:List Int) (ht:t.length≤128) (hbt:Byts t) (hr:r.length≤128) (hbr:Byts r) :
 ∃ m1 A1 B1 m2 A2 B2,shF L (qS a e (L.pub b)) t=.ok (m1,A1)∧uY L (yS L b f) m1=.ok (t,B1)∧shS L B1 r=.ok (m2,B2)∧uK L A1 m2=.ok (r,A2)∧A2.st=B2.st∧A2.step=2∧B2.step=2∧B2.its=L.pub a:=by
 obtain ⟨k1,p1,q1⟩:=hA e b (.inl ⟨rfl,rfl⟩)
 obtain ⟨k2,p2,q2⟩:=hA a b (.inr (.inl ⟨rfl,rfl⟩))
 obtain ⟨k3,p3,q3⟩:=hA f e (.inr (.inr (.inl ⟨rfl,rfl⟩)))
 obtain ⟨k4,p4,q4⟩:=hA f a (.inr (.inr (.inr ⟨rfl,rfl⟩)))
 exact ⟨_,_,_,_,_,_,bL rfl rfl ht p1 p2,q7q hL rfl rfl rfl ht hbt q1 q2,bF rfl rfl hr p3 p4,q7p hL rfl rfl rfl hr hbr q3 q4,rfl,rfl,rfl,rfl⟩
theorem qQ (f:Nat→Int):(Tryz.prog.info? 105).map (·.size)=some (row .u64 4 f).length:=by rw [jX]; kernel_rfl
theorem qM (f:Nat→Int):(Tryz.prog.info? 105).map (·.size)=some (row .u64 4 f).toArray.size:=by rw [xA]; exact qQ f
theorem qT {w:World} {b:Nat} {f g:Nat→Int} (h:Has w b .u64 4 f):w.there b 0 (row .u64 4 g).toArray.size:=by rw [xA,jX]; exact h.there
def q7b (a b n:Nat→Int) (cv:Int):Prop:=0≤cv∧cv≤1∧In W 4 n∧val W n 4+W^4*cv=val W a 4+val W b 4
def dU (a b n:Nat→Int) (cv:Int):Prop:=0≤cv∧cv≤1∧In W 4 n∧val W n 4+val W b 4=val W a 4+W^4*cv
structure kPInv (a b:Nat→Int) (w:World) (k:Nat) (n:Nat→Int) (cv:Int) (w':World):Prop where
 c0:0≤cv
 c1:cv≤1
 inn:In W 4 n
 rest:∀ j,k≤j→n j=a j
 eq:val W n k+W^k*cv=val W a k+val W b k
 hn:Has w' w.heap.size .u64 4 n
 hb:Has w' (w.heap.size+1) .u64 4 b
 hr:Has w' (w.heap.size+1+1) .u64 4 (fun _=>0)
 below:Below w.heap.size w w'
theorem kPInv.step {a b:Nat→Int} {w:World} {k:Nat} {n:Nat→Int} {cv:Int} {w':World} (h:kPInv a b w k n cv w') (hbi:In W 4 b) (hk:k<4) :
 kPInv a b w (k+1) (upd n k (aLo (n k) (b k) cv)) (aHi (n k) (b k) cv) ((w'.setCell ⟨w.heap.size,k,none⟩ (.int .u64 (aLo (n k) (b k) cv))).drew):=by
 have i1:=h.inn k hk; have i2:=hbi k hk; have q0:=h.c0; have q1:=h.c1
 simp only [W] at i1 i2
 have l0:0≤aLo (n k) (b k) cv:=by unfold aLo; omega
 have l1:aLo (n k) (b k) cv<W:=by simp only [W]; unfold aLo; omega
 have es:aLo (n k) (b k) cv+W*aHi (n k) (b k) cv=n k+b k+cv:=by simp only [W]; unfold aLo aHi; omega
 refine ⟨by unfold aHi; omega,by unfold aHi; omega,h.inn.upd k _ l0 l1,fun j hj=>?_,?_,(h.hn.set k hk _).drew,(h.hb.set_other _ _ Jf).drew,(h.hr.set_other _ _ Ji).drew,(h.below.setCell Jf _).drew⟩
 · exact Qi
 simp only [val]
 rw [zK _ _ _ _ _ (xnR k),jP,Int.pow_succ,Int.mul_assoc]
 have e1:W^k*aLo (n k) (b k) cv+W^k*(W*aHi (n k) (b k) cv)=W^k*n k+W^k*b k+W^k*cv:=by
  rw [← Int.mul_add,es,Int.mul_add,Int.mul_add]
 exact JZ
theorem wF (a b:Nat→Int) (ha:In W 4 a) (hb:In W 4 b) (w:World) :
 Calls Tryz.prog 120 #[.agg (row .u64 4 a).toArray,.agg (row .u64 4 b).toArray] w fun e w'=>∃ (n:Nat→Int) (cv:Int),e=.returned (.tuple #[.agg (row .u64 4 n).toArray,.int .u64 cv]) ∧
  q7b a b n cv∧Below w.heap.size w w':=by
 go_enter Tryz.func120,Tryz.ntmps120
 go_wp2
 go_loopw [6,8] (fun c i w'=>∃ (k:Nat) (n:Nat→Int) (cv:Int),k≤4∧i=.int .i64 k∧c=.int .u64 cv∧kPInv a b w k n cv w') (fun _ i _=>4-(intOf i).toNat)
 case atStart =>
  exact ⟨0,a,0,by omega,rfl,rfl,⟨by omega,by omega,ha,fun _ _=>rfl,by simp [val],((Has.new w _ _ _ _ _ rfl).alloc _ Jf).alloc _ Ji,(Has.new _ _ _ _ _ _ Jf).alloc _ Jf,Has.new _ .u64 4 (fun _=>0) _ _ Jf,(((Below.refl _ _).alloc (xnR _) _).alloc Jf _).alloc Ji _⟩⟩
 case round =>
  obtain ⟨k,n,cv,hk,rfl,rfl,hI⟩:=hrel; by_cases hlt:k<4
  · have hS:=hI.step hb hlt; have c1:=hI.hn.cell k hlt; have c2:=hI.hb.cell k hlt; have f1:=hI.hn.free k hlt; have b1:=(hI.inn k hlt).1; have b2:=(hb k hlt).1; have hadd:=j0g (n k) (b k) cv b1 b2 hI.c0 hI.c1; have g1:(0:Int)≤(k:Int):=by omega
    have g2:(k:Int)<4:=by omega
    exact Xm
  obtain rfl:k=4:=by omega
  have hT:=hI.hr.there; go_wp2_with (first | (refine yl (hI.hn) Tryz.underlying105 (qQ _) ?_) | (refine ys .u64 4 (n) (qT (hI.hr)) (qM _) ?_)); exact bRq (v:=.tuple #[.agg (row .u64 4 n).toArray,.int .u64 cv]) (xN Tryz.results120 rfl rfl (Has.all hT .u64 n).range Tryz.underlying105 rfl (qQ n)) rfl ⟨n,cv,rfl,⟨hI.c0,hI.c1,hI.inn,hI.eq⟩,jS hI.below _ JK _ _⟩
structure MInv (a b:Nat→Int) (w:World) (k:Nat) (n:Nat→Int) (cv:Int) (w':World):Prop where
 c0:0≤cv
 c1:cv≤1
 inn:In W 4 n
 rest:∀ j,k≤j→n j=a j
 eq:val W n k+val W b k=val W a k+W^k*cv
 hn:Has w' w.heap.size .u64 4 n
 hb:Has w' (w.heap.size+1) .u64 4 b
 hr:Has w' (w.heap.size+1+1) .u64 4 (fun _=>0)
 below:Below w.heap.size w w'
theorem MInv.step {a b:Nat→Int} {w:World} {k:Nat} {n:Nat→Int} {cv:Int} {w':World} (h:MInv a b w k n cv w') (hbi:In W 4 b) (hk:k<4) :
 MInv a b w (k+1) (upd n k (sLo (n k) (b k) cv)) (sHi (n k) (b k) cv) ((w'.setCell ⟨w.heap.size,k,none⟩ (.int .u64 (sLo (n k) (b k) cv))).drew):=by
 have i1:=h.inn k hk; have i2:=hbi k hk; have q0:=h.c0; have q1:=h.c1
 simp only [W] at i1 i2
 have l0:0≤sLo (n k) (b k) cv:=by unfold sLo; omega
 have l1:sLo (n k) (b k) cv<W:=by simp only [W]; unfold sLo; omega
 have es:sLo (n k) (b k) cv+(b k+cv)=n k+W*sHi (n k) (b k) cv:=by simp only [W]; unfold sLo sHi; split <;> omega
 refine ⟨by unfold sHi; split <;> omega,by unfold sHi; split <;> omega,h.inn.upd k _ l0 l1,fun j hj=>?_,?_,(h.hn.set k hk _).drew,(h.hb.set_other _ _ Jf).drew,(h.hr.set_other _ _ Ji).drew,(h.below.setCell Jf _).drew⟩
 · exact Qi
 simp only [val]
 rw [zK _ _ _ _ _ (xnR k),jP,Int.pow_succ,Int.mul_assoc]
 have e1:W^k*sLo (n k) (b k) cv+(W^k*b k+W^k*cv)=W^k*n k+W^k*(W*sHi (n k) (b k) cv):=by
  rw [← Int.mul_add,← Int.mul_add,es,Int.mul_add]
 exact JZ
theorem wK (a b:Nat→Int) (ha:In W 4 a) (hb:In W 4 b) (w:World) :
 Calls Tryz.prog 122 #[.agg (row .u64 4 a).toArray,.agg (row .u64 4 b).toArray] w fun e w'=>∃ (n:Nat→Int) (cv:Int),e=.returned (.tuple #[.agg (row .u64 4 n).toArray,.int .u64 cv]) ∧
  dU a b n cv∧Below w.heap.size w w':=by
 go_enter Tryz.func122,Tryz.ntmps122
 go_wp2
 go_loopw [6,8] (fun c i w'=>∃ (k:Nat) (n:Nat→Int) (cv:Int),k≤4∧i=.int .i64 k∧c=.int .u64 cv∧MInv a b w k n cv w') (fun _ i _=>4-(intOf i).toNat)
 case atStart =>
  exact ⟨0,a,0,by omega,rfl,rfl,⟨by omega,by omega,ha,fun _ _=>rfl,by simp [val],((Has.new w _ _ _ _ _ rfl).alloc _ Jf).alloc _ Ji,(Has.new _ _ _ _ _ _ Jf).alloc _ Jf,Has.new _ .u64 4 (fun _=>0) _ _ Jf,(((Below.refl _ _).alloc (xnR _) _).alloc Jf _).alloc Ji _⟩⟩
 case round =>
  obtain ⟨k,n,cv,hk,rfl,rfl,hI⟩:=hrel; by_cases hlt:k<4
  · have hS:=hI.step hb hlt; have c1:=hI.hn.cell k hlt; have c2:=hI.hb.cell k hlt; have f1:=hI.hn.free k hlt; have b1:=(hI.inn k hlt).1; have b2:=(hb k hlt).1; have hadd:=q2n (n k) (b k) cv b1 b2 (hb k hlt).2 hI.c0 hI.c1; have g1:(0:Int)≤(k:Int):=by omega
    have g2:(k:Int)<4:=by omega
    clear hI; generalize sLo (n k) (b k) cv=lo at *; generalize sHi (n k) (b k) cv=hi at *; generalize n k=x at *; generalize b k=y at *; exact Qn
  obtain rfl:k=4:=by omega
  have hT:=hI.hr.there; go_wp2_with (first | (refine yl (hI.hn) Tryz.underlying105 (qQ _) ?_) | (refine ys .u64 4 (n) (qT (hI.hr)) (qM _) ?_)); exact bRq (v:=.tuple #[.agg (row .u64 4 n).toArray,.int .u64 cv]) (xN Tryz.results122 rfl rfl (Has.all hT .u64 n).range Tryz.underlying105 rfl (qQ n)) rfl ⟨n,cv,rfl,⟨hI.c0,hI.c1,hI.inn,hI.eq⟩,jS hI.below _ JK _ _⟩
abbrev kQ:Int:=57896044618658097711785492504343953926634992332820282019728792003956564819949
def one (x:Int):Nat→Int
 | 0=>x
 | _+1=>0
theorem j6g (x:Int) (h0:0≤x) (h1:x<W):In W 4 (one x)
 | 0,_=>⟨h0,h1⟩
 | _+1,_=>⟨Int.le_refl 0,(by decide:(0:Int)<W)⟩
theorem j0l (x:Int):val W (one x) 4=x:=by simp [val,one]
theorem W4:W^4=115792089237316195423570985008687907853269984665640564039457584007913129639936:=by decide
theorem yA (w:World) (t:TypeId) (b:Nat) (hb:b=w.heap.size):Has (w.alloc (.cells vW t)) b .u64 4 (fun _=>0):=Has.new w .u64 4 (fun _=>0) t b hb
theorem j9s {n n1 n2:Nat→Int} {o c1 c2:Int} (hn:In W 4 n) (h0:0≤o) (h1:o≤38) (h:q7b n (one (o*38)) n1 c1) (h':q7b n1 (one (c1*38)) n2 c2) :
 In W 4 n2∧val W n2 4%kQ=(val W n 4+W^4*o)%kQ:=by
 obtain ⟨a0,a1,a2,a3⟩:=h
 obtain ⟨b0,b1,b2,b3⟩:=h'
 rw [j0l,W4] at a3 b3
 have i0:=qE W JG n 4 hn; have i1:=qE W JG n1 4 a2; have i2:=qE W JG n2 4 b2
 rw [W4] at i0 i1 i2 ⊢
 refine ⟨b2,?_⟩
 simp only [kQ]
 have hc2:c2=0:=by omega
 subst hc2
 omega
theorem j8l (x:Int):(row .u64 4 (one x)).toArray=#[.int .u64 x,.int .u64 0,.int .u64 0,.int .u64 0]:=rfl
theorem j3m (a:Nat→Int) (x:Int) (ha:In W 4 a) (h0:0≤x) (h1:x<W) (w:World) :
 Calls Tryz.prog 120 #[(.agg (row .u64 4 (a)).toArray),.agg #[.int .u64 x,.int .u64 0,.int .u64 0,.int .u64 0]] w fun e w'=>∃ (n:Nat→Int) (cv:Int),e=.returned (.tuple #[(.agg (row .u64 4 (n)).toArray),.int .u64 cv]) ∧
  q7b a (one x) n cv∧Below w.heap.size w w':=by
 have h:=wF a (one x) ha (j6g x h0 h1) w
 rw [j8l] at h
 exact h
theorem wH (a:Nat→Int) (x:Int) (ha:In W 4 a) (h0:0≤x) (h1:x<W) (w:World) :
 Calls Tryz.prog 122 #[(.agg (row .u64 4 (a)).toArray),.agg #[.int .u64 x,.int .u64 0,.int .u64 0,.int .u64 0]] w fun e w'=>∃ (n:Nat→Int) (cv:Int),e=.returned (.tuple #[(.agg (row .u64 4 (n)).toArray),.int .u64 cv]) ∧
  dU a (one x) n cv∧Below w.heap.size w w':=by
 have h:=wK a (one x) ha (j6g x h0 h1) w
 rw [j8l] at h
 exact h
theorem j8o (x:Int) (h0:0≤x) (h1:x≤38):IntKind.u64.wrap (x*38)=x*38:=by rw [IntKind.wrap_u64]; omega
theorem j2j (n:Nat→Int) (hn:In W 4 n) (o:Int) (h0:0≤o) (h1:o≤38) (w:World) :
 Calls Tryz.prog 121 #[(.agg (row .u64 4 (n)).toArray),.int .u64 o] w fun e w'=>∃ m:Nat→Int,e=.returned (.agg (row .u64 4 (m)).toArray)∧(In W 4 m∧val W m 4%kQ=(val W n 4+W^4*o)%kQ)∧Below w.heap.size w w':=by
 have a0:Has ((w.alloc (.cells (row .u64 4 n).toArray 105)).alloc (.cells vW 105)) w.heap.size .u64 4 n:=(Has.new w _ _ _ _ _ rfl).alloc _ Jf
 have z0:Has ((w.alloc (.cells (row .u64 4 n).toArray 105)).alloc (.cells vW 105)) (w.heap.size+1) .u64 4 (fun _=>0):=yA _ _ _ Jf
 have g0:Fr w 2 ((w.alloc (.cells (row .u64 4 n).toArray 105)).alloc (.cells vW 105)):=((Fr.refl w).alloc _).alloc _
 have e38:=j8o o h0 h1
 go_enter Tryz.func121,Tryz.ntmps121
 go_wp2_with (refine yl (a0) Tryz.underlying105 (qQ _) ?_)
 refine (j3m n (o*38) hn JK Vf _).mono ?_; rintro e w1 ⟨n1,c1,rfl,s1,l1⟩; have a1:=Has.all (a0.call g0 l1 JK).there .u64 n1
 have a1':=a0.call g0 l1 JK
 have z1:=(z0.call g0 l1 JK).setAll_other w.heap.size JK 0 (row .u64 4 n1); have g1:=(g0.call l1).setAll w.heap.size (xnR _) (row .u64 4 n1); have i1:=s1.2.2.1; have c0:=s1.1
 have c1':=s1.2.1
 have e1:=j8o c1 c0 JK; clear a0 z0 g0 l1
 go_wp2_with (first | (refine ys .u64 4 (n1) (qT (a1')) (qM _) ?_) | (refine yl (a1) Tryz.underlying105 (qQ _) ?_))
 refine (j3m n1 (c1*38) i1 JK Vf _).mono ?_; rintro e w2 ⟨n2,c2,rfl,s2,l2⟩
 have a2':=a1.call g1 l2 JK
 have a2:=Has.all a2'.there .u64 n2; have z2:=(z1.call g1 l2 JK).setAll_other w.heap.size JK 0 (row .u64 4 n2); have z3:=Has.all z2.there .u64 n2; have g2:=((g1.call l2).setAll w.heap.size (xnR _) (row .u64 4 n2)).setAll (w.heap.size+1) JK (row .u64 4 n2); have hm:=j9s hn h0 h1 s1 s2; clear a1 z1 g1 l2
 go_wp2_with (first | (refine ys .u64 4 (n2) (qT (a2')) (qM _) ?_) | (refine yl (a2) Tryz.underlying105 (qQ _) ?_) | (refine ys .u64 4 (n2) (qT (z2)) (qM _) ?_))
 exact bRq (v:=(.agg (row .u64 4 (n2)).toArray)) (jQ Tryz.results121 rfl z3.range Tryz.underlying105 rfl (qQ n2)) rfl ⟨n2,rfl,hm,g2.below⟩
theorem q2m {a b n m:Nat→Int} {c:Int} (s:q7b a b n c) (h:val W m 4%kQ=(val W n 4+W^4*c)%kQ):val W m 4%kQ=(val W a 4+val W b 4)%kQ:=by rw [h,s.2.2.2]
theorem aB (a b:Nat→Int) (w:World):Has (((w.alloc (.cells (row .u64 4 a).toArray 105)).alloc (.cells (row .u64 4 b).toArray 105)).alloc (.cells vW 105)) w.heap.size .u64 4 a∧Has (((w.alloc (.cells (row .u64 4 a).toArray 105)).alloc (.cells (row .u64 4 b).toArray 105)).alloc (.cells vW 105)) (w.heap.size+1) .u64 4 b∧Has (((w.alloc (.cells (row .u64 4 a).toArray 105)).alloc (.cells (row .u64 4 b).toArray 105)).alloc (.cells vW 105)) (w.heap.size+1+1) .u64 4 (fun _=>0)∧Fr w 3 (((w.alloc (.cells (row .u64 4 a).toArray 105)).alloc (.cells (row .u64 4 b).toArray 105)).alloc (.cells vW 105)) :=
 ⟨((Has.new w _ _ _ _ _ rfl).alloc _ Jf).alloc _ Ji,(Has.new _ _ _ _ _ _ Jf).alloc _ Jf,yA _ _ _ Jf,(((Fr.refl w).alloc _).alloc _).alloc _⟩
theorem q7j (a b:Nat→Int) (ha:In W 4 a) (hb:In W 4 b) (w:World) :
 Calls Tryz.prog 99 #[(.agg (row .u64 4 (a)).toArray),(.agg (row .u64 4 (b)).toArray)] w fun e w'=>∃ m:Nat→Int,e=.returned (.agg (row .u64 4 (m)).toArray)∧(In W 4 m∧val W m 4%kQ=(val W a 4+val W b 4)%kQ)∧Below w.heap.size w w':=by
 obtain ⟨a0,b0,z0,g0⟩:=aB a b w
 go_enter Tryz.func99,Tryz.ntmps99
 go_wp2_with (first | (refine yl (a0) Tryz.underlying105 (qQ _) ?_) | (refine yl (b0) Tryz.underlying105 (qQ _) ?_))
 refine (wF a b ha hb _).mono ?_; rintro e w1 ⟨n1,c1,rfl,s1,l1⟩; have n0:=yA w1 105 w1.heap.size rfl
 have n1':=Has.all n0.there .u64 n1
 have g1:=g0.call l1; have z1:=(z0.call g0 l1 JK); have z2:=(z1.alloc (.cells vW 105) Wh).setAll_other w1.heap.size Wh 0 (row .u64 4 n1); have g2:=(g1.alloc (.cells vW 105)).setAll w1.heap.size Wh (row .u64 4 n1); have i1:=s1.2.2.1; have c0:=s1.1
 have c1':=s1.2.1
 clear a0 b0 z0 g0 l1
 go_wp2_with (first | (refine ys .u64 4 (n1) (qT (n0)) (qM _) ?_) | (refine yl (n1') Tryz.underlying105 (qQ _) ?_))
 refine (j2j n1 i1 c1 c0 JK _).mono ?_; rintro e w2 ⟨m,rfl,s2,l2⟩; have z3:=z2.call g2 l2 JK; have z4:=Has.all z3.there .u64 m; have g3:=(g2.call l2).setAll (w.heap.size+1+1) JK (row .u64 4 m)
 go_wp2_with (refine ys .u64 4 (m) (qT (z3)) (qM _) ?_)
 exact bRq (v:=(.agg (row .u64 4 (m)).toArray)) (jQ Tryz.results99 rfl z4.range Tryz.underlying105 rfl (qQ m)) rfl ⟨m,rfl,⟨s2.1,q2m s1 s2.2⟩,g3.below⟩
theorem q1i {a b n1 n2 n3:Nat→Int} {c1 c2 c3:Int} (ha:In W 4 a) (hb:In W 4 b) (h1:dU a b n1 c1) (h2:dU n1 (one (c1*38)) n2 c2) (h3:dU n2 (one (c2*38)) n3 c3) :
 In W 4 n3∧val W n3 4%kQ=(val W a 4-val W b 4)%kQ:=by
 obtain ⟨a0,a1,a2,a3⟩:=h1
 obtain ⟨b0,b1,b2,b3⟩:=h2
 obtain ⟨d0,d1,d2,d3⟩:=h3
 rw [j0l,W4] at b3 d3
 rw [W4] at a3
 have i0:=qE W JG a 4 ha
 have i0':=qE W JG b 4 hb
 have i1:=qE W JG n1 4 a2; have i2:=qE W JG n2 4 b2; have i3:=qE W JG n3 4 d2
 rw [W4] at i0 i0' i1 i2 i3
 refine ⟨d2,?_⟩
 simp only [kQ]
 have hc3:c3=0:=by omega
 subst hc3
 omega
theorem eM (a b:Nat→Int) (ha:In W 4 a) (hb:In W 4 b) (w:World) :
 Calls Tryz.prog 100 #[(.agg (row .u64 4 (a)).toArray),(.agg (row .u64 4 (b)).toArray)] w fun e w'=>∃ m:Nat→Int,e=.returned (.agg (row .u64 4 (m)).toArray)∧(In W 4 m∧val W m 4%kQ=(val W a 4-val W b 4)%kQ)∧Below w.heap.size w w':=by
 obtain ⟨a0,b0,z0,g0⟩:=aB a b w
 go_enter Tryz.func100,Tryz.ntmps100
 go_wp2_with (first | (refine yl (a0) Tryz.underlying105 (qQ _) ?_) | (refine yl (b0) Tryz.underlying105 (qQ _) ?_))
 refine (wK a b ha hb _).mono ?_; rintro e w1 ⟨n1,c1,rfl,s1,l1⟩; have n0:=yA w1 105 w1.heap.size rfl
 have n1':=Has.all n0.there .u64 n1
 have g1:=g0.call l1
 have hN:w.heap.size+3≤w1.heap.size:=g1.size
 have z1:=(z0.call g0 l1 JK); have z2:=(z1.alloc (.cells #[.int .u64 0,.int .u64 0,.int .u64 0,.int .u64 0] 105) JK).setAll_other w1.heap.size JK 0 (row .u64 4 n1); have g2:=(g1.alloc (.cells #[.int .u64 0,.int .u64 0,.int .u64 0,.int .u64 0] 105)).setAll w1.heap.size JK (row .u64 4 n1)
 have k2:w1.heap.size<((w1.alloc (.cells #[.int .u64 0,.int .u64 0,.int .u64 0,.int .u64 0] 105)).setCells w1.heap.size 0 (row .u64 4 n1)).heap.size:=by rw [jN]; simp
 have i1:=s1.2.2.1; have c0:=s1.1
 have c1':=s1.2.1
 have e1:=j8o c1 c0 JK; clear a0 b0 z0 g0 l1
 go_wp2_with (first | (refine ys .u64 4 (n1) (qT (n0)) (qM _) ?_) | (refine yl (n1') Tryz.underlying105 (qQ _) ?_))
 refine (wH n1 (c1*38) i1 JK Vf _).mono ?_; rintro e w2 ⟨n2,c2,rfl,s2,l2⟩
 have n2':=n1'.below l2 k2
 have n2'':=Has.all n2'.there .u64 n2
 have z3:=(z2.call g2 l2 JK).setAll_other w1.heap.size JK 0 (row .u64 4 n2); have g3:=(g2.call l2).setAll w1.heap.size JK (row .u64 4 n2)
 have k3:w1.heap.size<(w2.setCells w1.heap.size 0 (row .u64 4 n2)).heap.size:=by rw [jN]; have:=l2.size; omega
 have i2:=s2.2.2.1; have d0:=s2.1; have d1:=s2.2.1; have e2:=j8o c2 d0 JK; clear n0 n1' z1 z2 g1 g2 k2 l2
 go_wp2_with (first | (refine ys .u64 4 (n2) (qT (n2')) (qM _) ?_) | (refine yl (n2'') Tryz.underlying105 (qQ _) ?_))
 refine (wH n2 (c2*38) i2 JK Vf _).mono ?_; rintro e w3 ⟨n3,c3,rfl,s3,l3⟩
 have n3':=n2''.below l3 k3
 have n3'':=Has.all n3'.there .u64 n3
 have z4:=(z3.call g3 l3 JK).setAll_other w1.heap.size JK 0 (row .u64 4 n3); have z5:=Has.all z4.there .u64 n3; have g4:=((g3.call l3).setAll w1.heap.size JK (row .u64 4 n3)).setAll (w.heap.size+1+1) JK (row .u64 4 n3); have hm:=q1i ha hb s1 s2 s3; clear n2' n2'' z3 g3 k3 l3
 go_wp2_with (first | (refine ys .u64 4 (n3) (qT (n3')) (qM _) ?_) | (refine yl (n3'') Tryz.underlying105 (qQ _) ?_) | (refine ys .u64 4 (n3) (qT (z4)) (qM _) ?_))
 exact bRq (v:=(.agg (row .u64 4 (n3)).toArray)) (jQ Tryz.results100 rfl z5.range Tryz.underlying105 rfl (qQ n3)) rfl ⟨n3,rfl,hm,g4.below⟩
def pW:Nat→Int
 | 0=>18446744073709551597
 | 1=>18446744073709551615
 | 2=>18446744073709551615
 | 3=>9223372036854775807
 | _+4=>0
def eW:Nat→Int
 | 0=>18446744073709551595
 | 1=>18446744073709551615
 | 2=>18446744073709551615
 | 3=>9223372036854775807
 | _+4=>0
theorem x0l:In W 4 pW
 | 0,_=>by decide
 | 1,_=>by decide
 | 2,_=>by decide
 | 3,_=>by decide
 | _+4,h=>by omega
theorem x1k:val W pW 4=kQ:=by decide
structure kGlob (w:World):Prop where
 prime:∀ j,j<4→w.cell? ⟨3,j,none⟩=some (.int .u64 (pW j))
 power:∀ j,j<4→w.cell? ⟨1,j,none⟩=some (.int .u64 (eW j))
 size:10≤w.heap.size
theorem kGlob.below {w w':World} (h:kGlob w) {B:Nat} (l:Below B w w') (hB:10≤B):kGlob w' :=
 ⟨fun j hj=>by rw [l.cell (p:=⟨3,j,none⟩) (xnL (show 3<10 by decide) hB)]; exact h.prime j hj,fun j hj=>by rw [l.cell (p:=⟨1,j,none⟩) (xnL (show 1<10 by decide) hB)]; exact h.power j hj,by have:=h.size; have:=l.size; omega⟩
theorem kGlob.fr {w w':World} {k:Nat} (h:kGlob w) (g:Fr w k w'):kGlob w':=h.below g.below h.size
structure kLInv (n:Nat→Int) (w:World) (k:Nat) (l:Nat→Int) (cv:Int) (w':World):Prop where
 c0:0≤cv
 c1:cv≤1
 inn:In W 4 l
 eq:val W l k+val W pW k=val W n k+W^k*cv
 hn:Has w' w.heap.size .u64 4 n
 hr:Has w' (w.heap.size+1) .u64 4 (fun _=>0)
 hl:Has w' (w.heap.size+1+1) .u64 4 l
 fr:Fr w 3 w'
theorem kLInv.step {n:Nat→Int} {w:World} {k:Nat} {l:Nat→Int} {cv:Int} {w':World} (h:kLInv n w k l cv w') (hn:In W 4 n) (hk:k<4) :
 kLInv n w (k+1) (upd l k (sLo (n k) (pW k) cv)) (sHi (n k) (pW k) cv) ((w'.setCell ⟨w.heap.size+1+1,k,none⟩ (.int .u64 (sLo (n k) (pW k) cv))).drew):=by
 have i1:=hn k hk; have i2:=x0l k hk; have q0:=h.c0; have q1:=h.c1
 simp only [W] at i1 i2
 have l0:0≤sLo (n k) (pW k) cv:=by unfold sLo; omega
 have l1:sLo (n k) (pW k) cv<W:=by simp only [W]; unfold sLo; omega
 have es:sLo (n k) (pW k) cv+(pW k+cv)=n k+W*sHi (n k) (pW k) cv:=by simp only [W]; unfold sLo sHi; split <;> omega
 refine ⟨by unfold sHi; split <;> omega,by unfold sHi; split <;> omega,h.inn.upd k _ l0 l1,?_,(h.hn.set_other _ _ Ji).drew,(h.hr.set_other _ _ Jf).drew,(h.hl.set k hk _).drew,(h.fr.set _ _ Ji).drew⟩
 simp only [val]
 rw [zK _ _ _ _ _ (xnR k),jP,Int.pow_succ,Int.mul_assoc]
 have e1:W^k*sLo (n k) (pW k) cv+(W^k*pW k+W^k*cv)=W^k*n k+W^k*(W*sHi (n k) (pW k) cv):=by
  rw [← Int.mul_add,← Int.mul_add,es,Int.mul_add]
 have e2:=h.eq
 omega
theorem j4a {n l m:Nat→Int} {cv:Int} (hn:In W 4 n) (hl:In W 4 l) (hc:cv=0∨cv=1) (he:val W l 4+val W pW 4=val W n 4+W^4*cv) (hm:∀ j,j<4→m j=if cv=1 then n j else l j) :
 In W 4 m∧(val W n 4<kQ∧val W m 4=val W n 4∨kQ≤val W n 4∧val W m 4=val W n 4-kQ):=by
 have i1:=qE W JG n 4 hn; have i2:=qE W JG l 4 hl
 rw [x1k,W4] at he
 rw [W4] at i1 i2
 rcases hc with rfl | rfl
 · have e:=qZ W (f:=m) (g:=l) 4 fun j hj=>by rw [hm j hj]; rfl
   refine ⟨fun j hj=>by rw [hm j hj]; exact hl j hj,Or.inr ?_⟩; rw [e]; clear hm e; simp only [kQ] at he ⊢; omega
 have e:=qZ W (f:=m) (g:=n) 4 fun j hj=>by rw [hm j hj]; rfl
 refine ⟨fun j hj=>by rw [hm j hj]; exact hn j hj,Or.inl ?_⟩
 rw [e]; clear hm e; refine ⟨?_,rfl⟩; simp only [kQ] at he ⊢; omega
structure kKInv (n l:Nat→Int) (cv:Int) (w:World) (k:Nat) (m:Nat→Int) (w':World):Prop where
 done:∀ j,j<k→m j=if cv=1 then n j else l j
 rest:∀ j,k≤j→m j=n j
 hn:Has w' w.heap.size .u64 4 m
 hr:Has w' (w.heap.size+1) .u64 4 (fun _=>0)
 hl:Has w' (w.heap.size+1+1) .u64 4 l
 fr:Fr w 3 w'
theorem kKInv.step {n l:Nat→Int} {cv:Int} {w:World} {k:Nat} {m:Nat→Int} {w':World} (h:kKInv n l cv w k m w') (hk:k<4) (r:Int) (hr:(if cv=1 then m k else l k)=r) :
 kKInv n l cv w (k+1) (upd m k r) ((w'.setCell ⟨w.heap.size,k,none⟩ (.int .u64 r)).drew):=by
 rw [h.rest k (xnR k)] at hr
 refine ⟨fun j hj=>?_,fun j hj=>?_,(h.hn.set k hk _).drew,(h.hr.set_other _ _ Jf).drew,(h.hl.set_other _ _ Ji).drew,(h.fr.set _ _ Jf).drew⟩
 · by_cases e:j=k
   · subst e; rw [jP]; exact hr.symm
   exact Qm
 exact Qi
theorem kKInv.inn {n l:Nat→Int} {cv:Int} {w:World} {k:Nat} {m:Nat→Int} {w':World} (h:kKInv n l cv w k m w') (hn:In W 4 n) (hl:In W 4 l):In W 4 m:=fun j hj=>by
 by_cases e:j<k
 · rw [h.done j e]; split
   · exact hn j hj
   · exact hl j hj
 · rw [h.rest j JK]; exact hn j hj
theorem j6k (n:Nat→Int) (hn:In W 4 n) (w:World) (hg:kGlob w) :
 Calls Tryz.prog 123 #[(.agg (row .u64 4 (n)).toArray)] w fun e w'=>∃ m:Nat→Int,e=.returned (.agg (row .u64 4 (m)).toArray)∧(In W 4 m∧(val W n 4<kQ∧val W m 4=val W n 4∨kQ≤val W n 4∧val W m 4=val W n 4-kQ))∧Below w.heap.size w w':=by
 go_enter Tryz.func123,Tryz.ntmps123
 go_wp2
 go_loopw [4,7] (fun c i w'=>∃ (k:Nat) (l:Nat→Int) (cv:Int),k≤4∧i=.int .i64 k∧c=.int .u64 cv∧kLInv n w k l cv w') (fun _ i _=>4-(intOf i).toNat)
 case atStart =>
  exact ⟨0,fun _=>0,0,by omega,rfl,rfl,⟨by omega,by omega,fun _ _=>⟨Int.le_refl 0,by decide⟩,by simp [val],((Has.new w _ _ _ _ _ rfl).alloc _ Jf).alloc _ Ji,(yA _ _ _ Jf).alloc _ Jf,yA _ _ _ Jf,(((Fr.refl w).alloc _).alloc _).alloc _⟩⟩
 case round =>
  obtain ⟨k,l,cv,hk,rfl,rfl,hI⟩:=hrel; by_cases hlt:k<4
  · have hS:=hI.step hn hlt; have c1:=hI.hn.cell k hlt; have c2:=(hg.fr hI.fr).prime k hlt; have c3:=hI.hl.cell k hlt; have f1:=hI.hl.free k hlt; have b1:=(hn k hlt).1; have b2:=x0l k hlt; have hadd:=q2n (n k) (pW k) cv b1 b2.1 b2.2 hI.c0 hI.c1; have g1:(0:Int)≤(k:Int):=by omega
    have g2:(k:Int)<4:=by omega
    clear hI b2; generalize sLo (n k) (pW k) cv=lo at *; generalize sHi (n k) (pW k) cv=hi at *; generalize n k=x at *; generalize pW k=y at *; generalize l k=z at *; exact Qn
  obtain rfl:k=4:=by omega
  have cc:cv=0∨cv=1:=by have:=hI.c0; have:=hI.c1; omega
  go_wp2; go_loopw [24] (fun i w'=>∃ (k:Nat) (m:Nat→Int),k≤4∧i=.int .i64 k∧kKInv n l cv w k m w') (fun i _=>4-(intOf i).toNat)
  case atStart=>exact ⟨0,n,by omega,rfl,⟨fun j hj=>by omega,fun _ _=>rfl,hI.hn,hI.hr,hI.hl,hI.fr⟩⟩
  case round =>
   obtain ⟨k,m,hk2,rfl,hK⟩:=hrel; by_cases hlt2:k<4
   · have hm:=hK.inn hn hI.inn k hlt2; have hl:=hI.inn k hlt2; obtain ⟨r,hr⟩:∃ r,(if cv=1 then m k else l k)=r:=⟨_,rfl⟩
     have HR:=show Hid _ from hK.step hlt2 r hr; have HP:=show Hid _ from fun W'=>wU cv (l k) (m k) hl.1 hl.2 hm.1 hm.2 cc r hr W'; have c1:=hK.hn.cell k hlt2; have c3:=hK.hl.cell k hlt2; have f1:=hK.hn.free k hlt2
     have g1:(0:Int)≤(k:Int):=by omega
     have g2:(k:Int)<4:=by omega
     clear hI hlt hk cc hm hl hK hr; generalize m k=x at *; generalize l k=z at *; go_wp2; go_region_with (go_at_call 146; refine (HP.out _).mono ?_; rintro e w' ⟨rfl,rfl⟩)
     all_goals
      exact Zp
   obtain rfl:k=4:=by omega
   have hM:=j4a hn hI.inn cc hI.eq hK.done; go_wp2_with (first | (refine yl (hK.hn) Tryz.underlying105 (qQ _) ?_) | (refine ys .u64 4 (m) (qT (hK.hr)) (qM _) ?_)); exact bRq (v:=(.agg (row .u64 4 (m)).toArray)) (jQ Tryz.results123 rfl (Has.all hK.hr.there .u64 m).range Tryz.underlying105 rfl (qQ m)) rfl ⟨m,rfl,hM,(hK.fr.setAll _ JK _).below⟩
structure kTInv (n:Nat→Int) (w:World) (k:Nat) (m:Nat→Int) (w':World):Prop where
 inn:In W 4 m
 eq:val W m 4%kQ=val W n 4%kQ
 small:k=0∨(k=1∧val W m 4<W^4-kQ)∨(k=2∧val W m 4<kQ)
 hn:Has w' w.heap.size .u64 4 m
 hr:Has w' (w.heap.size+1) .u64 4 (fun _=>0)
 fr:Fr w 2 w'
theorem kTInv.step {n:Nat→Int} {w:World} {k:Nat} {m m':Nat→Int} {w' w'':World} (h:kTInv n w k m w') (hk:k<2) (l:Below w'.heap.size w' w'') (hm:In W 4 m'∧(val W m 4<kQ∧val W m' 4=val W m 4∨kQ≤val W m 4∧val W m' 4=val W m 4-kQ)) :
 kTInv n w (k+1) m' (w''.setCells w.heap.size 0 (row .u64 4 m')):=by
 have i1:=qE W JG m 4 h.inn; have s:=h.small; have e:=h.eq
 rw [W4] at i1 s
 refine ⟨hm.1,?_,?_,Has.all (h.hn.call h.fr l JK).there .u64 m',(h.hr.call h.fr l JK).setAll_other _ JK 0 _,(h.fr.call l).setAll _ JK _⟩
 · rw [← e]; rcases hm.2 with ⟨_,h'⟩ | ⟨_,h'⟩ <;> rw [h'] <;> simp only [kQ] at*<;> omega
 rw [W4]; rcases hm.2 with ⟨_,h'⟩ | ⟨_,h'⟩ <;> rw [h'] <;> simp only [kQ] at*<;> omega
theorem q0z (n:Nat→Int) (hn:In W 4 n) (w:World) (hg:kGlob w) :
 Calls Tryz.prog 101 #[(.agg (row .u64 4 (n)).toArray)] w fun e w'=>∃ m:Nat→Int,e=.returned (.agg (row .u64 4 (m)).toArray)∧(In W 4 m∧val W m 4=val W n 4%kQ)∧Below w.heap.size w w':=by
 go_enter Tryz.func101,Tryz.ntmps101
 go_wp2
 go_loopw [3] (fun i w'=>∃ (k:Nat) (m:Nat→Int),k≤2∧i=.int .i64 k∧kTInv n w k m w') (fun i _=>2-(intOf i).toNat)
 case atStart=>exact ⟨0,n,by omega,rfl,⟨hn,rfl,Or.inl rfl,(Has.new w _ _ _ _ _ rfl).alloc _ Jf,yA _ _ _ Jf,((Fr.refl w).alloc _).alloc _⟩⟩
 case round =>
  obtain ⟨k,m,hk,rfl,hI⟩:=hrel; have hn':=hI.hn; by_cases hlt:k<2
  · go_wp2_with (refine yl (hn') Tryz.underlying105 (qQ _) ?_); refine (j6k m hI.inn _ (hg.fr hI.fr)).mono ?_; rintro e w1 ⟨m1,rfl,s1,l1⟩; have hS:=hI.step hlt l1 s1; have h1:=hI.hn.call hI.fr l1 JK; clear hn'; go_wp2_with (refine ys .u64 4 (m1) (qT (h1)) (qM _) ?_); exact XJ
  obtain rfl:k=2:=by omega
  have hM:val W m 4=val W n 4%kQ:=by
   have s:=hI.small; have e:=hI.eq; have i1:=qE W JG m 4 hI.inn; simp only [kQ] at *; omega
  have hz:=hI.hr; go_wp2_with (first | (refine yl (hn') Tryz.underlying105 (qQ _) ?_) | (refine ys .u64 4 (m) (qT (hz)) (qM _) ?_)); exact bRq (v:=(.agg (row .u64 4 (m)).toArray)) (jQ Tryz.results101 rfl (Has.all hz.there .u64 m).range Tryz.underlying105 rfl (qQ m)) rfl ⟨m,rfl,⟨hI.inn,hM⟩,(hI.fr.setAll _ JK _).below⟩
theorem j9b (b k:Nat) (hk:k<4) (w:World):(Instr.sliceAt 23 (.pointer (some ⟨b,0,none⟩)) (some (.int .i64 (8*(k:Int)))) (some (.int .i64 (8*(k:Int)+8))) none).run Tryz.prog w=.ok (.slice (some ⟨b,8*k,none⟩) 8 (32-8*k)) w:=by
 have hl:Tryz.prog.arrayLen 23=32:=by kernel_rfl
 have hs:∀ w,(sizeOf (Tryz.prog.elem 23)).run Tryz.prog w=.ok 1 w:=fun w=>by kernel_rfl
 rw [run_sliceAt_array_lh w 23 ⟨b,0,none⟩ JU .i64 .i64 _ _ JK JK (by rw [hl]; omega),hs,hl]
 simp only [Result.andThen,slicedAt]
 have e1:(8*(k:Int)).toNat=8*k:=by omega
 have e2:(8*(k:Int)+8).toNat=8*k+8:=by omega
 rw [e1,e2,if_neg JK,Addr.add_mid]
 have e3:8*k+8-8*k=8:=by omega
 rw [e3,nZ,Nat.mul_one]
structure DInv (a:Nat→Int) (w:World) (k:Nat) (n:Nat→Int) (w':World):Prop where
 inn:In W 4 n
 eq:val W n k=val 256 a (8*k)
 ha:Has w' w.heap.size .u8 32 a
 hr:Has w' (w.heap.size+1) .u64 4 (fun _=>0)
 hn:Has w' (w.heap.size+1+1) .u64 4 n
 fr:Fr w 3 w'
theorem j3k (k j:Nat):(256:Int)^(8*k+j)=W^k*256^j:=by
 rw [Int.pow_add,Int.pow_mul,show (256:Int)^8=W from by decide]
theorem j0m (M:Int) (f:Nat→Int) (n:Nat):∀ k,val M f (n+k)=val M f n+M^n*val M (fun j=>f (n+j)) k
 | 0=>by simp [val]
 | k+1=>by
   rw [← Nat.add_assoc]
   simp only [val]
   rw [j0m M f n k,Int.mul_add,← Int.mul_assoc,Int.pow_add]
   omega
theorem DInv.drewN {a:Nat→Int} {w:World} {k:Nat} {n:Nat→Int} {w':World} (h:DInv a w k n w') (q:Nat):DInv a w k n (w'.drewN q) :=
 ⟨h.inn,h.eq,⟨h.ha.cell,h.ha.free⟩,⟨h.hr.cell,h.hr.free⟩,⟨h.hn.cell,h.hn.free⟩,⟨zZ h.fr.below,h.fr.size⟩⟩
theorem DInv.step {a:Nat→Int} {w:World} {k:Nat} {n:Nat→Int} {w':World} (h:DInv a w k n w') (ha:In 256 32 a) (hk:k<4) :
 DInv a w (k+1) (upd n k (val 256 (fun j=>a (8*k+j)) 8)) (w'.setCell ⟨w.heap.size+1+1,k,none⟩ (.int .u64 (val 256 (fun j=>a (8*k+j)) 8))):=by
 have i:=qE 256 JG (fun j=>a (8*k+j)) 8 (fun j hj=>ha (8*k+j) JK)
 refine ⟨h.inn.upd k _ i.1 i.2,?_,h.ha.set_other _ _ Ji,h.hr.set_other _ _ Jf,h.hn.set k hk _,h.fr.set _ _ Ji⟩
 have e:=j0m 256 a (8*k) 8; have p0:=j3k k 0
 simp only [Nat.add_zero,Int.pow_zero,Int.mul_one] at p0
 rw [show 8*(k+1)=8*k+8 by omega,e,p0]
 simp only [val]
 rw [zK _ _ _ _ _ (xnR k),jP,h.eq]
theorem vD (a:Nat→Int) (ha:In 256 32 a) (w:World) :
 Calls Tryz.prog 82 #[(.agg (row .u8 32 (a)).toArray)] w fun e w'=>∃ m:Nat→Int,e=.returned (.agg (row .u64 4 (m)).toArray)∧(In W 4 m∧val W m 4=val 256 a 32)∧Below w.heap.size w w':=by
 go_enter Tryz.func82,Tryz.ntmps82
 go_wp2
 go_loopw [5] (fun i w'=>∃ (k:Nat) (n:Nat→Int),k≤4∧i=.int .i64 k∧DInv a w k n w') (fun i _=>4-(intOf i).toNat)
 case atStart=>exact ⟨0,fun _=>0,by omega,rfl,⟨fun _ _=>⟨Int.le_refl 0,by decide⟩,rfl,((Has.new w _ _ _ _ _ rfl).alloc _ Jf).alloc _ Ji,(yA _ _ _ Jf).alloc _ Jf,yA _ _ _ Jf,(((Fr.refl w).alloc _).alloc _).alloc _⟩⟩
 case round =>
  obtain ⟨k,n,hk,rfl,hI⟩:=hrel; by_cases hlt:k<4
  · have g1:(0:Int)≤(k:Int):=by omega
    have g2:(k:Int)<4:=by omega
    have hcut:=j9b w.heap.size k hlt; have HS:=show Hid _ from fun q=>(hI.drewN q).step ha hlt; have HC:=show Hid _ from q3x w.heap.size (8*k) 32 (32-8*k) a JK ha wr hI.ha
    have cn:∀ q,(wr.drewN q).cell? ⟨w.heap.size+1+1,k,none⟩=some (.int .u64 (n k)):=fun q=>hI.hn.cell k hlt
    have fn:∀ q,(wr.drewN q).frozen? ⟨w.heap.size+1+1,k,none⟩=false:=fun q=>hI.hn.free k hlt
    clear hI; generalize n k=z at *; generalize val 256 (fun j=>a (8*k+j)) 8=v at *; go_wp2_with fail; refine Calls.mono HC.out ?_; rintro e w' ⟨q,rfl,rfl⟩; have cn':=cn q; have fn':=fn q; have HT:=show Hid _ from HS.out q; clear HC HS cn fn; generalize wr.drewN q=w2 at *; go_wp2
    go_roundw
    case rel=>exact ⟨k+1,_,by omega,by go_num,HT.out⟩
    case measure=>simp [intOf]; omega
  obtain rfl:k=4:=by omega
  have hn:=hI.hn; have hz:=hI.hr; go_wp2_with (first | (refine yl (hn) Tryz.underlying105 (qQ _) ?_) | (refine ys .u64 4 (n) (qT (hz)) (qM _) ?_)); exact bRq (v:=(.agg (row .u64 4 (n)).toArray)) (jQ Tryz.results82 rfl (Has.all hz.there .u64 n).range Tryz.underlying105 rfl (qQ n)) rfl ⟨n,rfl,⟨hI.inn,hI.eq⟩,(hI.fr.setAll _ JK _).below⟩
theorem j7b (m:Nat→Int) (w:World):(Instr.index 105 (.agg (row .u64 4 m).toArray) (.int .i64 0)).run Tryz.prog w=.ok (.int .u64 (m 0)) w:=by kernel_rfl
theorem j7a (m:Nat→Int) (w:World):(Instr.index 105 (.agg (row .u64 4 m).toArray) (.int .i64 1)).run Tryz.prog w=.ok (.int .u64 (m 1)) w:=by kernel_rfl
theorem j6z (m:Nat→Int) (w:World):(Instr.index 105 (.agg (row .u64 4 m).toArray) (.int .i64 2)).run Tryz.prog w=.ok (.int .u64 (m 2)) w:=by kernel_rfl
theorem j6y (m:Nat→Int) (w:World):(Instr.index 105 (.agg (row .u64 4 m).toArray) (.int .i64 3)).run Tryz.prog w=.ok (.int .u64 (m 3)) w:=by kernel_rfl
theorem q1a (m:Nat→Int) (k:Nat) (hk:k<4) (w:World):(Instr.index 105 (.agg (row .u64 4 m).toArray) (.int .i64 (k:Int))).run Tryz.prog w=.ok (.int .u64 (m k)) w:=by
 have h:k=0∨k=1∨k=2∨k=3:=by omega
 rcases h with rfl | rfl | rfl | rfl
 · exact j7b m w
 · exact j7a m w
 · exact j6z m w
 exact j6y m w
structure GInv (m:Nat→Int) (w:World) (B:Nat) (k:Nat) (f:Nat→Int) (w':World):Prop where
 inn:In 256 32 f
 eq:val 256 f (8*k)=val W m k
 hb:Has w' B .u8 32 f
 hr:Has w' (w.heap.size+1) .u8 32 (fun _=>0)
 fr:Fr w 2 w'
theorem GInv.step {m:Nat→Int} {w:World} {B k:Nat} {f:Nat→Int} {w':World} (h:GInv m w B k f w') (hB:w.heap.size+2≤B) (hm:0≤m k∧m k<W) (hk:k<4) :
 GInv m w B (k+1) (uA f (8*k) 8 (byt (m k))) (w'.setCells B (8*k) (row .u8 8 (byt (m k)))):=by
 refine ⟨lD h.inn (j7k _),?_,h.hb.part (8*k) 8 JK (byt (m k)),h.hr.setAll_other _ JK _ _,⟨jS h.fr.below B JK _ _,by rw [jN]; exact h.fr.size⟩⟩
 have e:=j0m 256 (uA f (8*k) 8 (byt (m k))) (8*k) 8
 have e1:val 256 (uA f (8*k) 8 (byt (m k))) (8*k)=val 256 f (8*k):=qZ 256 _ fun j hj=>by unfold uA; rw [if_neg JK]
 have e2:val 256 (fun j=>uA f (8*k) 8 (byt (m k)) (8*k+j)) 8=m k:=by
  rw [qZ 256 8 (g:=byt (m k)) (fun j hj=>by unfold uA; rw [if_pos JK,Nat.add_sub_cancel_left])]; exact j0n (m k) hm.1 hm.2
 have p0:=j3k k 0
 simp only [Nat.add_zero,Int.pow_zero,Int.mul_one] at p0
 rw [show 8*(k+1)=8*k+8 by omega,e,e1,e2,p0,h.eq]
 rfl
theorem mN (n:Nat→Int) (hn:In W 4 n) (w:World) (hg:kGlob w) :
 Calls Tryz.prog 80 #[(.agg (row .u64 4 (n)).toArray)] w fun e w'=>∃ f:Nat→Int,e=.returned (.agg (row .u8 32 (f)).toArray)∧(In 256 32 f∧val 256 f 32=val W n 4%kQ)∧Below w.heap.size w w':=by
 have a0:Has ((w.alloc (.cells (row .u64 4 n).toArray 105)).alloc (.cells jY 23)) w.heap.size .u64 4 n:=(Has.new w _ _ _ _ _ rfl).alloc _ Jf
 have z0:Has ((w.alloc (.cells (row .u64 4 n).toArray 105)).alloc (.cells jY 23)) (w.heap.size+1) .u8 32 (fun _=>0):=jK _ _ _ Jf
 have g0:Fr w 2 ((w.alloc (.cells (row .u64 4 n).toArray 105)).alloc (.cells jY 23)):=((Fr.refl w).alloc _).alloc _
 go_enter Tryz.func80,Tryz.ntmps80
 go_wp2_with (refine yl (a0) Tryz.underlying105 (qQ _) ?_)
 refine (q0z n hn _ (hg.fr g0)).mono ?_; rintro e w1 ⟨m,rfl,s1,l1⟩; have g1:=(g0.call l1).setAll w.heap.size (xnR _) (row .u64 4 m)
 have a1':=a0.call g0 l1 JK
 have a1:=Has.all a1'.there .u64 m; have z1:=(z0.call g0 l1 JK).setAll_other w.heap.size JK 0 (row .u64 4 m); have a2:=a1.alloc (.cells jY 23) Wh
 have tok:True:=trivial
 clear a0 z0 g0 l1
 have hN:w.heap.size+2≤(w1.setCells w.heap.size 0 (row .u64 4 m)).heap.size:=g1.size
 rw [jN] at hN
 go_wp2_with (first | (have _t:=tok; refine ys .u64 4 (m) (qT (a1')) (qM _) ?_; clear tok) | (refine yl (a2) Tryz.underlying105 (qQ _) ?_))
 have b2:=jK (w1.setCells w.heap.size 0 (row .u64 4 m)) 23 _ rfl; have z2:=z1.alloc (.cells jY 23) (by rw [jN]; omega); have g2:=g1.alloc (.cells jY 23)
 have hB:w.heap.size+2≤(w1.setCells w.heap.size 0 (row .u64 4 m)).heap.size:=g1.size
 clear a1 a1' a2 z1 g1 hN; generalize (w1.setCells w.heap.size 0 (row .u64 4 m)).heap.size=B at *; generalize (w1.setCells w.heap.size 0 (row .u64 4 m)).alloc (.cells jY 23)=W2 at *
 go_loopw [9] (fun i w'=>∃ (k:Nat) (f:Nat→Int),k≤4∧i=.int .i64 k∧GInv m w B k f w') (fun i _=>4-(intOf i).toNat)
 case atStart=>exact ⟨0,fun _=>0,by omega,rfl,⟨fun _ _=>⟨Int.le_refl 0,by decide⟩,rfl,b2,z2,⟨g2.below,by have:=g2.size; omega⟩⟩⟩
 case round =>
  obtain ⟨k,f,hk,rfl,hI⟩:=hrel; clear b2 z2 g2; by_cases hlt:k<4
  · have g1:(0:Int)≤(k:Int):=by omega
    have g2:(k:Int)<4:=by omega
    have hcut:=j9b B k hlt; have hix:=q1a m k hlt; have i1:=s1.1 k hlt; have HS:=show Hid _ from hI.step hB i1 hlt; have HC:=show Hid _ from lP B (8*k) 32 (32-8*k) f (m k) JK wr hI.hb; have H1:=show Hid _ from s1; clear hI s1 i1; generalize m k=x at *
    go_wp2_with fail; refine Calls.mono HC.out ?_; rintro e w' ⟨rfl,rfl⟩; clear HC; generalize wr.setCells B (8*k) (row .u8 8 (byt x))=w2 at *; go_wp2; exact QW
  obtain rfl:k=4:=by omega
  have hb:=hI.hb; have hz:=hI.hr; have hE:In 256 32 f∧val 256 f 32=val W n 4%kQ:=⟨hI.inn,hI.eq.trans s1.2⟩
  have HE:=show Hid _ from hE; clear hE s1 hlt hk
  go_wp2_with (first | (refine yl (hb) Tryz.underlying23 (jJ _) ?_) | (refine ys .u8 32 (f) (yQ (hz)) (jV _) ?_)); exact bRq (v:=(.agg (row .u8 32 (f)).toArray)) (jQ Tryz.results80 rfl (Has.all hz.there .u8 f).range Tryz.underlying23 rfl (jJ f)) rfl ⟨f,rfl,HE.out,(hI.fr.setAll _ JK _).below⟩
theorem q2f (f:Nat→Int):(Tryz.prog.info? 123).map (·.size)=some (row .u64 8 f).length:=by rw [jX]; kernel_rfl
structure FInv (d:Nat→Int) (w:World) (k:Nat) (n:Nat→Int) (cv:Int) (w':World):Prop where
 c0:0≤cv
 c1:cv≤38
 inn:In W 4 n
 eq:val W n k+W^k*cv=val W d k+38*val W (fun j=>d (j+4)) k
 hd:Has w' w.heap.size .u64 8 d
 hr:Has w' (w.heap.size+1) .u64 4 (fun _=>0)
 hn:Has w' (w.heap.size+1+1) .u64 4 n
 fr:Fr w 3 w'
theorem FInv.step {d:Nat→Int} {w:World} {k:Nat} {n:Nat→Int} {cv h l:Int} {w':World} (hI:FInv d w k n cv w') (hd:In W 8 d) (hk:k<4) (hs:dY (d (k+4)) 38 (d k) cv h l) :
 FInv d w (k+1) (upd n k l) h ((w'.setCell ⟨w.heap.size+1+1,k,none⟩ (.int .u64 l)).drew):=by
 obtain ⟨s0,s1,s2,s3,s4⟩:=hs
 have i1:=hd (k+4) JK; have i2:=hd k JK; have q1:=hI.c1; have q0:=hI.c0
 refine ⟨s0,?_,hI.inn.upd k l s2 s3,?_,(hI.hd.set_other _ _ Ji).drew,(hI.hr.set_other _ _ Jf).drew,(hI.hn.set k hk _).drew,(hI.fr.set _ _ Ji).drew⟩
 · simp only [W] at *; omega
 simp only [val]
 rw [zK _ _ _ _ _ (xnR k),jP,Int.pow_succ,Int.mul_assoc]
 have e1:W^k*(W*h)+W^k*l=W^k*(38*d (k+4))+W^k*d k+W^k*cv:=by
  rw [← Int.mul_add,← Int.mul_add,← Int.mul_add,Int.mul_comm W h,s4,Int.mul_comm 38]
 have e2:=hI.eq
 have e3:W^k*(38*d (k+4))=38*(W^k*d (k+4)):=Int.mul_left_comm _ _ _
 omega
theorem x6i (d:Nat→Int):val W d 8=val W d 4+W^4*val W (fun j=>d (j+4)) 4:=by
 simp only [val,W,nZ,Nat.reduceAdd]
 omega
theorem j6r {d n m:Nat→Int} {cv:Int} (he:val W n 4+W^4*cv=val W d 4+38*val W (fun j=>d (j+4)) 4) (hm:val W m 4%kQ=(val W n 4+W^4*cv)%kQ):val W m 4%kQ=val W d 8%kQ:=by
 rw [hm,he,x6i,W4]
 simp only [kQ]
 omega
theorem q5i (d:Nat→Int) (hd:In W 8 d) (w:World) :
 Calls Tryz.prog 104 #[(.agg (row .u64 8 (d)).toArray)] w fun e w'=>∃ m:Nat→Int,e=.returned (.agg (row .u64 4 (m)).toArray)∧(In W 4 m∧val W m 4%kQ=val W d 8%kQ)∧Below w.heap.size w w':=by
 go_enter Tryz.func104,Tryz.ntmps104
 go_wp2
 go_loopw [4,6] (fun c i w'=>∃ (k:Nat) (n:Nat→Int) (cv:Int),k≤4∧i=.int .i64 k∧c=.int .u64 cv∧FInv d w k n cv w') (fun _ i _=>4-(intOf i).toNat)
 case atStart =>
  exact ⟨0,fun _=>0,0,by omega,rfl,rfl,⟨by omega,by omega,fun _ _=>⟨Int.le_refl 0,by decide⟩,by simp [val],((Has.new w _ _ _ _ _ rfl).alloc _ Jf).alloc _ Ji,(yA _ _ _ Jf).alloc _ Jf,yA _ _ _ Jf,(((Fr.refl w).alloc _).alloc _).alloc _⟩⟩
 case round =>
  obtain ⟨k,n,cv,hk,rfl,rfl,hI⟩:=hrel; by_cases hlt:k<4
  · have c1:=hI.hd.cell (k+4) JK; have c2:=hI.hd.cell k JK; have c3:=hI.hn.cell k hlt; have f1:=hI.hn.free k hlt; have g1:(0:Int)≤(k:Int):=by omega
    have g2:(k:Int)<4:=by omega
    have g3:(0:Int)≤(k:Int)+4:=by omega
    have g4:(k:Int)+4<8:=by omega
    have g5:(k:Int)<8:=by omega
    have g6:((k:Int)+4).toNat=k+4:=by omega
    have g7:IntKind.i64.wrap ((k:Int)+4)=(k:Int)+4:=by rw [xw6]; omega
    have hc:=fun W'=>bG (d (k+4)) 38 (d k) cv (hd (k+4) JK).1 (hd (k+4) JK).2 JG JG (hd k JK).1 (hd k JK).2 hI.c0 (by have:=hI.c1; simp only [W]; omega) W'; have HS:=show Hid _ from fun (h l:Int) (hs:dY (d (k+4)) 38 (d k) cv h l)=>hI.step hd hlt hs; have HC:=show Hid _ from hc; clear hI hc; generalize n k=z at *
    generalize d (k+4)=x at *; generalize d k=y at *; go_wp2; have k1:∀ v,(wr.setCell ⟨w.heap.size+1+1,k,none⟩ v).cell? ⟨w.heap.size,k+4,none⟩=some (.int .u64 x):=fun v=>by rw [World.cell?_setCell_other _ _ _ _ Wn]; exact c1
    have k2:∀ v,(wr.setCell ⟨w.heap.size+1+1,k,none⟩ v).cell? ⟨w.heap.size,k,none⟩=some (.int .u64 y):=fun v=>by rw [World.cell?_setCell_other _ _ _ _ Wn]; exact c2
    go_region_held3 (fun w'=>w'.cell? ⟨w.heap.size,k+4,none⟩=some (.int .u64 x)∧w'.cell? ⟨w.heap.size,k,none⟩=some (.int .u64 y)) (simp [*]) (first | (go_at_call 103; refine (HC.out _).mono ?_; rintro e w' ⟨h,l,rfl,hs,rfl⟩)); go_wp2; go_roundw
    case rel=>exact ⟨k+1,_,_,by omega,by go_num,rfl,HS.out h l hs⟩
    case measure=>simp [intOf]; omega
  obtain rfl:k=4:=by omega
  have hn:=hI.hn; have hz:=hI.hr; go_wp2_with (refine yl (hn) Tryz.underlying105 (qQ _) ?_); refine (j2j n hI.inn cv hI.c0 hI.c1 _).mono ?_; rintro e w1 ⟨m,rfl,s1,l1⟩; have hz1:=hz.call hI.fr l1 JK; go_wp2_with (refine ys .u64 4 (m) (qT (hz1)) (qM _) ?_); exact bRq (v:=(.agg (row .u64 4 (m)).toArray)) (jQ Tryz.results104 rfl (Has.all hz1.there .u64 m).range Tryz.underlying105 rfl (qQ m)) rfl ⟨m,rfl,⟨s1.1,j6r hI.eq s1.2⟩,((hI.fr.call l1).setAll _ JK _).below⟩
theorem xU (M:Int) (f:Nat→Int) (n:Nat):val M f (n+1)=val M f n+M^n*f n:=rfl
theorem vN (M:Int) (f:Nat→Int) (i:Nat) (x:Int):∀ n,i<n→val M (upd f i x) n=val M f n+(M^i*x-M^i*f i)
 | 0,h=>by omega
 | n+1,h=>by
   simp only [val]
   by_cases e:i=n
   · subst e; rw [zK _ _ _ _ _ (xnR i),jP]; omega
   · rw [vN M f i x n JK,jR _ _ _ _ JK]; omega
structure kRInv (a b:Nat→Int) (w:World) (k j:Nat) (d:Nat→Int) (cv:Int) (w':World):Prop where
 c0:0≤cv
 c1:cv<W
 inn:In W 8 d
 zero:∀ t,4+k≤t→d t=0
 eq:val W d (4+k)+W^(k+j)*cv=val W a k*val W b 4+W^k*a k*val W b j
 ha:Has w' w.heap.size .u64 4 a
 hb:Has w' (w.heap.size+1) .u64 4 b
 hr:Has w' (w.heap.size+1+1) .u64 4 (fun _=>0)
 hd:Has w' (w.heap.size+1+1+1) .u64 8 d
 fr:Fr w 4 w'
theorem kRInv.step {a b:Nat→Int} {w:World} {k j:Nat} {d:Nat→Int} {cv h l:Int} {w':World} (hI:kRInv a b w k j d cv w') (hk:k<4) (hj:j<4) (hs:dY (a k) (b j) (d (k+j)) cv h l) :
 kRInv a b w k (j+1) (upd d (k+j) l) h ((w'.setCell ⟨w.heap.size+1+1+1,k+j,none⟩ (.int .u64 l)).drew):=by
 obtain ⟨s0,s1,s2,s3,s4⟩:=hs
 refine ⟨s0,s1,hI.inn.upd _ l s2 s3,fun t ht=>?_,?_,(hI.ha.set_other _ _ Ji).drew,(hI.hb.set_other _ _ Ji).drew,(hI.hr.set_other _ _ Jf).drew,(hI.hd.set _ JK _).drew,(hI.fr.set _ _ Ji).drew⟩
 · rw [jR _ _ _ _ JK]; exact hI.zero t ht
 rw [vN _ _ _ _ _ JK,xU W b j]
 have e0:W^(k+(j+1))*h=W^(k+j)*(h*W):=by rw [← Nat.add_assoc,Int.pow_succ,Int.mul_assoc,Int.mul_comm W h]
 have e1:W^(k+j)*(h*W)+W^(k+j)*l=W^(k+j)*(a k*b j)+W^(k+j)*d (k+j)+W^(k+j)*cv:=by
  rw [← Int.mul_add,← Int.mul_add,← Int.mul_add,s4]
 exact XV
theorem kRInv.next {a b:Nat→Int} {w:World} {k:Nat} {d:Nat→Int} {cv:Int} {w':World} (hI:kRInv a b w k 4 d cv w') (hk:k<4) :
 kRInv a b w (k+1) 0 (upd d (k+4) cv) 0 (w'.setCell ⟨w.heap.size+1+1+1,k+4,none⟩ (.int .u64 cv)):=by
 refine ⟨Int.le_refl 0,by decide,hI.inn.upd _ cv hI.c0 hI.c1,fun t ht=>?_,?_,hI.ha.set_other _ _ Ji,hI.hb.set_other _ _ Ji,hI.hr.set_other _ _ Jf,hI.hd.set _ JK _,hI.fr.set _ _ Ji⟩
 · rw [jR _ _ _ _ JK]; exact hI.zero t JK
 have e:4+(k+1)=(k+4)+1:=by omega
 have e2:=hI.eq
 rw [Nat.add_comm 4 k] at e2
 rw [e,xU W _ (k+4),zK _ _ _ _ _ (xnR _),jP,xU W a k,Int.add_mul,e2,Int.mul_zero,show val W b 0=0 from rfl,Int.mul_zero]
theorem q2e (w:World) (t:TypeId) (b:Nat) (hb:b=w.heap.size):Has (w.alloc (.cells x1h t)) b .u64 8 (fun _=>0):=Has.new w .u64 8 (fun _=>0) t b hb
theorem wS (M:Int):∀ n,val M (fun _=>0) n=0
 | 0=>rfl
 | n+1=>by simp [val,wS M n]
theorem kG (a b:Nat→Int) (ha:In W 4 a) (hb:In W 4 b) (w:World) :
 Calls Tryz.prog 81 #[(.agg (row .u64 4 (a)).toArray),(.agg (row .u64 4 (b)).toArray)] w fun e w'=>∃ m:Nat→Int,e=.returned (.agg (row .u64 4 (m)).toArray)∧(In W 4 m∧val W m 4%kQ=(val W a 4*val W b 4)%kQ)∧Below w.heap.size w w':=by
 go_enter Tryz.func81,Tryz.ntmps81
 go_wp2
 go_loopw [9] (fun i w'=>∃ (k:Nat) (d:Nat→Int),k≤4∧i=.int .i64 k∧kRInv a b w k 0 d 0 w') (fun i _=>4-(intOf i).toNat)
 case atStart =>
  exact ⟨0,fun _=>0,by omega,rfl,⟨by omega,by decide,fun _ _=>⟨Int.le_refl 0,by decide⟩,fun _ _=>rfl,by simp [val],(((Has.new w _ _ _ _ _ rfl).alloc _ Jf).alloc _ Ji).alloc _ Ji,((Has.new _ _ _ _ _ _ Jf).alloc _ Jf).alloc _ Jf,(yA _ _ _ Jf).alloc _ Jf,q2e _ _ _ Jf,((((Fr.refl w).alloc _).alloc _).alloc _).alloc _⟩⟩
 case round =>
  obtain ⟨k,d0,hk,rfl,hO⟩:=hrel; by_cases hlt:k<4
  · obtain ⟨wo,rfl⟩:∃ wo:World,wo=wr:=⟨_,rfl⟩
    have g1:(0:Int)≤(k:Int):=by omega
    have g2:(k:Int)<4:=by omega
    go_wp2; go_loopw [7,12] (fun c i w'=>∃ (j:Nat) (d:Nat→Int) (cv:Int),j≤4∧i=.int .i64 j∧c=.int .u64 cv∧kRInv a b w k j d cv w') (fun _ i _=>4-(intOf i).toNat)
    case atStart=>exact ⟨0,d0,0,by omega,rfl,rfl,hO⟩
    case round =>
     obtain ⟨j,d,cv,hj,rfl,rfl,hI⟩:=hrel; clear hO; by_cases hlt2:j<4
     · have c1:=hI.ha.cell k hlt; have c2:=hI.hb.cell j hlt2; have c3:=hI.hd.cell (k+j) JK; have f1:=hI.hd.free (k+j) JK; have g3:(0:Int)≤(j:Int):=by omega
       have g4:(j:Int)<4:=by omega
       have g5:(0:Int)≤(k:Int)+(j:Int):=by omega
       have g6:(k:Int)+(j:Int)<8:=by omega
       have g7:((k:Int)+(j:Int)).toNat=k+j:=by omega
       have g8:IntKind.i64.wrap ((k:Int)+(j:Int))=(k:Int)+(j:Int):=by rw [xw6]; omega
       have HS:=show Hid _ from fun (h l:Int) (hs:dY (a k) (b j) (d (k+j)) cv h l)=>hI.step hlt hlt2 hs; have HC:=show Hid _ from fun W'=>bG (a k) (b j) (d (k+j)) cv (ha k hlt).1 (ha k hlt).2 (hb j hlt2).1 (hb j hlt2).2 (hI.inn (k+j) JK).1 (hI.inn (k+j) JK).2 hI.c0 hI.c1 W'; clear hI; generalize a k=x at *; generalize b j=y at *
       generalize d (k+j)=z at *; go_wp2; go_region_with (go_at_call 103; refine (HC.out _).mono ?_; rintro e w' ⟨h,l,rfl,hs,rfl⟩)
       all_goals
        exact ZK
     obtain rfl:j=4:=by omega
     have hS:=hI.next hlt; have c3:=hI.hd.cell (k+4) JK; have f1:=hI.hd.free (k+4) JK; have g6:((k:Int)+4).toNat=k+4:=by omega
     clear hI; generalize d (k+4)=z at *; go_wp2; exact XJ
  obtain rfl:k=4:=by omega
  have hd:=hO.hd; have hz:=hO.hr; have he:val W d0 8=val W a 4*val W b 4:=by
   exact JX
  go_wp2_with (refine yl (hd) Tryz.underlying123 (q2f _) ?_); refine (q5i d0 hO.inn _).mono ?_; rintro e w1 ⟨m,rfl,s1,l1⟩; have hz1:=hz.call hO.fr l1 JK; have hm:val W m 4%kQ=(val W a 4*val W b 4)%kQ:=by rw [s1.2,he]
  have HM:=show Hid _ from hm; clear he hm
  go_wp2_with (refine ys .u64 4 (m) (qT (hz1)) (qM _) ?_); exact bRq (v:=(.agg (row .u64 4 (m)).toArray)) (jQ Tryz.results81 rfl (Has.all hz1.there .u64 m).range Tryz.underlying105 rfl (qQ m)) rfl ⟨m,rfl,⟨s1.1,HM.out⟩,((hO.fr.call l1).setAll _ JK _).below⟩
def E:Nat:=57896044618658097711785492504343953926634992332820282019728792003956564819947
theorem x1g:E/2^256=0:=by decide +kernel
def x3w (n:Nat):Bool:=(List.range n).all fun s=>(eW (s/64)).toNat/2^(s%64)%2 == E/2^s%2
theorem q9k:x3w 256=true:=by decide +kernel
theorem x3y (s:Nat) (h:s<256):(eW (s/64)).toNat/2^(s%64)%2=E/2^s%2:=by
 have:=List.all_eq_true.1 q9k s (List.mem_range.2 h)
 simpa using this
theorem x5p:In W 4 eW
 | 0,_=>by decide
 | 1,_=>by decide
 | 2,_=>by decide
 | 3,_=>by decide
 | _+4,h=>by omega
structure VInv (a:Nat→Int) (w:World) (t:Nat) (m:Nat→Int) (w':World):Prop where
 inn:In W 4 m
 eq:val W m 4%kQ=val W a 4^(E/2^t)%kQ
 ha:Has w' w.heap.size .u64 4 a
 hr:Has w' (w.heap.size+1) .u64 4 (fun _=>0)
 hn:Has w' (w.heap.size+1+1) .u64 4 m
 fr:Fr w 3 w'
theorem q9b (w:World) (t:TypeId) (b:Nat) (hb:b=w.heap.size):Has (w.alloc (.cells #[.int .u64 1,.int .u64 0,.int .u64 0,.int .u64 0] t)) b .u64 4 (one 1):=Has.new w .u64 4 (one 1) t b hb
theorem q6l (y:Int) (h0:0≤y) (h1:y<W) (k:Nat):(bits BinOp.and IntKind.u64 (y/2^k) 1 == 1)=(y.toNat/2^k%2 == 1):=by
 obtain ⟨y,rfl⟩:=xiN h0
 simp only [W] at h1
 have e:(y:Int)/2^k=((y/2^k:Nat):Int):=by simp
 have hlt:y/2^k<18446744073709551616:=Nat.lt_of_le_of_lt (Nat.div_le_self _ _) JK
 have e2:=u64_and_nat (y/2^k) 1 hlt JK
 rw [e,show (1:Int)=((1:Nat):Int) from rfl,e2,Nat.and_one_is_mod,Int.toNat_natCast]
 generalize y/2^k%2=z
 by_cases hz:z=1
 · subst hz; rfl
 have a:((z:Int) == ((1:Nat):Int))=false:=by simp; omega
 have b:(z == 1)=false:=by simp; exact hz
 rw [a,b]
theorem q9c (s:Nat):E/2^s=2*(E/2^(s+1))+E/2^s%2:=by
 rw [Nat.pow_succ,← Nat.div_div_eq_div_mul]
 omega
theorem VInv.even {a:Nat→Int} {w:World} {s:Nat} {m m1:Nat→Int} {w' w1:World} (h:VInv a w (s+1) m w') (l:Below w'.heap.size w' w1) (s1:In W 4 m1∧val W m1 4%kQ=(val W m 4*val W m 4)%kQ) (hb:E/2^s%2=0) :
 VInv a w s m1 (w1.setCells (w.heap.size+1+1) 0 (row .u64 4 m1)):=by
 refine ⟨s1.1,?_,(h.ha.call h.fr l JK).setAll_other _ JK 0 _,(h.hr.call h.fr l JK).setAll_other _ JK 0 _,Has.all (h.hn.call h.fr l JK).there .u64 m1,(h.fr.call l).setAll _ JK _⟩
 rw [q9c s,hb,Nat.add_zero,s1.2,Int.mul_emod,h.eq,← Int.mul_emod,← Int.pow_add,← Nat.two_mul]
theorem VInv.odd {a:Nat→Int} {w:World} {s:Nat} {m m1 m2:Nat→Int} {w' w1 w2:World} (h:VInv a w (s+1) m w') (l:Below w'.heap.size w' w1) (s1:In W 4 m1∧val W m1 4%kQ=(val W m 4*val W m 4)%kQ)
 (l2:Below (w1.setCells (w.heap.size+1+1) 0 (row .u64 4 m1)).heap.size (w1.setCells (w.heap.size+1+1) 0 (row .u64 4 m1)) w2) (s2:In W 4 m2∧val W m2 4%kQ=(val W m1 4*val W a 4)%kQ) (hb:E/2^s%2=1) :
 VInv a w s m2 (w2.setCells (w.heap.size+1+1) 0 (row .u64 4 m2)):=by
 have f1:=(h.fr.call l).setAll (w.heap.size+1+1) JK (row .u64 4 m1); have a1:=(h.ha.call h.fr l JK).setAll_other (w.heap.size+1+1) JK 0 (row .u64 4 m1); have r1:=(h.hr.call h.fr l JK).setAll_other (w.heap.size+1+1) JK 0 (row .u64 4 m1); have n1:=Has.all (h.hn.call h.fr l JK).there .u64 m1
 refine ⟨s2.1,?_,(a1.call f1 l2 JK).setAll_other _ JK 0 _,(r1.call f1 l2 JK).setAll_other _ JK 0 _,Has.all (n1.call f1 l2 JK).there .u64 m2,(f1.call l2).setAll _ JK _⟩
 have e1:val W m1 4%kQ=val W a 4^(2*(E/2^(s+1)))%kQ:=by rw [s1.2,Int.mul_emod,h.eq,← Int.mul_emod,← Int.pow_add,← Nat.two_mul]
 rw [q9c s,hb,Int.pow_succ,s2.2,Int.mul_emod (val W m1 4),e1,← Int.mul_emod]
theorem j4h (a:Nat→Int) (ha:In W 4 a) (w:World) (hg:kGlob w) :
 Calls Tryz.prog 83 #[(.agg (row .u64 4 (a)).toArray)] w fun e w'=>∃ m:Nat→Int,e=.returned (.agg (row .u64 4 (m)).toArray)∧(In W 4 m∧val W m 4%kQ=val W a 4^E%kQ)∧Below w.heap.size w w':=by
 go_enter Tryz.func83,Tryz.ntmps83
 go_wp2
 go_loopw [4] (fun i w'=>∃ (t:Nat) (z:Int) (m:Nat→Int),t≤256∧z=(t:Int)-1∧i=.int .i64 z∧VInv a w t m w') (fun i _=>(intOf i+1).toNat)
 case atStart=>exact ⟨256,255,one 1,by omega,by decide,rfl,⟨j6g 1 JG JG,by rw [x1g,Int.pow_zero,j0l],((Has.new w _ _ _ _ _ rfl).alloc _ Jf).alloc _ Ji,(yA _ _ _ Jf).alloc _ Jf,q9b _ _ _ Jf,(((Fr.refl w).alloc _).alloc _).alloc _⟩⟩
 case round =>
  obtain ⟨t,z,m,ht,hz,rfl,hI⟩:=hrel; by_cases hlt:0<t
  · obtain ⟨s,rfl⟩:∃ s,t=s+1:=⟨t-1,by omega⟩
    obtain rfl:z=(s:Int):=by omega
    have hn':=hI.hn; have g1:(0:Int)≤(s:Int):=by omega
    have g2:(s:Int)<256:=by omega
    clear hz hlt; go_wp2_with (refine yl (hn') Tryz.underlying105 (qQ _) ?_); refine (kG m m hI.inn hI.inn _).mono ?_; rintro e w1 ⟨m1,rfl,s1,l1⟩; have hn1:=hn'.call hI.fr l1 JK; have hg2:=(hg.fr ((hI.fr.call l1).setAll (w.heap.size+1+1) JK (row .u64 4 m1))).power (s/64) JK; have HB:=show Hid _ from x3y s JK; have y1:=x5p (s/64) JK; have hm2:=Has.all hn1.there .u64 m1
    have ha2:=(hI.ha.call hI.fr l1 JK).setAll_other (w.heap.size+1+1) JK 0 (row .u64 4 m1); have i1:=s1.1; have H1:=show Hid _ from s1; have HI:=show Hid _ from hI; clear s1 hn' hI; generalize eW (s/64)=y at *; have hT:=q6l y y1.1 y1.2 (s%64)
    have tok:True:=trivial
    cases hb:(bits BinOp.and IntKind.u64 (y/2^(s%64)) 1 == 1)
    · have hodd:E/2^s%2=0:=by
       rw [hb] at hT; have h2:¬ (y.toNat/2^(s%64)%2=1):=by simpa using hT.symm
       have h3:=HB.out; omega
      have HO:=show Hid _ from hodd; clear hT hodd hm2 ha2
      go_wp2_with (have _t:=tok; refine ys .u64 4 (m1) (qT (hn1)) (qM _) ?_; clear tok); go_roundw
      case rel=>exact ⟨s,(s:Int)-1,m1,by omega,rfl,rfl,HI.out.even l1 H1.out HO.out⟩
      case measure=>simp [intOf]
    have hodd:E/2^s%2=1:=by
     rw [hb] at hT; have h2:y.toNat/2^(s%64)%2=1:=by simpa using hT.symm
     have h3:=HB.out; omega
    have HO:=show Hid _ from hodd; clear hT hodd
    go_wp2_with (first | (have _t:=tok; refine ys .u64 4 (m1) (qT (hn1)) (qM _) ?_; clear tok) | (refine yl (hm2) Tryz.underlying105 (qQ _) ?_) | (refine yl (ha2) Tryz.underlying105 (qQ _) ?_)); refine (kG m1 a i1 ha _).mono ?_; rintro e w2 ⟨m2,rfl,s2,l2⟩; have hn2:=hm2.below l2 (by rw [jN]; have:=(HI.out.fr.call l1).size; omega); have H2:=show Hid _ from s2; clear s2 hm2 ha2 hg2 hn1
    go_wp2_with (refine ys .u64 4 (m2) (qT (hn2)) (qM _) ?_); go_roundw
    case rel=>exact ⟨s,(s:Int)-1,m2,by omega,rfl,rfl,HI.out.odd l1 H1.out l2 H2.out HO.out⟩
    case measure=>simp [intOf]
  obtain rfl:t=0:=by omega
  obtain rfl:z=-1:=by omega
  have hn':=hI.hn; have hz':=hI.hr; have he:val W m 4%kQ=val W a 4^E%kQ:=by have e:=hI.eq; rwa [Nat.pow_zero,Nat.div_one] at e
  have HE:=show Hid _ from he; clear he hz hlt ht
  go_wp2_with (first | (refine yl (hn') Tryz.underlying105 (qQ _) ?_) | (refine ys .u64 4 (m) (qT (hz')) (qM _) ?_)); exact bRq (v:=(.agg (row .u64 4 (m)).toArray)) (jQ Tryz.results83 rfl (Has.all hz'.there .u64 m).range Tryz.underlying105 rfl (qQ m)) rfl ⟨m,rfl,⟨hI.inn,HE.out⟩,(hI.fr.setAll _ JK _).below⟩
end Go.Proofs.YtknodlefhclijaaGreatDoor
