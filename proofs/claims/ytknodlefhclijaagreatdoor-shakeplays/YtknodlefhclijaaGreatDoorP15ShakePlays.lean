/- Texts of Jp Yp Ka Yq Kb Kc, joined. -/
import Derived.Test.YtknodlefhclijaaGreatDoorP14ShakePlays
set_option maxRecDepth 20000
set_option maxHeartbeats 64000000
namespace Go.Proofs.YtknodlefhclijaaGreatDoor
open Go.RowKit
def knx (ll:Nat) (last:Nat→Int) (il:Nat) (inf:Nat→Int) (c:Int):Nat→Int:=app (app last ll inf) (ll+il) (fun _=>c)
theorem x2x (ll:Nat) (last:Nat→Int) (il:Nat) (inf:Nat→Int) (c:Int) (hl:In 256 ll last) (hi:In 256 il inf) (hc:0≤c∧c<256):In 256 (ll+il+1) (knx ll last il inf c):=rX _ _ _ _ (rX _ _ _ _ hl hi) (fun _ _=>hc)
theorem x5t (ll:Nat) (last:Nat→Int) (il:Nat) (inf:Nat→Int) (c:Int) (j:Nat):j2h (pk3 ll il 1) (pk3 last inf (fun _=>c)) 3 j=knx ll last il inf c j:=by
 show app (app (app (fun _=>0) 0 last) (0+ll) inf) (0+ll+il) (fun _=>c) j=_
 unfold knx
 rw [nZ]
 have e:app (fun _=>(0:Int)) 0 last=last:=by
  funext q; unfold app; rw [if_neg (xnZ q),Nat.sub_zero]
 rw [e]
theorem wP (k:Nat→Int) (hk:In 256 32 k) (lp:Option Addr) (ll lc:Nat) (hll:ll≤32) (hln:lp=none→lc=0) (last:Nat→Int) (hla:In 256 ll last) (ip:Option Addr) (il ic:Nat) (hil:il≤140737488351232) (hin:ip=none→ic=0) (inf:Nat→Int) (hif:In 256 il inf) (c:Int) (hc:0≤c∧c<256) (w:World) (hg:BGlob w) (hsl:Src w lp ll last) (hsi:Src w ip il inf) :
 Calls Tryz.prog 127 #[(.agg (row .u8 32 (k)).toArray),.slice lp ll lc,.slice ip il ic,.int .u8 c] w fun e w'=>e=.returned (.agg (row .u8 32 (yD 32 k (ll+il+1) (knx ll last il inf c))).toArray)∧Below w.heap.size w w':=by
 have K:=Kr.init w; replace K:=K.box .u8 32 k 23 (w.heap.size) rfl; replace K:=K.make 32 jY 23 (w.heap.size+1) Jf (jK _ _ _ Jf).there
 go_enter Tryz.func127,Tryz.ntmps127
 go_upto_region 1 with fail; generalize ((w.alloc (.cells (row .u8 32 k).toArray 23)).alloc (.cells jY 23))=w0 at K ⊢; refine hdG K ?_; clear K; intro K; generalize w0.drew=w1 at K ⊢
 refine xqH 0 9 rfl (.slice (some ⟨w.heap.size,0,none⟩) 32 32) Uq K ?_; refine xmH 1 10 K ?_; refine xmH 2 11 K ?_; refine xmH 3 12 K ?_; have H1:=(Has.new w1 .u8 1 (fun _=>c) 5 w1.heap.size rfl).src0
 replace K:=K.call ((Below.refl w1.heap.size w1).alloc (xnR _) (.cells #[.int .u8 c] 5)); refine rY (i:=4) (w':=w1.alloc (.cells #[.int .u8 c] 5)) (some 13) rfl (.slice (some ⟨w1.heap.size,0,none⟩) 1 1) JU rfl rfl JU K ?_; simp only [aP,lI,l0,lS]
 have HC:=j7i (w1.alloc (.cells #[.int .u8 c] 5)).heap.size lp ip (some ⟨w1.heap.size,0,none⟩) ll il 1 lc ic 1 last inf (fun _=>c) 32 rfl (hsl.below K.below (xnR _)) (hsi.below K.below (xnR _)) H1 hln hin Jq; generalize w1.alloc (.cells #[.int .u8 c] 5)=w2 at K HC ⊢; clear H1
 replace K:=K.call ((Below.refl w2.heap.size w2).alloc (xnR _) (.cells #[.slice lp ll lc,.slice ip il ic,.slice (some ⟨w1.heap.size,0,none⟩) 1 1] 32)); refine rY (i:=5) (w':=w2.alloc (.cells #[.slice lp ll lc,.slice ip il ic,.slice (some ⟨w1.heap.size,0,none⟩) 1 1] 32)) (some 14) rfl (.slice (some ⟨w2.heap.size,0,none⟩) 3 3) JU rfl rfl JU K ?_
 simp only [aP,lI,l0,lS]; generalize (w2.alloc (.cells #[.slice lp ll lc,.slice ip il ic,.slice (some ⟨w1.heap.size,0,none⟩) 1 1] 32))=w3 at K HC ⊢; refine yaH 6 15 (vK ⟨w2.heap.size,0,none⟩ 3 3 _ _ _ _ JG (by rw [j9y]; omega) _ HC) ?_; rintro e w4 ⟨v,rfl,O,l⟩; replace K:=K.call l; clear l HC
 rw [j9y] at O
 replace O:=O.congr (fun j _=>x5t ll last il inf c j)
 obtain ⟨p3,c3,rfl,hc3,S3⟩:=O.bytes
 have hn3:=O.nilCap; clear O
 refine ⟨_,rfl,K,nH ?_⟩
 refine yaH 7 16 (j4t (some ⟨w.heap.size,0,none⟩) 32 32 JG JG Jq k hk p3 (ll+il+1) c3 JK hc3 hn3 _ (x2x ll last il inf c hla hif hc) _ (hg.below K.below hg.size) (K.get _ _ _ _ mS).src0 S3) ?_; rintro e w5 ⟨rfl,l⟩; replace K:=K.call l
 clear l S3
 refine ⟨_,rfl,K,nH ?_⟩
 have hz':=(K.room _ mS).1
 refine xX (i:=8) none rfl .u8 32 (yD 32 k (ll+il+1) (knx ll last il inf c)) (w.heap.size+1) 23 _ _ JU rfl rfl rfl rfl rfl (jM hz') (jV _) (K.fill _ _ mS _) ?_; simp only [Act.put]
 refine wE JU ?_ _
 have hB:=(K.fill _ _ mS (row .u8 32 (yD 32 k (ll+il+1) (knx ll last il inf c)))).below; clear K; generalize hGe:yD 32 k (ll+il+1) (knx ll last il inf c)=G at *; go_wp2
 exact bRq (v:=(.agg (row .u8 32 (G)).toArray)) (jQ Tryz.results127 rfl (Has.all hz' .u8 G).range Tryz.underlying23 rfl (jJ G)) rfl ⟨by first | rfl | rw [hGe] | (rw [← hGe]; done),hB⟩
theorem j1w (kp:Option Addr) (kl kc:Nat) (hkl:kl≤140737488355072) (hkc:kl≤kc) (hkn:kp=none→kc=0) (key:Nat→Int) (hk:In 256 kl key) (sp:Option Addr) (len cap:Nat) (hlen:len≤140737488354816) (hcap:len≤cap) (hn0:sp=none→cap=0) (z:Nat→Int) (hz:In 256 len z) (w:World) (hg:BGlob w) (hks:Src w kp kl key) (hs:Src w sp len z) :
 Calls Tryz.prog 126 #[.slice kp kl kc,.slice sp len cap] w fun e w'=>e=.returned (.agg (row .u8 32 (yD kl key len z)).toArray)∧Below w.heap.size w w':=by
 have K:=Kr.init w; replace K:=K.make 32 jY 23 (w.heap.size) rfl (jK _ _ _ rfl).there
 go_enter Tryz.func126,Tryz.ntmps126
 go_upto_region 1 with fail; generalize (w.alloc (.cells jY 23))=w0 at K ⊢; refine wR (xm2 ?_); refine clT (j4t kp kl kc hkl hkc hkn key hk sp len cap hlen hcap hn0 z hz _ (hg.below K.below hg.size) (hks.below K.below (xnR _)) (hs.below K.below (xnR _))) K ?_; clear K; intro w1 K
 have hz':=(K.room _ mS).1
 refine ysL .u8 32 (yD kl key len z) (w.heap.size) (jM hz') (jV _) ?_; have hB:=(K.fill _ _ mS (row .u8 32 (yD kl key len z))).below; clear K; generalize hGe:yD kl key len z=G at *; show Exit.then _ _ _ _ _; go_wp2
 exact bRq (v:=(.agg (row .u8 32 (G)).toArray)) (jQ Tryz.results126 rfl (Has.all hz' .u8 G).range Tryz.underlying23 rfl (jJ G)) rfl ⟨by first | rfl | rw [hGe] | (rw [← hGe]; done),hB⟩
theorem eJ (k:Nat→Int) (hk:In 256 32 k) (sp:Option Addr) (len cap:Nat) (hlen:len≤140737488351232) (hcap:len≤cap) (hn0:sp=none→cap=0) (z:Nat→Int) (hz:In 256 len z) (w:World) (hg:BGlob w) (hs:Src w sp len z) :
 Calls Tryz.prog 106 #[(.agg (row .u8 32 (k)).toArray),.slice sp len cap] w fun e w'=>e=.returned (.tuple #[(.agg (row .u8 32 (kA k len z)).toArray),(.agg (row .u8 32 (kB k len z)).toArray)])∧Below w.heap.size w w':=by
 have K:=Kr.init w; replace K:=K.box .u8 32 k 23 (w.heap.size) rfl; replace K:=K.make 32 jY 23 (w.heap.size+1) Jf (jK _ _ _ Jf).there; replace K:=K.make 32 jY 23 (w.heap.size+1+1) Jf (jK _ _ _ Jf).there
 go_enter Tryz.func106,Tryz.ntmps106
 go_upto_region 1 with fail; generalize (((w.alloc (.cells (row .u8 32 k).toArray 23)).alloc (.cells jY 23)).alloc (.cells jY 23))=w0 at K ⊢; refine wR (xqL (.slice (some ⟨w.heap.size,0,none⟩) 32 32) Uq ?_); refine xmL ?_
 refine clT (j1w (some ⟨w.heap.size,0,none⟩) 32 32 JG JG Jq k hk sp len cap JK hcap hn0 z hz _ (hg.below K.below hg.size) (K.get _ _ _ _ mS).src0 (hs.below K.below (xnR _))) K ?_; clear K; intro w1 K; refine qH jY 23 rfl JW (nL ?_)
 refine ysL .u8 32 ((yD 32 k len z)) w1.heap.size (jM (jK _ _ _ rfl).there) (jV _) ?_; have zT:=K.size; replace K:=K.fresh .u8 32 ((yD 32 k len z)) jY 23 (jK _ _ _ rfl).there; generalize ((w1.alloc (.cells jY 23)).setCells w1.heap.size 0 (row .u8 32 ((yD 32 k len z))))=w2 at K ⊢
 generalize w1.heap.size=T at *; show Exit.then _ _ _ _ _; go_upto_region 2 with fail; refine wR (ykL .u8 32 ((yD 32 k len z)) (T) 0 Tryz.underlying23 (jJ _) ((K.get _ _ _ _ mS).range) ?_)
 refine xcL (wP (yD 32 k len z) (pE _ _ _ _ _) none 0 0 JG (fun _=>rfl) (fun _=>0) Ut none 0 0 JG (fun _=>rfl) (fun _=>0) Ut 1 JG _ (hg.below K.below hg.size) VJ VJ) ?_; rintro e w3 ⟨rfl,l⟩; replace K:=K.call l; clear l
 rw [show yD 32 (yD 32 k len z) (0+0+1) (knx 0 (fun _=>0) 0 (fun _=>0) 1)=kA k len z from rfl]
 refine xeL ?_; refine qH jY 23 rfl JW (nL ?_); refine ysL .u8 32 (kA k len z) w3.heap.size (jM (jK _ _ _ rfl).there) (jV _) ?_; have zA:=K.size; replace K:=K.fresh .u8 32 (kA k len z) jY 23 (jK _ _ _ rfl).there
 generalize ((w3.alloc (.cells jY 23)).setCells w3.heap.size 0 (row .u8 32 (kA k len z)))=w4 at K ⊢; generalize w3.heap.size=A at *; show Exit.then _ _ _ _ _; go_upto_region 3 with fail
 refine wD (S:=fun w'=>Kr w (A+1) [(A,.u8,32,kA k len z),(T,.u8,32,(yD 32 k len z)),(w.heap.size,.u8,32,k)] [(w.heap.size+1+1,32),(w.heap.size+1,32)] w') JU K.drew ?_; clear K; intro K
 refine ykH 0 13 .u8 32 (kA k len z) (A) 0 Tryz.underlying23 (jJ _) K (fun _ h=>(h.get _ _ _ _ mS).range) ?_
 refine ykH 1 14 .u8 32 ((yD 32 k len z)) (T) 0 Tryz.underlying23 (jJ _) K (fun _ h=>(h.get _ _ _ _ (mT _ mS)).range) ?_; refine xqH 2 15 rfl (.slice (some ⟨A,0,none⟩) 32 32) (fun w'=>yR _ _ _ _ rfl rfl (pU A w')) K ?_
 refine yaH 3 16 (wP (yD 32 k len z) (pE _ _ _ _ _) (some ⟨A,0,none⟩) 32 32 JG Jq (kA k len z) (j8w _ _ _ _ _) none 0 0 JG (fun _=>rfl) (fun _=>0) Ut 2 JG _ (hg.below K.below hg.size) (K.get _ _ _ _ mS).src0 VJ) ?_
 rintro e w5 ⟨rfl,l⟩; replace K:=K.call l; clear l
 rw [show yD 32 (yD 32 k len z) (32+0+1) (knx 32 (kA k len z) 0 (fun _=>0) 2)=kB k len z from rfl]
 refine ⟨_,rfl,K,nH ?_⟩
 have hz1:=(K.room _ (mT _ mS)).1; refine xX (i:=4) none rfl .u8 32 (kA k len z) (w.heap.size+1) 23 _ _ JU rfl rfl rfl rfl rfl (jM hz1) (jV _) (K.fill _ _ (mT _ mS) _) ?_; simp only [Act.put]; have HA:=Has.all hz1 .u8 (kA k len z); replace K:=K.fill _ _ (mT _ mS) (row .u8 32 (kA k len z))
 generalize w5.setCells (w.heap.size+1) 0 (row .u8 32 (kA k len z))=w6 at K HA ⊢; have hz2:=(K.room _ mS).1; refine xX (i:=5) none rfl .u8 32 (kB k len z) (w.heap.size+1+1) 23 _ _ JU rfl rfl rfl rfl rfl (jM hz2) (jV _) (K.fill _ _ mS _) ?_; simp only [Act.put]
 refine wE JU ?_ _
 replace HA:=HA.setAll_other (w.heap.size+1+1) JK 0 (row .u8 32 (kB k len z)); have HB:=Has.all hz2 .u8 (kB k len z); have hB:=(K.fill _ _ mS (row .u8 32 (kB k len z))).below; clear K hz1 hz2; generalize w6.setCells (w.heap.size+1+1) 0 (row .u8 32 (kB k len z))=w7 at HA HB hB ⊢; generalize hAe:kA k len z=fa at *; generalize hBe:kB k len z=fc at *; go_wp2
 exact bRq (v:=.tuple #[(.agg (row .u8 32 (fa)).toArray),(.agg (row .u8 32 (fc)).toArray)]) (mC Tryz.results106 rfl rfl HA.range HB.range Tryz.underlying23 Tryz.underlying23 rfl rfl (jJ fa) (jJ fc)) rfl ⟨by first | rfl | rw [hAe,hBe] | (rw [← hAe,← hBe]; done),hB⟩
def jA (s:Sym):List Value:=row .u8 32 s.h++(row .u8 32 s.c++(row .u8 32 s.k++[.bool s.has,.int .u64 (s.n:Int)]))
abbrev qF (v:Int) (s:Sym) (a:Nat→Int) (x:Value) (b:Nat→Int) (y:Value) (c d e f:Nat→Int) : List Value:=[[Value.int .i64 v],jA s,row .u8 32 a,[x],row .u8 32 b,[y],row .u8 32 c,row .u8 32 d,row .u8 32 e,row .u8 32 f].flatten
theorem yJ (s:Sym):(jA s).length=98:=by unfold jA; simp [jX]
theorem j8h (s:Sym):((jA s).drop 0).take (row .u8 32 s.h).length=row .u8 32 s.h:=by unfold jA; rw [List.drop_zero,List.take_left]
theorem q8h (s:Sym):((jA s).drop 32).take (row .u8 32 s.c).length=row .u8 32 s.c:=by unfold jA; rw [List.drop_left' (xY s.h),List.take_left]
theorem q8g (s:Sym):((jA s).drop 64).take (row .u8 32 s.k).length=row .u8 32 s.k:=by
 unfold jA
 rw [← List.append_assoc,List.drop_left' (by rw [List.length_append,xY,xY]),List.take_left]
theorem j6e (s:Sym) (j:Nat):(jA s)[96+j]?=[Value.bool s.has,.int .u64 (s.n:Int)][j]?:=by
 unfold jA
 exact Xy
theorem cK (s:Sym) (f:Nat→Int):vR (jA s) 0 (row .u8 32 f)=jA { s with h:=f }:=by
 unfold jA
 exact gU _ _ _ Ub
theorem j6d (s:Sym) (f:Nat→Int):vR (jA s) 32 (row .u8 32 f)=jA { s with c:=f }:=by
 unfold jA
 have:=gS (row .u8 32 s.h) (row .u8 32 f) (row .u8 32 s.c++(row .u8 32 s.k++[.bool s.has,.int .u64 (s.n:Int)])) 0
 rw [xY] at this
 rw [show (32:Nat)=32+0 from rfl,this,gU _ _ _ Ub]
theorem j6c (s:Sym) (f:Nat→Int):vR (jA s) 64 (row .u8 32 f)=jA { s with k:=f }:=by
 unfold jA
 have:=gS (row .u8 32 s.h++row .u8 32 s.c) (row .u8 32 f) (row .u8 32 s.k++[.bool s.has,.int .u64 (s.n:Int)]) 0
 exact XK
theorem j3q (s:Sym) (b:Bool):(jA s).set 96 (.bool b)=jA { s with has:=b }:=by
 unfold jA
 exact Qk
theorem j3p (s:Sym) (n:Nat):(jA s).set 97 (.int .u64 (n:Int))=jA { s with n:=n }:=by
 unfold jA
 exact Qk
theorem j5f (w0 w:World) (R:Nat) (l:List (Nat × List Value)) (s:Sym) (hg:SGlob w0) (hsw:SymW s) (sp:Option Addr) (cap:Nat) (b:List Int) (hlen:b.length≤140737488351248) (_:b.length≤cap) (hnil:sp=none→cap=0) (hb:Byts b) (M:Mm w0 ((R,jA s)::l) w) (hs:SrcA [R] w sp b.length (bl b)):Calls Tryz.prog 46 #[.pointer (some ⟨R,0,none⟩),.slice sp b.length cap] w fun e w'=>e=.returned (.tuple #[])∧Mm w0 ((R,jA (jU s b))::l) w'∧Off [R] w w':=by
 have hRw:=M.lt mS; have hR0:=M.below.size; have hwz:=xnR w.heap.size
 have _hML0:∀ p∈l,p.1<w.heap.size:=fun p hp=>(M.rows p (mT _ hp)).2.2
 have OF:=Off.refl [R] w
 go_enter Tryz.func46,Tryz.ntmps46
 go_upto_region 0 with fail; refine wR (xm2 ?_); refine xpL (.pointer (some ⟨R,0,none⟩)) ?_; refine xpL (.pointer (some ⟨R,0,none⟩)) ?_; refine xaL (.slice (some ⟨R,0,none⟩) 32 32) (yR 23 _ _ _ rfl rfl JU) ?_; refine xmL ?_
 have HC:=j7j w.heap.size (some ⟨R,0,none⟩) sp 32 b.length 32 cap s.h (bl b) 32 rfl (M.srcRow mS 0 32 _ (j8h s)) (hs.off OF).1 Jq hnil; have hlb:=(Below.refl w.heap.size w).alloc (xnR _) (.cells #[.slice (some ⟨R,0,none⟩) 32 32,.slice sp b.length cap] 32)
 refine xaL (w':=w.alloc (.cells #[.slice (some ⟨R,0,none⟩) 32 32,.slice sp b.length cap] 32)) (.slice (some ⟨w.heap.size,0,none⟩) 2 2) JU ?_; replace M:=M.call hlb; replace OF:=OF.below hlb; replace hwz:=xnT hwz hlb.size; clear hlb
 generalize w.alloc (.cells #[.slice (some ⟨R,0,none⟩) 32 32,.slice sp b.length cap] 32)=w1 at M HC hwz OF ⊢; generalize hC:w.heap.size=C at HC ⊢; clear hC; refine xcL (vK ⟨C,0,none⟩ 2 2 _ _ _ _ JG (by rw [j9z]; omega) _ HC) ?_; rintro e w2 ⟨v,rfl,hO,l⟩
 rw [j9z] at hO
 have N_2:NewF w2 w.heap.size (32+b.length) (app s.h 32 (bl b)) v:=NewF.of_own ((hO.congr fun j _=>q6a _ _ _ _ j).lower hwz)
 replace M:=M.call l; replace OF:=OF.below l; replace hwz:=xnT hwz l.size; clear l hO HC
 obtain ⟨p2,c2,rfl,hcc_2,hnn_2,_,_⟩:=id N_2
 refine xeL ?_
 have hzz:In 256 (32+b.length) (app s.h 32 (bl b)):=rX _ _ _ _ hsw.h hb.bl
 refine xcL (fX p2 _ c2 JK hcc_2 hnn_2 (app s.h 32 (bl b)) hzz _ (hg.mm M).b (NewF.src N_2)) ?_; rintro e w3 ⟨rfl,l1⟩; replace M:=M.call l1; replace OF:=OF.below l1; replace hwz:=xnT hwz l1.size; clear l1 hzz N_2 hcc_2 hnn_2; refine xeL ?_; refine xpL (.pointer (some ⟨R,0,none⟩)) ?_; refine xpL (.pointer (some ⟨R,0,none⟩)) ?_
 refine jG rfl (jC (row .u8 32 (jB (32+b.length) (app s.h 32 (bl b)))) R 0 23 _ _ rfl rfl rfl (M.thereP mS 0 32 (by rw [yJ]; decide)) JU (jT .u8 32 (jB (32+b.length) (app s.h 32 (bl b))))) ?_; simp only [Act.put]; replace M:=M.setPart (row .u8 32 (jB (32+b.length) (app s.h 32 (bl b)))) 0 (by rw [xY,yJ]; decide)
 rw [cK] at M
 replace OF:=OF.and1 ((Off.refl [R] _).setAll (b:=R) mS 0 (row .u8 32 (jB (32+b.length) (app s.h 32 (bl b))))) (.inl mS); generalize w3.setCells R 0 (row .u8 32 (jB (32+b.length) (app s.h 32 (bl b))))=w4 at M OF ⊢
 exact ⟨rfl,.tuple #[],by kernel_rfl,rfl,M,OF⟩
def pcz (n j i:Nat):Int:=if i<4 then 0 else if i-4<j then dig n (i-4) else 0
def pcl (n j:Nat):List Value:=[.int .u8 (pcz n j 0),.int .u8 (pcz n j 1),.int .u8 (pcz n j 2),.int .u8 (pcz n j 3),.int .u8 (pcz n j 4),.int .u8 (pcz n j 5),.int .u8 (pcz n j 6),.int .u8 (pcz n j 7),.int .u8 (pcz n j 8),.int .u8 (pcz n j 9),.int .u8 (pcz n j 10),.int .u8 (pcz n j 11)]
theorem q8i (n j:Nat) (hj:j<8):(pcl n j).set (4+j) (.int .u8 (dig n j))=pcl n (j+1):=by
 have:j=0∨j=1∨j=2∨j=3∨j=4∨j=5∨j=6∨j=7:=by omega
 rcases this with rfl | rfl | rfl | rfl | rfl | rfl | rfl | rfl <;> rfl
theorem rV (n:Nat) (w:World) :
 Calls Tryz.prog 89 #[.int .u64 (n:Int)] w fun e w'=>e=.returned (.agg (row .u8 12 (snz n)).toArray)∧Below w.heap.size w w':=by
 have M:=Mm.init w
 go_enter Tryz.func89,Tryz.ntmps89
 go_upto_region 0 with fail; refine wR (xaL (w':=w.alloc (.cells uP 96)) (.pointer (some ⟨w.heap.size,0,none⟩)) JU ?_)
 have hB_B1:w.heap.size≤w.heap.size:=M.below.size
 replace M:=M.box uP 96 w.heap.size rfl; generalize w.alloc (.cells uP 96)=w1 at M  ⊢; generalize eB:w.heap.size=B1 at M hB_B1  ⊢
 have hE_B1:w.heap.size≤B1:=Nat.le_of_eq eB
 have hF_B1:B1≤w.heap.size:=Nat.le_of_eq eB.symm
 clear eB
 refine xT ?_; go_upto_region 1 with fail; refine wR (xaL (w':=w1.alloc (.cells uP 96)) (.pointer (some ⟨w1.heap.size,0,none⟩)) JU ?_)
 have hB_B2:w.heap.size≤w1.heap.size:=M.below.size
 replace M:=M.box uP 96 w1.heap.size rfl; generalize w1.alloc (.cells uP 96)=w2 at M  ⊢; generalize eB:w1.heap.size=B2 at M hB_B2  ⊢
 have hE_B2:w1.heap.size≤B2:=Nat.le_of_eq eB
 have hF_B2:B2≤w1.heap.size:=Nat.le_of_eq eB.symm
 clear eB
 refine xT ?_; go_upto_region 2 with fail; refine wR (xmL ?_); refine xT ?_; have HI:=show Hid _ from (show Mm w ([(B2,pcl n 0),(B1,[.int .u8 0,.int .u8 0,.int .u8 0,.int .u8 0,.int .u8 0,.int .u8 0,.int .u8 0,.int .u8 0,.int .u8 0,.int .u8 0,.int .u8 0,.int .u8 0])]) w2 from M); clear M; go_wp2
 go_loopw [5] (fun i w'=>∃ j:Nat,j≤8∧i=.int .i64 (j:Int)∧Mm w ([(B2,pcl n j),(B1,[.int .u8 0,.int .u8 0,.int .u8 0,.int .u8 0,.int .u8 0,.int .u8 0,.int .u8 0,.int .u8 0,.int .u8 0,.int .u8 0,.int .u8 0,.int .u8 0])]) w') (fun i _=>8-(intOf i).toNat)
 case atStart=>exact ⟨0,Nat.zero_le _,rfl,HI.out⟩
 case round =>
  clear HI; obtain ⟨j,hj,rfl,M⟩:=hrel; by_cases hlt:j<8
  · go_upto_region 3 with fail; refine wR (xaL (.bool true) (gP .i64 _ _ _ _ _ _ rfl rfl rfl true (decide_eq_true JK) _) ?_); refine xT ?_; go_upto_region 4 with fail; refine wR (xm2 ?_); refine xT ?_; go_upto_region 5 with fail; refine wR (xmL ?_); refine xaL (.int .i64 ((4+j:Nat):Int)) (vM .i64 _ _ _ _ _ _ _ rfl rfl rfl Yj _) ?_; refine xm2 ?_; refine xaL (.int .i64 ((8*j:Nat):Int)) (aM .i64 _ _ _ _ _ _ _ rfl rfl rfl Yj _) ?_; refine xaL (.int .u64 ((n/256^j:Nat):Int)) (q0f .u64 .i64 _ _ _ _ _ _ _ rfl rfl rfl JK (j2c n j JK) _) ?_; refine xaL (.int .u8 (dig n j)) (mZ .u64 .u8 _ _ _ _ _ rfl JU Tryz.underlying5 JU rfl (by rw [IntKind.wrap_u8]; unfold dig; omega) _) ?_; refine xaL (.pointer (some ⟨B2,0+(4+j),none⟩)) (uD 96 5 12 .i64 B2 0 (4+j) _ _ Tryz.underlying96 JW JK rfl rfl rfl _) ?_; have hj12:4+j<(pcl n j).length:=by show 4+j<12; omega
    rw [nZ]; refine jG rfl (xR (.int .u8 (dig n j)) B2 (4+j) 5 _ _ rfl rfl rfl rfl rfl (M.isSome mS (4+j) hj12) (M.free mS (4+j) hj12) JU) ?_; simp only [Act.put]; replace M:=M.set (4+j) hj12 (.int .u8 (dig n j)); rw [q8i n j hlt] at M; clear hj12; generalize wr.setCell ⟨B2,4+j,none⟩ (.int .u8 (dig n j))=w3 at M ⊢; refine xT ?_; have HS:=show Hid _ from M; clear M; exact Qp
  obtain rfl:j=8:=by omega
  go_upto_region 3 with fail; refine wR (xaL (.bool false) (gP .i64 _ _ _ _ _ _ rfl rfl rfl false JG _) ?_); refine xT ?_; go_upto_region 7 with fail; refine wR ?_; refine xaL (.agg #[.int .u8 (pcz n 8 0),.int .u8 (pcz n 8 1),.int .u8 (pcz n 8 2),.int .u8 (pcz n 8 3),.int .u8 (pcz n 8 4),.int .u8 (pcz n 8 5),.int .u8 (pcz n 8 6),.int .u8 (pcz n 8 7),.int .u8 (pcz n 8 8),.int .u8 (pcz n 8 9),.int .u8 (pcz n 8 10),.int .u8 (pcz n 8 11)]) (jD 96 _ ⟨B2,0,none⟩ [.int .u8 (pcz n 8 0),.int .u8 (pcz n 8 1),.int .u8 (pcz n 8 2),.int .u8 (pcz n 8 3),.int .u8 (pcz n 8 4),.int .u8 (pcz n 8 5),.int .u8 (pcz n 8 6),.int .u8 (pcz n 8 7),.int .u8 (pcz n 8 8),.int .u8 (pcz n 8 9),.int .u8 (pcz n 8 10),.int .u8 (pcz n 8 11)] rfl rfl JW JW (M.rangeAt mS)) ?_; replace M:=M.swap; refine jG rfl (jC [.int .u8 (pcz n 8 0),.int .u8 (pcz n 8 1),.int .u8 (pcz n 8 2),.int .u8 (pcz n 8 3),.int .u8 (pcz n 8 4),.int .u8 (pcz n 8 5),.int .u8 (pcz n 8 6),.int .u8 (pcz n 8 7),.int .u8 (pcz n 8 8),.int .u8 (pcz n 8 9),.int .u8 (pcz n 8 10),.int .u8 (pcz n 8 11)] B1 0 96 _ _ rfl rfl rfl (M.thereP mS 0 12 (nB rfl)) JU (List.all_eq_true.1 (rfl:([.int .u8 (pcz n 8 0),.int .u8 (pcz n 8 1),.int .u8 (pcz n 8 2),.int .u8 (pcz n 8 3),.int .u8 (pcz n 8 4),.int .u8 (pcz n 8 5),.int .u8 (pcz n 8 6),.int .u8 (pcz n 8 7),.int .u8 (pcz n 8 8),.int .u8 (pcz n 8 9),.int .u8 (pcz n 8 10),.int .u8 (pcz n 8 11)]:List Value).all (fun u=>u.oneCell')=true))) ?_; simp only [Act.put]; replace M:=M.setPart [.int .u8 (pcz n 8 0),.int .u8 (pcz n 8 1),.int .u8 (pcz n 8 2),.int .u8 (pcz n 8 3),.int .u8 (pcz n 8 4),.int .u8 (pcz n 8 5),.int .u8 (pcz n 8 6),.int .u8 (pcz n 8 7),.int .u8 (pcz n 8 8),.int .u8 (pcz n 8 9),.int .u8 (pcz n 8 10),.int .u8 (pcz n 8 11)] 0 (nB rfl); generalize wr.setCells B1 0 [.int .u8 (pcz n 8 0),.int .u8 (pcz n 8 1),.int .u8 (pcz n 8 2),.int .u8 (pcz n 8 3),.int .u8 (pcz n 8 4),.int .u8 (pcz n 8 5),.int .u8 (pcz n 8 6),.int .u8 (pcz n 8 7),.int .u8 (pcz n 8 8),.int .u8 (pcz n 8 9),.int .u8 (pcz n 8 10),.int .u8 (pcz n 8 11)]=w4 at M  ⊢; refine xT ?_; have c1_:=M.part mS 0 (row .u8 12 (snz n)) rfl; have hbel:=M.below; clear M; go_wp2; refine bRq (v:=.agg (row .u8 12 (snz n)).toArray) (rL 2 96 ⟨B1,0,none⟩ (row .u8 12 (snz n)) rfl rfl JW JW c1_) rfl ?_; exact ⟨rfl,hbel⟩
def pcx (v0:Value) (ps:List (List Value)) (s:Sym):List Value:=([v0]::jA s::ps).flatten
theorem j6b (v0:Value) (ps:List (List Value)) (s:Sym):pcx v0 ps s=v0::(jA s++ps.flatten):=rfl
theorem j8g (v0:Value) (ps:List (List Value)) (s:Sym):(pcx v0 ps s).length=99+ps.flatten.length:=by rw [j6b,List.length_cons,List.length_append,yJ]; omega
theorem pX (v0:Value) (ps:List (List Value)) (s:Sym) (o:Nat) (r:List Value) (h:((jA s).drop o).take r.length=r) (hl:o+r.length≤98):((pcx v0 ps s).drop (o+1)).take r.length=r:=by
 rw [j6b,List.drop_succ_cons,List.drop_append_of_le_length (by rw [yJ]; omega),List.take_append_of_le_length (by rw [List.length_drop,yJ]; omega)]
 exact h
theorem q3r (v0:Value) (ps:List (List Value)) (s:Sym):((pcx v0 ps s).drop 1).take (row .u8 32 s.h).length=row .u8 32 s.h:=pX v0 ps s 0 _ (j8h s) Uv
theorem x0k (v0:Value) (ps:List (List Value)) (s:Sym):((pcx v0 ps s).drop 33).take (row .u8 32 s.c).length=row .u8 32 s.c:=pX v0 ps s 32 _ (q8h s) Uv
theorem x4p (v0:Value) (ps:List (List Value)) (s:Sym):((pcx v0 ps s).drop 65).take (row .u8 32 s.k).length=row .u8 32 s.k:=pX v0 ps s 64 _ (q8g s) Uv
theorem q8f (v0:Value) (ps:List (List Value)) (s:Sym):((pcx v0 ps s).drop 1).take (jA s).length=jA s:=pX v0 ps s 0 _ Jd (by rw [yJ]; decide)
theorem mW (v0:Value) (ps:List (List Value)) (s:Sym) (j:Nat) (hj:j<2:=by decide):(pcx v0 ps s)[97+j]?=[Value.bool s.has,.int .u64 (s.n:Int)][j]?:=by
 rw [j6b,show 97+j=(96+j)+1 by omega,List.getElem?_cons_succ,List.getElem?_append_left (by rw [yJ]; omega),j6e]
theorem j2x:∀ (ds x z:List Value) (o:Nat),o+ds.length≤x.length→vR (x++z) o ds=vR x o ds++z
 | [],_,_,_,_=>rfl
 | d::ds,x,z,o,h=>by
   rw [List.length_cons] at h
   show vR ((x++z).set o d) (o+1) ds=vR (x.set o d) (o+1) ds++z
   rw [List.set_append_left _ _ JK,j2x ds (x.set o d) z (o+1) (by rw [List.length_set]; omega)]
theorem mE (v0:Value) (ps:List (List Value)) (s t:Sym) (o:Nat) (ds:List Value) (h:vR (jA s) o ds=jA t) (hl:o+ds.length≤98):vR (pcx v0 ps s) (o+1) ds=pcx v0 ps t:=by
 have:=gS [v0] ds (jA s++ps.flatten) o
 rw [j2x ds (jA s) ps.flatten o (by rw [yJ]; exact hl),h] at this
 rw [Nat.add_comm o 1]
 exact this
theorem q3p (v0:Value) (ps:List (List Value)) (s:Sym) (f:Nat→Int):vR (pcx v0 ps s) 1 (row .u8 32 f)=pcx v0 ps { s with h:=f }:=mE v0 ps s _ 0 _ (cK s f) Uv
theorem q3q (v0:Value) (ps:List (List Value)) (s:Sym) (f:Nat→Int):vR (pcx v0 ps s) 33 (row .u8 32 f)=pcx v0 ps { s with c:=f }:=mE v0 ps s _ 32 _ (j6d s f) Uv
theorem q3o (v0:Value) (ps:List (List Value)) (s:Sym) (f:Nat→Int):vR (pcx v0 ps s) 65 (row .u8 32 f)=pcx v0 ps { s with k:=f }:=mE v0 ps s _ 64 _ (j6c s f) Uv
theorem q0r (v0:Value) (ps:List (List Value)) (s:Sym) (b:Bool):(pcx v0 ps s).set 97 (.bool b)=pcx v0 ps { s with has:=b }:=mE v0 ps s _ 96 [.bool b] (j3q s b) (Nat.le_of_ble_eq_true rfl)
theorem dP (v0:Value) (ps:List (List Value)) (s:Sym) (n:Nat):(pcx v0 ps s).set 98 (.int .u64 (n:Int))=pcx v0 ps { s with n:=n }:=mE v0 ps s _ 97 [.int .u64 (n:Int)] (j3p s n) (Nat.le_of_ble_eq_true rfl)
theorem gG (w0 w:World) (R:Nat) (l:List (Nat × List Value)) (v0:Value) (ps:List (List Value)) (s:Sym) (hg:SGlob w0) (hsw:SymW s) (sp:Option Addr) (cap:Nat) (b:List Int) (hlen:b.length≤140737488351248) (_:b.length≤cap) (hnil:sp=none→cap=0) (hb:Byts b) (M:Mm w0 ((R,pcx v0 ps s)::l) w) (hs:Src w sp b.length (bl b)):Calls Tryz.prog 46 #[.pointer (some ⟨R,1,none⟩),.slice sp b.length cap] w fun e w'=>e=.returned (.tuple #[])∧Mm w0 ((R,pcx v0 ps (jU s b))::l) w'∧Off [R] w w':=by
 have hRw:=M.lt mS; have hR0:=M.below.size; have hwz:=xnR w.heap.size; have OF:=Off.refl [R] w
 go_enter Tryz.func46,Tryz.ntmps46
 go_upto_region 0 with fail; refine wR (xm2 ?_); refine xpL (.pointer (some ⟨R,1,none⟩)) ?_; refine xpL (.pointer (some ⟨R,1,none⟩)) ?_; refine xaL (.slice (some ⟨R,1,none⟩) 32 32) (yR 23 _ _ _ rfl rfl JU) ?_; refine xmL ?_
 have HC:=j7j w.heap.size (some ⟨R,1,none⟩) sp 32 b.length 32 cap s.h (bl b) 32 rfl (M.srcRow mS 1 32 _ (q3r v0 ps s)) hs Jq hnil; have hlb:=(Below.refl w.heap.size w).alloc (xnR _) (.cells #[.slice (some ⟨R,1,none⟩) 32 32,.slice sp b.length cap] 32)
 refine xaL (w':=w.alloc (.cells #[.slice (some ⟨R,1,none⟩) 32 32,.slice sp b.length cap] 32)) (.slice (some ⟨w.heap.size,0,none⟩) 2 2) JU ?_; replace M:=M.call hlb; replace hs:=hs.below hlb (xnR _); replace OF:=OF.below hlb; replace hwz:=xnT hwz hlb.size; clear hlb
 generalize w.alloc (.cells #[.slice (some ⟨R,1,none⟩) 32 32,.slice sp b.length cap] 32)=w1 at M HC hwz OF hs ⊢; generalize hC:w.heap.size=C at HC ⊢; clear hC; refine xcL (vK ⟨C,0,none⟩ 2 2 _ _ _ _ JG (by rw [j9z]; omega) _ HC) ?_; rintro e w2 ⟨v,rfl,hO,l⟩
 rw [j9z] at hO
 have N_2:NewF w2 w.heap.size (32+b.length) (app s.h 32 (bl b)) v:=NewF.of_own ((hO.congr fun j _=>q6a _ _ _ _ j).lower hwz)
 replace M:=M.call l; replace hs:=hs.below l (xnR _); replace OF:=OF.below l; replace hwz:=xnT hwz l.size; clear l hO HC
 obtain ⟨p2,c2,rfl,hcc_2,hnn_2,_,_⟩:=id N_2
 refine xeL ?_
 have hzz:In 256 (32+b.length) (app s.h 32 (bl b)):=rX _ _ _ _ hsw.h hb.bl
 refine xcL (fX p2 _ c2 JK hcc_2 hnn_2 (app s.h 32 (bl b)) hzz _ (hg.mm M).b (NewF.src N_2)) ?_; rintro e w3 ⟨rfl,l1⟩; replace M:=M.call l1; replace hs:=hs.below l1 (xnR _); replace OF:=OF.below l1; replace hwz:=xnT hwz l1.size; clear l1 hzz N_2 hcc_2 hnn_2; refine xeL ?_; refine xpL (.pointer (some ⟨R,1,none⟩)) ?_; refine xpL (.pointer (some ⟨R,1,none⟩)) ?_
 refine jG rfl (jC (row .u8 32 (jB (32+b.length) (app s.h 32 (bl b)))) R 1 23 _ _ rfl rfl rfl (M.thereP mS 1 32 YK) JU (jT .u8 32 (jB (32+b.length) (app s.h 32 (bl b))))) ?_; simp only [Act.put]; replace M:=M.setPart (row .u8 32 (jB (32+b.length) (app s.h 32 (bl b)))) 1 GZ
 rw [q3p] at M
 clear hs; replace OF:=OF.and1 ((Off.refl [R] _).setAll (b:=R) mS 1 (row .u8 32 (jB (32+b.length) (app s.h 32 (bl b))))) (.inl mS); generalize w3.setCells R 1 (row .u8 32 (jB (32+b.length) (app s.h 32 (bl b))))=w4 at M OF ⊢
 exact ⟨rfl,.tuple #[],by kernel_rfl,rfl,M,OF⟩
theorem j5g (w0 w:World) (R:Nat) (l:List (Nat × List Value)) (v0:Value) (ps:List (List Value)) (s:Sym) (hg:SGlob w0) (hsw:SymW s) (sp:Option Addr) (cap:Nat) (b:List Int) (hlen:b.length≤140737488351232) (hcap:b.length≤cap) (hnil:sp=none→cap=0) (hb:Byts b) (M:Mm w0 ((R,pcx v0 ps s)::l) w) (hs:Src w sp b.length (bl b)):Calls Tryz.prog 86 #[.pointer (some ⟨R,1,none⟩),.slice sp b.length cap] w fun e w'=>e=.returned (.tuple #[])∧Mm w0 ((R,pcx v0 ps (jZ s b))::l) w'∧Off [R] w w':=by
 have hRw:=M.lt mS; have hR0:=M.below.size; have hwz:=xnR w.heap.size; have OF:=Off.refl [R] w
 go_enter Tryz.func86,Tryz.ntmps86
 go_upto_region 0 with fail; refine wR (xm3 ?_); refine xpL (.pointer (some ⟨R,1,none⟩)) ?_; refine xpL (.pointer (some ⟨R,33,none⟩)) ?_
 refine xaL (.agg (row .u8 32 s.c).toArray) (jD 23 _ ⟨R,33,none⟩ (row .u8 32 s.c) rfl rfl JW JH (M.part mS 33 _ (x0k v0 ps s))) ?_; refine xmL ?_; refine xcL (eJ s.c hsw.c sp b.length cap hlen hcap hnil (bl b) hb.bl _ (hg.mm M).b hs) ?_; rintro e w1 ⟨rfl,l1⟩; replace M:=M.call l1
 replace hs:=hs.below l1 (xnR _); replace OF:=OF.below l1; replace hwz:=xnT hwz l1.size; clear l1; refine xeL ?_; refine xm3 ?_
 refine xpL (.pointer (some ⟨R,1,none⟩)) ?_; refine xpL (.pointer (some ⟨R,33,none⟩)) ?_; refine jG rfl (jC (row .u8 32 (kA s.c b.length (bl b))) R 33 23 _ _ rfl rfl rfl (M.thereP mS 33 32 YK) JU (jT .u8 32 (kA s.c b.length (bl b)))) ?_; simp only [Act.put]
 replace M:=M.setPart (row .u8 32 (kA s.c b.length (bl b))) 33 GZ
 rw [q3q] at M
 clear hs; replace OF:=OF.and1 ((Off.refl [R] _).setAll (b:=R) mS 33 (row .u8 32 (kA s.c b.length (bl b)))) (.inl mS); generalize w1.setCells R 33 (row .u8 32 (kA s.c b.length (bl b)))=w2 at M OF ⊢
 refine xpL (.pointer (some ⟨R,1,none⟩)) ?_; refine xpL (.pointer (some ⟨R,65,none⟩)) ?_; refine jG rfl (jC (row .u8 32 (kB s.c b.length (bl b))) R 65 23 _ _ rfl rfl rfl (M.thereP mS 65 32 YK) JU (jT .u8 32 (kB s.c b.length (bl b)))) ?_; simp only [Act.put]
 replace M:=M.setPart (row .u8 32 (kB s.c b.length (bl b))) 65 GZ
 rw [q3o] at M
 replace OF:=OF.and1 ((Off.refl [R] _).setAll (b:=R) mS 65 (row .u8 32 (kB s.c b.length (bl b)))) (.inl mS); generalize w2.setCells R 65 (row .u8 32 (kB s.c b.length (bl b)))=w3 at M OF ⊢
 refine xT ?_; go_upto_region 1 with fail; refine wR (xm2 ?_); refine xpL (.pointer (some ⟨R,1,none⟩)) ?_; refine xpL (.pointer (some ⟨R,97,none⟩)) ?_
 refine jG rfl (xR (.bool true) R 97 4 _ _ rfl rfl rfl rfl rfl (M.isSome mS 97 YK) (M.free mS 97 YK) JU) ?_; simp only [Act.put]; replace M:=M.set 97 YK (.bool true)
 rw [q0r] at M
 replace OF:=OF.and1 ((Off.refl [R] _).set (b:=R) mS 97 (.bool true)) (.inl mS); generalize w3.setCell ⟨R,97,none⟩ (.bool true)=w4 at M OF ⊢
 refine xpL (.pointer (some ⟨R,1,none⟩)) ?_; refine xpL (.pointer (some ⟨R,98,none⟩)) ?_; refine jG rfl (xR (.int .u64 0) R 98 54 _ _ rfl rfl rfl rfl rfl (M.isSome mS 98 YK) (M.free mS 98 YK) JU) ?_; simp only [Act.put]; replace M:=M.set 98 YK (.int .u64 0)
 rw [show (.int .u64 0:Value)=.int .u64 ((0:Nat):Int) from rfl,dP] at M
 replace OF:=OF.and1 ((Off.refl [R] _).set (b:=R) mS 98 (.int .u64 0)) (.inl mS); generalize w4.setCell ⟨R,98,none⟩ (.int .u64 0)=w5 at M OF ⊢
 exact ⟨rfl,.tuple #[],by kernel_rfl,rfl,M,OF⟩
theorem j0j (w0 w:World) (R:Nat) (l:List (Nat × List Value)) (v0:Value) (ps:List (List Value)) (s:Sym) (hg:SGlob w0) (hsw:SymW s) (M:Mm w0 ((R,pcx v0 ps s)::l) w) :
 Calls Tryz.prog 85 #[.pointer (some ⟨R,1,none⟩)] w fun e w'=>e=.returned (.tuple #[(.agg (row .u8 32 (kA s.c 0 (bl []))).toArray),(.agg (row .u8 32 (kB s.c 0 (bl []))).toArray)])∧Below w.heap.size w w':=by
 have OF:=Off.refl [] w; have hb0:=M.below
 go_enter Tryz.func85,Tryz.ntmps85
 go_upto_region 0 with fail; refine wR ?_; have hz0_:=OF.size; refine xaL (w':=w.alloc (.cells jY 23)) (.pointer (some ⟨w.heap.size,0,none⟩)) JU ?_; have hlb:=(Below.refl w.heap.size w).alloc (xnR _) (.cells jY 23); replace OF:=OF.below hlb; clear hlb
 have hB_B1:w0.heap.size≤w.heap.size:=M.below.size
 replace M:=M.box jY 23 w.heap.size rfl; generalize w.alloc (.cells jY 23)=w1 at M OF ⊢; generalize eB:w.heap.size=B1 at M hB_B1  ⊢
 have hE_B1:w.heap.size≤B1:=Nat.le_of_eq eB
 have hF_B1:B1≤w.heap.size:=Nat.le_of_eq eB.symm
 clear eB
 have hW_B1:w.heap.size≤B1:=by omega
 clear hz0_; have hz0_:=OF.size; refine xaL (w':=w1.alloc (.cells jY 23)) (.pointer (some ⟨w1.heap.size,0,none⟩)) JU ?_; have hlb:=(Below.refl w1.heap.size w1).alloc (xnR _) (.cells jY 23); replace OF:=OF.below hlb; clear hlb
 have hB_B2:w0.heap.size≤w1.heap.size:=M.below.size
 replace M:=M.box jY 23 w1.heap.size rfl; generalize w1.alloc (.cells jY 23)=w2 at M OF ⊢; generalize eB:w1.heap.size=B2 at M hB_B2  ⊢
 have hE_B2:w1.heap.size≤B2:=Nat.le_of_eq eB
 have hF_B2:B2≤w1.heap.size:=Nat.le_of_eq eB.symm
 clear eB
 have hW_B2:w.heap.size≤B2:=by omega
 clear hz0_; refine xT ?_; go_upto_region 1 with fail; refine wR (xmL ?_); refine xpL (.pointer (some ⟨R,1,none⟩)) ?_; refine xpL (.pointer (some ⟨R,33,none⟩)) ?_
 refine xaL (.agg (row .u8 32 s.c).toArray) (jD 23 _ ⟨R,33,none⟩ (row .u8 32 s.c) rfl rfl JW JH (M.part (mI 2 rfl) 33 _ (x0k v0 ps s))) ?_; refine xcL (eJ s.c hsw.c none 0 0 JG (xnR 0) (fun _=>rfl) (bl []) VJ _ (hg.mm M).b VJ) ?_; rintro e w3 ⟨rfl,l1⟩
 exact Qj
theorem yB (s:Sym):∀ u∈jA s,u.oneCell'=true:=fun u hu=>by
 unfold jA at hu
 rcases List.mem_append.1 hu with h | h
 · exact jT .u8 32 s.h u h
 rcases List.mem_append.1 h with h | h
 · exact jT .u8 32 s.c u h
 rcases List.mem_append.1 h with h | h
 · exact jT .u8 32 s.k u h
 rcases xc1 h with rfl | h
 · rfl
 obtain rfl:=xm1 h
 rfl
theorem j5e (w0 w:World) (l:List (Nat × List Value)) (hg:SGlob w0) (M:Mm w0 l w) :
 Calls Tryz.prog 45 #[] w fun e w'=>∃ Q,e=.returned (.pointer (some ⟨Q,0,none⟩))∧w.heap.size≤Q∧Mm w0 ((Q,jA uS)::l) w'∧Below w.heap.size w w':=by
 obtain ⟨f,hf⟩:∃ f,f=jB 33 (bl yH):=⟨_,rfl⟩
 rw [show uS=fR f by rw [hf]; rfl]
 have OF:=Off.refl [] w; have hb0:=M.below
 go_enter Tryz.func45,Tryz.ntmps45
 go_upto_region 0 with fail; refine wp_region_list ?_; refine xpL (.pointer none) (xT ?_); go_upto_region 1 with fail; refine wp_region_list ?_; refine sS (w':=w.alloc (.cells (row .u8 33 (bl yH)).toArray 5)) (.slice (some ⟨w.heap.size,0,none⟩) 33 33) rfl (by kernel_rfl) ?_; simp only [aP,lI,l0,lS]
 refine xaL (.slice (some ⟨w.heap.size,0,none⟩) 33 33) (gB 32 5 (row .u8 33 (bl yH)).toArray 33 33 _ rfl rfl Tryz.underlying32 Tryz.underlying5) ?_; have hsrc:=(eV w .u8 33 (bl yH) 5).src0; have hlb:=(Below.refl w.heap.size w).alloc (xnR _) (.cells (row .u8 33 (bl yH)).toArray 5 ((row .u8 33 (bl yH)).toArray.size,(row .u8 33 (bl yH)).toArray.size+1))
 replace M:=M.call hlb; replace OF:=OF.below hlb; clear hlb; generalize w.alloc (.cells (row .u8 33 (bl yH)).toArray 5 ((row .u8 33 (bl yH)).toArray.size,(row .u8 33 (bl yH)).toArray.size+1))=w1 at M hsrc OF ⊢; refine xcL (fX (some ⟨w.heap.size,0,none⟩) 33 33 (by decide) (by decide) (fun e=>by cases e) (bl yH) snoise_in.bl _ (hg.mm M).b hsrc) ?_
 rintro e w2 ⟨rfl,l1⟩; replace M:=M.call l1; replace OF:=OF.below l1; clear l1 hsrc
 rw [← hf]
 refine xeL ?_; have hz0_:=OF.size; refine sS (w':=w2.alloc (.cells jY 23)) (.pointer (some ⟨w2.heap.size,0,none⟩)) rfl (by kernel_rfl) ?_; simp only [aP,lI,l0,lS]; have hlb:=(Below.refl w2.heap.size w2).alloc (xnR _) (.cells jY 23); replace OF:=OF.below hlb; clear hlb
 have hB_B3:w0.heap.size≤w2.heap.size:=M.below.size
 replace M:=M.box jY 23 w2.heap.size rfl; generalize w2.alloc (.cells jY 23)=w3 at M OF ⊢; generalize eB:w2.heap.size=B3 at M hB_B3  ⊢
 have hE_B3:w2.heap.size≤B3:=Nat.le_of_eq eB
 have hF_B3:B3≤w2.heap.size:=Nat.le_of_eq eB.symm
 clear eB
 replace M:Mm w0 ((B3,[.int .u8 0,.int .u8 0,.int .u8 0,.int .u8 0,.int .u8 0,.int .u8 0,.int .u8 0,.int .u8 0,.int .u8 0,.int .u8 0,.int .u8 0,.int .u8 0,.int .u8 0,.int .u8 0,.int .u8 0,.int .u8 0,.int .u8 0,.int .u8 0,.int .u8 0,.int .u8 0,.int .u8 0,.int .u8 0,.int .u8 0,.int .u8 0,.int .u8 0,.int .u8 0,.int .u8 0,.int .u8 0,.int .u8 0,.int .u8 0,.int .u8 0,.int .u8 0])::l) w3:=M
 have hW_B3:w.heap.size≤B3:=by omega
 clear hz0_; refine jG rfl (jC (row .u8 32 f) B3 0 23 _ _ rfl rfl rfl (M.thereP mS 0 32 (Nat.le_of_ble_eq_true rfl)) (by rw [List.size_toArray,xY]; kernel_rfl) (jT .u8 32 _)) ?_; simp only [Act.put]; replace M:=M.setAll (row .u8 32 f) (by rw [xY]; rfl); replace OF:=OF.and1 ((Off.refl [B3] _).setAll mS 0 (row .u8 32 f)) (.inr (by omega))
 generalize w3.setCells B3 0 (row .u8 32 f)=w4 at M OF ⊢; refine xT ?_; go_upto_region 2 with fail; refine wp_region_list ?_; refine xaL (.agg (row .u8 32 f).toArray) (jD 23 _ ⟨B3,0,none⟩ (row .u8 32 f) rfl rfl (fun _=>by kernel_rfl) (fun _=>by rw [xY]; kernel_rfl) (M.part mS 0 _ (by rw [List.drop_zero,List.take_length]))) ?_
 refine xaL (.agg (row .u8 32 f).toArray) (jD 23 _ ⟨B3,0,none⟩ (row .u8 32 f) rfl rfl (fun _=>by kernel_rfl) (fun _=>by rw [xY]; kernel_rfl) (M.part mS 0 _ (by rw [List.drop_zero,List.take_length]))) ?_; refine xpL (.agg (jA (fR f)).toArray) ?_; refine sS (w':=w4.alloc (.cells (jA (fR f)).toArray 56)) (.pointer (some ⟨w4.heap.size,0,none⟩)) rfl (by kernel_rfl) ?_
 simp only [aP,lI,l0,lS]
 have hW_B5:w.heap.size≤w4.heap.size:=OF.size
 replace OF:=OF.below ((Below.refl w4.heap.size w4).alloc (xnR _) (.cells (jA (fR f)).toArray 56)); replace M:=M.box (jA (fR f)).toArray 56 w4.heap.size rfl; generalize w4.alloc (.cells (jA (fR f)).toArray 56)=w5 at M OF ⊢; generalize w4.heap.size=B5 at M hW_B5 ⊢
 replace M:Mm w0 ((B5,jA (fR f))::(B3,row .u8 32 f)::l) w5:=M
 refine xpL (.pointer (some ⟨B5,0,none⟩)) (xT ?_); replace M:=M.drop2
 have hbel:Below w.heap.size w w5:=⟨M.below.os.trans hb0.os.symm,M.below.tape.trans hb0.tape.symm,M.below.output.trans hb0.output.symm,OF.size,fun b hb=>OF.blk b hb (fun h=>by cases h)⟩
 have HS:=show Hid _ from (And.intro hW_B5 (And.intro M hbel)); clear M OF hbel hW_B5; go_wp2; go_ret
 exact ⟨_,rfl,HS.out⟩
theorem mH (w0 w:World) (R:Nat) (l:List (Nat × List Value)) (v0:Value) (ps:List (List Value)) (s:Sym) (hg:SGlob w0) (hsw:SymW s) (hn:s.n<4611686018427387904) (sp:Option Addr) (cap:Nat) (b:List Int) (hlen:b.length≤140737488351232) (hcap:b.length≤cap) (hnil:sp=none→cap=0) (hb:Byts b) (M:Mm w0 ((R,pcx v0 ps s)::l) w) (hs:Src w sp b.length (bl b)):Calls Tryz.prog 59 #[.pointer (some ⟨R,1,none⟩),.slice sp b.length cap] w fun e w'=>(∃ v,e=.returned v∧vA w' w.heap.size (qG s b) v)∧Mm w0 ((R,pcx v0 ps (qN s b))::l) w'∧Off [R] w w':=by
 have hRw:=M.lt mS; have hR0:=M.below.size; have hwz:=xnR w.heap.size; have OF:=Off.refl [R] w
 go_enter Tryz.func59,Tryz.ntmps59
 go_upto_region 0 with fail; refine wR (xmL ?_); refine xT ?_; go_upto_region 1 with fail; refine wR (xmL ?_); refine xcL (j0c sp b.length cap JK hcap hnil (bl b) _ hs) ?_; rintro e w1 ⟨v,rfl,hO,l⟩
 have N_1:vA w1 w.heap.size b v:=NewF.of_own (hO.lower hwz)
 replace M:=M.call l; replace hs:=hs.below l (xnR _); replace OF:=OF.below l; replace hwz:=xnT hwz l.size; clear l hO
 obtain ⟨p1,c1,rfl,hcc_1,hnn_1,_,_⟩:=id N_1
 refine xeL ?_; refine xmL (xT ?_); go_upto_region 2 with fail; refine wR (xmL ?_); refine xpL (.pointer (some ⟨R,1,none⟩)) ?_; refine xpL (.pointer (some ⟨R,97,none⟩)) ?_; refine xaL _ (qL 4 _ _ _ rfl rfl JW (M.get mS 97 _ (mW v0 ps s 0))) ?_
 refine xT ?_
 cases hhas:s.has with
 | true =>
   go_upto_region 3 with fail; refine hdG M ?_; clear M; intro M; have hdr:=(Below.refl w1.heap.size w1).drew; replace hs:=hs.below hdr (xnR _); replace OF:=OF.below hdr; replace N_1:=NewF.below N_1 hdr; replace hwz:=xnT hwz hdr.size; clear hdr; generalize w1.drew=w2 at M hwz OF hs N_1 ⊢; refine xmH 0 12 M ?_; refine xrH 1 13 rfl (.pointer (some ⟨R,1,none⟩)) (fun _ M=>JU) M ?_; refine xrH 2 14 rfl (.pointer (some ⟨R,65,none⟩)) (fun _ M=>JU) M ?_; refine xrH 3 15 rfl (.agg (row .u8 32 s.k).toArray) KK M ?_; refine xmH 4 16 M ?_; refine xrH 5 17 rfl (.pointer (some ⟨R,1,none⟩)) (fun _ M=>JU) M ?_; refine xrH 6 18 rfl (.pointer (some ⟨R,98,none⟩)) (fun _ M=>JU) M ?_; refine xrH 7 19 rfl _ Wa M ?_; refine xmH 9 21 M ?_; refine xrH 10 22 rfl (.pointer (some ⟨R,1,none⟩)) (fun _ M=>JU) M ?_; refine xrH 11 23 rfl (.pointer (some ⟨R,1,none⟩)) (fun _ M=>JU) M ?_; refine xrH 12 24 rfl (.slice (some ⟨R,1,none⟩) 32 32) Uu M ?_; refine xmH 13 25 M ?_; refine yaH 8 20 (rV s.n _) ?_; rintro e w3 ⟨rfl,l⟩; replace M:=M.call l; replace hs:=hs.below l (xnR _); replace OF:=OF.below l; replace N_1:=NewF.below N_1 l; replace hwz:=xnT hwz l.size; clear l; refine ⟨_,rfl,M,nH ?_⟩; refine yaH 14 26 (q1v s.k (snz s.n) hsw.k (j0t s.n) (some ⟨R,1,none⟩) 32 32 JG JG Jq s.h hsw.h sp b.length cap hlen hcap hnil (bl b) hb.bl _ (hg.mm M).a (M.srcRow mS 1 32 _ (q3r v0 ps s)) hs) ?_; rintro e w4 ⟨B',c4,rfl,⟨hcc_4,hB1,hB2,HA⟩,l⟩; replace M:=M.call l; have N_4:vA w4 w.heap.size (qG s b) (.slice (some ⟨B',0,none⟩) (b.length+16) c4):=by
    unfold vA; rw [zD,if_pos hhas]; exact (NewF.of_has HA hcc_4 (xnT hwz hB1) hB2).congr (fun j hj=>(lT hhas b j hj).symm)
   replace hs:=hs.below l (xnR _); replace OF:=OF.below l; replace N_1:=NewF.below N_1 l; replace hwz:=xnT hwz l.size; clear l HA hB1 hB2; have hol:b.length+16=(qG s b).length:=by rw [zD,if_pos hhas]
   rw [hol] at N_4 hcc_4 ⊢; clear hol; refine ⟨_,rfl,M,nH ?_⟩; refine xmH 15 5 M ?_; refine wE JU ?_ _
   first | show Exit.then _ _ _ _ _ | show Exit.inBlock _ _ _ _ _
   clear N_1; go_upto_region 4 with fail; refine wR (xmL ?_); refine xpL (.pointer (some ⟨R,1,none⟩)) ?_; refine xpL (.pointer (some ⟨R,98,none⟩)) ?_; refine xaL _ (qL 54 _ _ _ rfl rfl JW (M.get mS 98 _ (mW v0 ps s 1))) ?_; refine xaL (.int .u64 ((s.n+1:Nat):Int)) (vM .u64 _ _ _ _ _ _ _ rfl rfl rfl Kp _) ?_; refine xpL (.pointer (some ⟨R,1,none⟩)) ?_; refine xpL (.pointer (some ⟨R,98,none⟩)) ?_; refine jG rfl (xR (.int .u64 ((s.n+1:Nat):Int)) R 98 54 _ _ rfl rfl rfl rfl rfl (M.isSome mS 98 YK) (M.free mS 98 YK) JU) ?_; simp only [Act.put]; replace M:=M.set 98 YK (.int .u64 ((s.n+1:Nat):Int)); rw [show (.int .u64 ((s.n+1:Nat):Int):Value)=.int .u64 ((s.n+1:Nat):Int) from rfl,dP] at M; clear hs; replace N_4:=NewF.off N_4 ((Off.refl [R] _).set (b:=R) mS 98 (.int .u64 ((s.n+1:Nat):Int))) Jy; replace OF:=OF.and1 ((Off.refl [R] _).set (b:=R) mS 98 (.int .u64 ((s.n+1:Nat):Int))) (.inl mS); generalize w4.setCell ⟨R,98,none⟩ (.int .u64 ((s.n+1:Nat):Int))=w5 at M OF N_4 ⊢; refine xT ?_; go_upto_region 5 with fail; refine wR (xm2 ?_); refine xcL (gG w0 _ R _ v0 ps (⟨s.h,s.c,s.k,s.has,s.n+1⟩:Sym) hg (SymW.mk hsw.h hsw.c hsw.k) (some ⟨B',0,none⟩) c4 (qG s b) (by rw [zD,if_pos hhas]; omega) hcc_4 Jq (kP hb) M (NewF.src N_4)) ?_; rintro e w6 ⟨rfl,M',o1⟩; clear M; have M:=M'; clear M'; replace OF:=OF.trans o1; replace N_4:=NewF.off N_4 o1 Jy; clear o1; refine xeL (xT ?_); go_upto_region 6 with fail; refine wR (xm2 ?_); refine xT ?_; rw [← sN s (qG s b) hhas] at M; have HS:=show Hid _ from (And.intro N_4 (And.intro M OF)); clear N_4 M OF; go_wp2; go_ret
   exact ⟨⟨_,rfl,HS.out.1⟩,HS.out.2⟩
 | false =>
   have hso:qG s b=b:=by unfold qG; rw [hhas]; rfl
   have hsn:kX s=s:=by unfold kX; rw [hhas]; rfl
   go_upto_region 5 with fail; refine wR (xm2 ?_); clear hs; refine xcL (gG w0 _ R _ v0 ps s hg hsw p1 c1 b JK hcc_1 hnn_1 hb M (NewF.src N_1)) ?_; rintro e w7 ⟨rfl,M',o1⟩; clear M; have M:=M'; clear M'; replace OF:=OF.trans o1; replace N_1:=NewF.off N_1 o1 Jy; clear o1; refine xeL (xT ?_); go_upto_region 6 with fail; refine wR (xm2 ?_); refine xT ?_; have hss:qN s b=jU s b:=by unfold qN; rw [hso,hsn]
   have HS:=show Hid _ from (And.intro N_1 (And.intro M OF)); clear N_1 M OF; go_wp2; go_ret
   exact ⟨⟨_,rfl,by rw [hso]; exact HS.out.1⟩,by rw [hss]; exact HS.out.2.1,HS.out.2.2⟩
theorem j2n (w0 w:World) (R:Nat) (l:List (Nat × List Value)) (v0:Value) (ps:List (List Value)) (s:Sym) (hg:SGlob w0) (hsw:SymW s) (hn:s.n<4611686018427387904) (sp:Option Addr) (cap:Nat) (b:List Int) (hlen:b.length≤140737488351248) (hcap:b.length≤cap) (hnil:sp=none→cap=0) (hb:Byts b) (M:Mm w0 ((R,pcx v0 ps s)::l) w) (hs:SrcA [R] w sp b.length (bl b)):Calls Tryz.prog 58 #[.pointer (some ⟨R,1,none⟩),.slice sp b.length cap] w fun e w'=>(∃ v,e=.returned (.tuple #[v,.int .i64 (soE s b)])∧vA w' w.heap.size (soT s b) v)∧Mm w0 ((R,pcx v0 ps (xH s b))::l) w'∧Off [R] w w':=by
 have hRw:=M.lt mS; have hR0:=M.below.size; have hwz:=xnR w.heap.size; have OF:=Off.refl [R] w
 go_enter Tryz.func58,Tryz.ntmps58
 go_upto_region 0 with fail; refine wR (xm2 ?_); refine xT ?_; go_upto_region 1 with fail; refine wR (xmL ?_); refine xcL (j0c sp b.length cap JK hcap hnil (bl b) _ (hs.off OF).1) ?_; rintro e w1 ⟨v,rfl,hO,l⟩
 have N_1:vA w1 w.heap.size b v:=NewF.of_own (hO.lower hwz)
 replace M:=M.call l; replace OF:=OF.below l; replace hwz:=xnT hwz l.size; clear l hO
 obtain ⟨p1,c1,rfl,hcc_1,hnn_1,_,_⟩:=id N_1
 refine xeL ?_; refine xmL (xT ?_); go_upto_region 2 with fail; refine wR (xmL ?_); refine xpL (.pointer (some ⟨R,1,none⟩)) ?_; refine xpL (.pointer (some ⟨R,97,none⟩)) ?_; refine xaL _ (qL 4 _ _ _ rfl rfl JW (M.get mS 97 _ (mW v0 ps s 0))) ?_
 refine xT ?_
 cases hhas:s.has with
 | true =>
   go_upto_region 3 with fail; refine wR (xmL ?_); refine xT ?_; go_upto_region 4 with fail; refine hdG M ?_; clear M; intro M; have hdr:=(Below.refl w1.heap.size w1).drew; replace OF:=OF.below hdr; replace N_1:=NewF.below N_1 hdr; replace hwz:=xnT hwz hdr.size; clear hdr; generalize w1.drew=w2 at M hwz OF N_1 ⊢; refine xmH 0 15 M ?_; refine xrH 1 16 rfl (.pointer (some ⟨R,1,none⟩)) (fun _ M=>JU) M ?_; refine xrH 2 17 rfl (.pointer (some ⟨R,65,none⟩)) (fun _ M=>JU) M ?_; refine xrH 3 18 rfl (.agg (row .u8 32 s.k).toArray) KK M ?_; refine xmH 4 19 M ?_; refine xrH 5 20 rfl (.pointer (some ⟨R,1,none⟩)) (fun _ M=>JU) M ?_; refine xrH 6 21 rfl (.pointer (some ⟨R,98,none⟩)) (fun _ M=>JU) M ?_; refine xrH 7 22 rfl _ Wa M ?_; refine xmH 9 24 M ?_; refine xrH 10 25 rfl (.pointer (some ⟨R,1,none⟩)) (fun _ M=>JU) M ?_; refine xrH 11 26 rfl (.pointer (some ⟨R,1,none⟩)) (fun _ M=>JU) M ?_; refine xrH 12 27 rfl (.slice (some ⟨R,1,none⟩) 32 32) Uu M ?_; refine xmH 13 28 M ?_; refine yaH 8 23 (rV s.n _) ?_; rintro e w3 ⟨rfl,l⟩; replace M:=M.call l; replace OF:=OF.below l; replace N_1:=NewF.below N_1 l; replace hwz:=xnT hwz l.size; clear l; refine ⟨_,rfl,M,nH ?_⟩; refine yaH 14 29 (q1w s.k (snz s.n) hsw.k (j0t s.n) (some ⟨R,1,none⟩) 32 32 JG JG s.h hsw.h sp b.length cap hlen hcap (bl b) hb.bl _ (hg.mm M).a (M.srcRow mS 1 32 _ (q3r v0 ps s)) (hs.off OF).1) ?_; rintro e w4 ⟨⟨v,rfl,hN⟩,l⟩; replace M:=M.call l; rw [← lM hhas]; have N_4:vA w4 w.heap.size (soT s b) v:=by
    unfold vA; rw [rM hhas,List.length_map,List.length_range]; exact (hN.lower hwz).congr (fun j hj=>(gW _ _ j hj).symm)
   replace OF:=OF.below l; replace N_1:=NewF.below N_1 l; replace hwz:=xnT hwz l.size; clear l hN; refine ⟨_,rfl,M,nH ?_⟩; refine xmH 15 14 M ?_; refine xmH 16 30 M ?_; refine xmH 17 31 M ?_; refine xmH 18 6 M ?_; refine xmH 19 7 M ?_; refine wE JU ?_ _
   first | show Exit.then _ _ _ _ _ | show Exit.inBlock _ _ _ _ _
   clear N_1; by_cases hE:soE s b=0
   · go_upto_region 5 with fail; refine wR (xmL ?_); refine xaL (.bool false) (xE .i64 _ _ _ _ _ _ rfl rfl rfl false (by rw [hE]; rfl) _) (xT ?_); go_upto_region 7 with fail; refine wR (xmL ?_); refine xpL (.pointer (some ⟨R,1,none⟩)) ?_; refine xpL (.pointer (some ⟨R,98,none⟩)) ?_; refine xaL _ (qL 54 _ _ _ rfl rfl JW (M.get mS 98 _ (mW v0 ps s 1))) ?_; refine xaL (.int .u64 ((s.n+1:Nat):Int)) (vM .u64 _ _ _ _ _ _ _ rfl rfl rfl Kp _) ?_; refine xpL (.pointer (some ⟨R,1,none⟩)) ?_; refine xpL (.pointer (some ⟨R,98,none⟩)) ?_; refine jG rfl (xR (.int .u64 ((s.n+1:Nat):Int)) R 98 54 _ _ rfl rfl rfl rfl rfl (M.isSome mS 98 YK) (M.free mS 98 YK) JU) ?_; simp only [Act.put]; replace M:=M.set 98 YK (.int .u64 ((s.n+1:Nat):Int)); rw [show (.int .u64 ((s.n+1:Nat):Int):Value)=.int .u64 ((s.n+1:Nat):Int) from rfl,dP] at M; replace N_4:=NewF.off N_4 ((Off.refl [R] _).set (b:=R) mS 98 (.int .u64 ((s.n+1:Nat):Int))) Jy; replace OF:=OF.and1 ((Off.refl [R] _).set (b:=R) mS 98 (.int .u64 ((s.n+1:Nat):Int))) (.inl mS); generalize w4.setCell ⟨R,98,none⟩ (.int .u64 ((s.n+1:Nat):Int))=w5 at M OF N_4 ⊢; refine xT ?_; go_upto_region 8 with fail; refine wR (xm2 ?_); refine xcL (gG w0 _ R _ v0 ps (⟨s.h,s.c,s.k,s.has,s.n+1⟩:Sym) hg (SymW.mk hsw.h hsw.c hsw.k) sp cap b JK hcap hnil hb M (hs.off OF).1) ?_; rintro e w6 ⟨rfl,M',o1⟩; clear M; have M:=M'; clear M'; replace OF:=OF.trans o1; replace N_4:=NewF.off N_4 o1 Jy; clear o1; refine xeL (xT ?_); go_upto_region 9 with fail; refine wR (xm3 ?_); refine xT ?_; rw [← sN s b hhas] at M; have HS:=show Hid _ from (And.intro N_4 (And.intro M OF)); clear N_4 M OF; go_wp2; go_ret2
     exact ⟨⟨v,by rw [hE]; rfl,HS.out.1⟩,by unfold xH; rw [if_pos hE]; exact HS.out.2.1,HS.out.2.2⟩
   go_upto_region 5 with fail; refine wR (xmL ?_); refine xaL (.bool true) (xE .i64 _ _ _ _ _ _ rfl rfl rfl true (by rw [bne_iff_ne]; exact hE) _) (xT ?_); go_upto_region 6 with fail; refine wR (xm3 ?_); refine xT ?_; clear N_4; have N_e:vA w4 w.heap.size (soT s b) (.slice none 0 0):=by rw [j7w hE]; exact NewF.nil _ _ _
   have HS:=show Hid _ from (And.intro N_e (And.intro M OF)); clear N_e M OF; go_wp2; go_ret2
   exact ⟨⟨_,rfl,HS.out.1⟩,by unfold xH; rw [if_neg hE]; exact HS.out.2.1,HS.out.2.2⟩
 | false =>
   have hso:soT s b=b:=by unfold soT; rw [hhas]; rfl
   have hsn:kX s=s:=by unfold kX; rw [hhas]; rfl
   have hE:soE s b=0:=by unfold soE; rw [hhas]; rfl
   go_upto_region 8 with fail; refine wR (xm2 ?_); refine xcL (gG w0 _ R _ v0 ps s hg hsw sp cap b JK hcap hnil hb M (hs.off OF).1) ?_; rintro e w7 ⟨rfl,M',o1⟩; clear M; have M:=M'; clear M'; replace OF:=OF.trans o1; replace N_1:=NewF.off N_1 o1 Jy; clear o1; refine xeL (xT ?_); go_upto_region 9 with fail; refine wR (xm3 ?_); refine xT ?_; have hss:xH s b=jU s b:=by unfold xH; rw [if_pos hE,hsn]
   have HS:=show Hid _ from (And.intro N_1 (And.intro M OF)); clear N_1 M OF; go_wp2; go_ret2
   exact ⟨⟨.slice p1 b.length c1,by rw [hE]; rfl,by rw [hso]; exact HS.out.1⟩,by rw [hss]; exact HS.out.2.1,HS.out.2.2⟩
theorem j0k (w0 w:World) (R:Nat) (l:List (Nat × List Value)) (v0:Value) (ps:List (List Value)) (s:Sym) (M:Mm w0 ((R,pcx v0 ps s)::l) w) :
 Calls Tryz.prog 84 #[.pointer (some ⟨R,1,none⟩)] w fun e w'=>∃ Q,e=.returned (.pointer (some ⟨Q,0,none⟩))∧w.heap.size≤Q∧Mm w0 ((Q,jA s)::(R,pcx v0 ps s)::l) w'∧Below w.heap.size w w':=by
 have OF:=Off.refl [] w; have hb0:=M.below
 go_enter Tryz.func84,Tryz.ntmps84
 go_upto_region 0 with fail; refine wR (xmL ?_); refine xT ?_; go_upto_region 1 with fail; refine wR (xmL ?_); refine xpL (.pointer (some ⟨R,1,none⟩)) ?_
 refine xaL (.agg (jA s).toArray) (jD 56 _ ⟨R,1,none⟩ (jA s) rfl rfl JW Us (M.part mS 1 _ (q8f v0 ps s))) ?_; have hz0_:=OF.size
 refine xaL (w':=w.alloc (.cells #[.int .u8 0,.int .u8 0,.int .u8 0,.int .u8 0,.int .u8 0,.int .u8 0,.int .u8 0,.int .u8 0,.int .u8 0,.int .u8 0,.int .u8 0,.int .u8 0,.int .u8 0,.int .u8 0,.int .u8 0,.int .u8 0,.int .u8 0,.int .u8 0,.int .u8 0,.int .u8 0,.int .u8 0,.int .u8 0,.int .u8 0,.int .u8 0,.int .u8 0,.int .u8 0,.int .u8 0,.int .u8 0,.int .u8 0,.int .u8 0,.int .u8 0,.int .u8 0,.int .u8 0,.int .u8 0,.int .u8 0,.int .u8 0,.int .u8 0,.int .u8 0,.int .u8 0,.int .u8 0,.int .u8 0,.int .u8 0,.int .u8 0,.int .u8 0,.int .u8 0,.int .u8 0,.int .u8 0,.int .u8 0,.int .u8 0,.int .u8 0,.int .u8 0,.int .u8 0,.int .u8 0,.int .u8 0,.int .u8 0,.int .u8 0,.int .u8 0,.int .u8 0,.int .u8 0,.int .u8 0,.int .u8 0,.int .u8 0,.int .u8 0,.int .u8 0,.int .u8 0,.int .u8 0,.int .u8 0,.int .u8 0,.int .u8 0,.int .u8 0,.int .u8 0,.int .u8 0,.int .u8 0,.int .u8 0,.int .u8 0,.int .u8 0,.int .u8 0,.int .u8 0,.int .u8 0,.int .u8 0,.int .u8 0,.int .u8 0,.int .u8 0,.int .u8 0,.int .u8 0,.int .u8 0,.int .u8 0,.int .u8 0,.int .u8 0,.int .u8 0,.int .u8 0,.int .u8 0,.int .u8 0,.int .u8 0,.int .u8 0,.int .u8 0,.bool false,.int .u64 0] 56)) (.pointer (some ⟨w.heap.size,0,none⟩)) JU ?_
 have hlb:=(Below.refl w.heap.size w).alloc (xnR _) (.cells #[.int .u8 0,.int .u8 0,.int .u8 0,.int .u8 0,.int .u8 0,.int .u8 0,.int .u8 0,.int .u8 0,.int .u8 0,.int .u8 0,.int .u8 0,.int .u8 0,.int .u8 0,.int .u8 0,.int .u8 0,.int .u8 0,.int .u8 0,.int .u8 0,.int .u8 0,.int .u8 0,.int .u8 0,.int .u8 0,.int .u8 0,.int .u8 0,.int .u8 0,.int .u8 0,.int .u8 0,.int .u8 0,.int .u8 0,.int .u8 0,.int .u8 0,.int .u8 0,.int .u8 0,.int .u8 0,.int .u8 0,.int .u8 0,.int .u8 0,.int .u8 0,.int .u8 0,.int .u8 0,.int .u8 0,.int .u8 0,.int .u8 0,.int .u8 0,.int .u8 0,.int .u8 0,.int .u8 0,.int .u8 0,.int .u8 0,.int .u8 0,.int .u8 0,.int .u8 0,.int .u8 0,.int .u8 0,.int .u8 0,.int .u8 0,.int .u8 0,.int .u8 0,.int .u8 0,.int .u8 0,.int .u8 0,.int .u8 0,.int .u8 0,.int .u8 0,.int .u8 0,.int .u8 0,.int .u8 0,.int .u8 0,.int .u8 0,.int .u8 0,.int .u8 0,.int .u8 0,.int .u8 0,.int .u8 0,.int .u8 0,.int .u8 0,.int .u8 0,.int .u8 0,.int .u8 0,.int .u8 0,.int .u8 0,.int .u8 0,.int .u8 0,.int .u8 0,.int .u8 0,.int .u8 0,.int .u8 0,.int .u8 0,.int .u8 0,.int .u8 0,.int .u8 0,.int .u8 0,.int .u8 0,.int .u8 0,.int .u8 0,.int .u8 0,.bool false,.int .u64 0] 56)
 replace OF:=OF.below hlb; clear hlb
 have hB_B1:w0.heap.size≤w.heap.size:=M.below.size
 replace M:=M.box #[.int .u8 0,.int .u8 0,.int .u8 0,.int .u8 0,.int .u8 0,.int .u8 0,.int .u8 0,.int .u8 0,.int .u8 0,.int .u8 0,.int .u8 0,.int .u8 0,.int .u8 0,.int .u8 0,.int .u8 0,.int .u8 0,.int .u8 0,.int .u8 0,.int .u8 0,.int .u8 0,.int .u8 0,.int .u8 0,.int .u8 0,.int .u8 0,.int .u8 0,.int .u8 0,.int .u8 0,.int .u8 0,.int .u8 0,.int .u8 0,.int .u8 0,.int .u8 0,.int .u8 0,.int .u8 0,.int .u8 0,.int .u8 0,.int .u8 0,.int .u8 0,.int .u8 0,.int .u8 0,.int .u8 0,.int .u8 0,.int .u8 0,.int .u8 0,.int .u8 0,.int .u8 0,.int .u8 0,.int .u8 0,.int .u8 0,.int .u8 0,.int .u8 0,.int .u8 0,.int .u8 0,.int .u8 0,.int .u8 0,.int .u8 0,.int .u8 0,.int .u8 0,.int .u8 0,.int .u8 0,.int .u8 0,.int .u8 0,.int .u8 0,.int .u8 0,.int .u8 0,.int .u8 0,.int .u8 0,.int .u8 0,.int .u8 0,.int .u8 0,.int .u8 0,.int .u8 0,.int .u8 0,.int .u8 0,.int .u8 0,.int .u8 0,.int .u8 0,.int .u8 0,.int .u8 0,.int .u8 0,.int .u8 0,.int .u8 0,.int .u8 0,.int .u8 0,.int .u8 0,.int .u8 0,.int .u8 0,.int .u8 0,.int .u8 0,.int .u8 0,.int .u8 0,.int .u8 0,.int .u8 0,.int .u8 0,.int .u8 0,.int .u8 0,.bool false,.int .u64 0] 56 w.heap.size rfl
 generalize w.alloc (.cells #[.int .u8 0,.int .u8 0,.int .u8 0,.int .u8 0,.int .u8 0,.int .u8 0,.int .u8 0,.int .u8 0,.int .u8 0,.int .u8 0,.int .u8 0,.int .u8 0,.int .u8 0,.int .u8 0,.int .u8 0,.int .u8 0,.int .u8 0,.int .u8 0,.int .u8 0,.int .u8 0,.int .u8 0,.int .u8 0,.int .u8 0,.int .u8 0,.int .u8 0,.int .u8 0,.int .u8 0,.int .u8 0,.int .u8 0,.int .u8 0,.int .u8 0,.int .u8 0,.int .u8 0,.int .u8 0,.int .u8 0,.int .u8 0,.int .u8 0,.int .u8 0,.int .u8 0,.int .u8 0,.int .u8 0,.int .u8 0,.int .u8 0,.int .u8 0,.int .u8 0,.int .u8 0,.int .u8 0,.int .u8 0,.int .u8 0,.int .u8 0,.int .u8 0,.int .u8 0,.int .u8 0,.int .u8 0,.int .u8 0,.int .u8 0,.int .u8 0,.int .u8 0,.int .u8 0,.int .u8 0,.int .u8 0,.int .u8 0,.int .u8 0,.int .u8 0,.int .u8 0,.int .u8 0,.int .u8 0,.int .u8 0,.int .u8 0,.int .u8 0,.int .u8 0,.int .u8 0,.int .u8 0,.int .u8 0,.int .u8 0,.int .u8 0,.int .u8 0,.int .u8 0,.int .u8 0,.int .u8 0,.int .u8 0,.int .u8 0,.int .u8 0,.int .u8 0,.int .u8 0,.int .u8 0,.int .u8 0,.int .u8 0,.int .u8 0,.int .u8 0,.int .u8 0,.int .u8 0,.int .u8 0,.int .u8 0,.int .u8 0,.int .u8 0,.bool false,.int .u64 0] 56)=w1 at M OF ⊢
 generalize eB:w.heap.size=B1 at M hB_B1  ⊢
 have hE_B1:w.heap.size≤B1:=Nat.le_of_eq eB
 have hF_B1:B1≤w.heap.size:=Nat.le_of_eq eB.symm
 clear eB
 have hW_B1:w.heap.size≤B1:=by omega
 clear hz0_; refine jG rfl (jC (jA s) B1 0 56 _ _ rfl rfl rfl (M.thereP mS 0 98 (nB rfl)) Wl (yB _)) ?_; simp only [Act.put]; replace M:=M.setAll (jA s) (by rw [yJ]; rfl); replace OF:=OF.and1 ((Off.refl [B1] _).setAll mS 0 (jA s)) (.inr JK)
 generalize w1.setCells B1 0 (jA s)=w2 at M OF ⊢; exact Qs
theorem yW (pre mid post:List (List Value)) (o:Nat) (ho:(pre.map List.length).sum=o):((pre++(mid++post)).flatten.drop o).take mid.flatten.length=mid.flatten:=by
 rw [List.flatten_append,List.flatten_append,List.drop_left' (by rw [List.length_flatten]; exact ho),List.take_left]
def kfv (A:Nat):Value:=.func (.func 47) #[] #[.pointer (some ⟨A,0,none⟩)]
def atv (s:Shk):Int:=if s.step=2 then 5 else if s.step=1 then 3+(s.role:Int) else 2-(s.role:Int)
def kps (s:Shk) (A D:Nat):List (List Value):=[row .u8 32 (bl (LD.pub s.sec)),[kfv A],row .u8 32 (bl (LD.pub s.drw)),[kfv D],row .u8 32 (bl s.its),row .u8 32 (bl s.drn),row .u8 32 (fun _=>0),row .u8 32 (fun _=>0)]
def kcs (av:Int) (s:Shk) (A D:Nat):List Value:=pcx (.int .i64 av) (kps s A D) s.st
def uQ:Sym:=⟨fun _=>0,fun _=>0,fun _=>0,false,0⟩
def kce (s:Shk):List Value:=pcx (.int .i64 5) [row .u8 32 (fun _=>0),[.nilFunc],row .u8 32 (fun _=>0),[.nilFunc],row .u8 32 (bl s.its),row .u8 32 (fun _=>0),row .u8 32 (kA s.st.c 0 (bl [])),row .u8 32 (kB s.st.c 0 (bl []))] uQ
def KI (v:Value) (s:Shk) (bs:List (Nat × List Value)):Prop:=s.role≤1∧s.step≤2∧∃ R,v=.pointer (some ⟨R,0,none⟩)∧((s.step<2∧∃ A D,bs=[(R,kcs (atv s) s A D),(A,row .u8 32 s.sec),(D,row .u8 32 s.drw)])∨(s.step=2∧bs=[(R,kce s)]))
theorem j8p (w0 w:World) (R:Nat) (l:List (Nat × List Value)) (v0:Value) (ps:List (List Value)) (s:Sym) (hg:SGlob w0) (hsw:SymW s) (sp:Option Addr) (cap:Nat) (hcap:32≤cap) (b:List Int) (hl:b.length=32) (hb:Byts b) (hnil:sp=none→cap=0) (M:Mm w0 ((R,pcx v0 ps s)::l) w) (hs:Src w sp 32 (bl b)) :
 Calls Tryz.prog 46 #[.pointer (some ⟨R,1,none⟩),.slice sp 32 cap] w fun e w'=>e=.returned (.tuple #[])∧Mm w0 ((R,pcx v0 ps (jU s b))::l) w'∧Off [R] w w':=by
 have:=gG w0 w R l v0 ps s hg hsw sp cap b WW (by rw [hl]; exact hcap) hnil hb M WY
 rw [hl] at this
 exact this
theorem x4w (w0 w:World) (R:Nat) (l:List (Nat × List Value)) (s:Sym) (hg:SGlob w0) (hsw:SymW s) (sp:Option Addr) (cap:Nat) (hcap:32≤cap) (b:List Int) (hl:b.length=32) (hb:Byts b) (hnil:sp=none→cap=0) (M:Mm w0 ((R,jA s)::l) w) (hs:SrcA [R] w sp 32 (bl b)) :
 Calls Tryz.prog 46 #[.pointer (some ⟨R,0,none⟩),.slice sp 32 cap] w fun e w'=>e=.returned (.tuple #[])∧Mm w0 ((R,jA (jU s b))::l) w'∧Off [R] w w':=by
 have:=j5f w0 w R l s hg hsw sp cap b WW (by rw [hl]; exact hcap) hnil hb M WY
 rw [hl] at this
 exact this
theorem x4z (w0 w:World) (R:Nat) (l:List (Nat × List Value)) (v0:Value) (ps:List (List Value)) (s:Sym) (hg:SGlob w0) (hsw:SymW s) (sp:Option Addr) (cap:Nat) (hcap:32≤cap) (x:Fin QN) (hnil:sp=none→cap=0) (M:Mm w0 ((R,pcx v0 ps s)::l) w) (hs:Src w sp 32 (bl (lby x))) :
 Calls Tryz.prog 86 #[.pointer (some ⟨R,1,none⟩),.slice sp 32 cap] w fun e w'=>e=.returned (.tuple #[])∧Mm w0 ((R,pcx v0 ps (jZ s (lby x)))::l) w'∧Off [R] w w':=by
 have:=j5g w0 w R l v0 ps s hg hsw sp cap (lby x) (by rw [kH]; decide) (by rw [kH]; exact hcap) hnil (cL x) M (by rw [kH]; exact hs)
 rw [kH] at this
 exact this
theorem x1w (w0 w:World) (R:Nat) (l:List (Nat × List Value)) (v0:Value) (ps:List (List Value)) (s:Sym) (hg:SGlob w0) (hsw:SymW s) (hn:s.n<4611686018427387904) (sp:Option Addr) (cap:Nat) (hcap:32≤cap) (b:List Int) (hl:b.length=32) (hb:Byts b) (hnil:sp=none→cap=0) (M:Mm w0 ((R,pcx v0 ps s)::l) w) (hs:Src w sp 32 (bl b)) :
 Calls Tryz.prog 59 #[.pointer (some ⟨R,1,none⟩),.slice sp 32 cap] w fun e w'=>(∃ v,e=.returned v∧vA w' w.heap.size (qG s b) v)∧Mm w0 ((R,pcx v0 ps (qN s b))::l) w'∧Off [R] w w':=by
 have:=mH w0 w R l v0 ps s hg hsw hn sp cap b WW (by rw [hl]; exact hcap) hnil hb M WY
 rw [hl] at this
 exact this
theorem q3v (w0 w:World) (R:Nat) (l:List (Nat × List Value)) (v0:Value) (ps:List (List Value)) (s:Sym) (hg:SGlob w0) (hsw:SymW s) (hn:s.n<4611686018427387904) (sp:Option Addr) (cap n:Nat) (b:List Int) (hl:b.length=n) (hb:Byts b) (hlen:n≤1000) (hnil:sp=none→cap=0) (hcap:n≤cap) (M:Mm w0 ((R,pcx v0 ps s)::l) w) (hs:SrcA [R] w sp n (bl b)) :
 Calls Tryz.prog 58 #[.pointer (some ⟨R,1,none⟩),.slice sp n cap] w fun e w'=>(∃ v,e=.returned (.tuple #[v,.int .i64 (soE s b)])∧vA w' w.heap.size (soT s b) v)∧Mm w0 ((R,pcx v0 ps (xH s b))::l) w'∧Off [R] w w':=by
 subst hl
 exact j2n w0 w R l v0 ps s hg hsw hn sp cap b JK hcap hnil hb M hs
end Go.Proofs.YtknodlefhclijaaGreatDoor
