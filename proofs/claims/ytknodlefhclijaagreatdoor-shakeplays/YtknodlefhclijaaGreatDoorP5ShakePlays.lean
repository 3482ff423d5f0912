/- Texts of Bv Bt Jz Ja Jo Jl Jb Jc Va Qa Oa Ya Yo Mx My Ob Oc Od Fq, joined. -/
import Derived.Test.YtknodlefhclijaaGreatDoorP4ShakePlays
import Derived.Lib.ConvBytes
set_option maxRecDepth 20000
set_option maxHeartbeats 64000000
namespace Go.Proofs.YtknodlefhclijaaGreatDoor
open Go.RowKit
theorem x6b (b i:Nat) (hi:i<32) (w:World) {o:Oper} {a:Act} (x y:Operand) (ho:o.op=.indexAddr 23 x y) (hx:a.eval x=.pointer (some ⟨b,0,none⟩)) (hy:a.eval y=.int .i64 (i:Int)) :
 (execOp a.eval o).run Tryz.prog w=.ok (.value (.pointer (some ⟨b,i,none⟩))) w:=by
 exact Xx
theorem kZ (sp:Option Addr) (len cap:Nat) (hl0:¬ len=0) (hlen:len≤140737488355072) (hn0:sp=none→cap=0) (z:Nat→Int) (hz:In 256 len z) (w:World) (hs:Src w sp len z) :
 Calls Tryz.prog 67 #[.slice sp len cap] w fun e w'=>e=.returned (.agg (row .u8 32 (jB len z)).toArray)∧Below w.heap.size w w':=by
 have K:=Kr.init w; replace K:=K.make 32 jY 23 (w.heap.size) rfl (jK _ _ _ rfl).there
 go_enter Tryz.func67,Tryz.ntmps67
 go_upto_region 1 with fail; generalize (w.alloc (.cells jY 23))=w0 at K ⊢; refine wR (xmL ?_); refine xcL (j3f none 0 0 rfl (fun _=>0) JK Ut (fun _=>rfl) 32 JK JK sp len cap hl0 hlen hn0 z hz _ Ut (hs.below K.below (xnR _))) ?_
 rintro e w1 ⟨tp,tc,rfl,⟨_,hsrc⟩,l⟩; replace K:=K.call l; clear l; refine xeL ?_; refine xm3 ?_; refine xm2 ?_; show Exit.then _ _ _ _ _; go_upto_region 2 with fail; refine wR ?_
 refine xpL (.agg (row .u8 32 (fun _=>0)).toArray) ?_; refine qH jY 23 rfl JW (nL ?_); refine ysL .u8 32 (fun _=>0) w1.heap.size (jM (jK _ _ _ rfl).there) (jV _) ?_; have K1:=(Kr.init w1).fresh .u8 32 (fun _=>0) jY 23 (jK _ _ _ rfl).there
 generalize ((w1.alloc (.cells jY 23)).setCells w1.heap.size 0 (row .u8 32 (fun _=>0)))=w2 at K1 ⊢; show Exit.then _ _ _ _ _; go_wp2
 go_loopw [6] (fun i w'=>∃ (m:Nat) (f:Nat→Int),m≤32∧i=.int .i64 m∧Kr w1 (w1.heap.size+1) [(w1.heap.size,.u8,32,f)] [] w'∧∀ j,j<m→f j=jB len z j) (fun i _=>32-(intOf i).toNat)
 case atStart=>exact ⟨0,_,by omega,rfl,K1,fun j hj=>absurd hj (xnZ j)⟩
 case round =>
  clear K1; obtain ⟨m,f,hm,rfl,K1,hf⟩:=hrel; have g1:(0:Int)≤(m:Int):=by omega
  by_cases hlt:m<32
  · have g2:(m:Int)<32:=by omega
    obtain ⟨ad,rfl,hc⟩:=(hsrc.below K1.below (xnR _)) m hlt; go_upto_region 6 with fail; refine wR (xm3 ?_); refine xqL (.pointer (some (ad.add m))) (fun w=>mX 32 5 32 tc .i64 ad m _ _ Tryz.underlying32 JW hlt rfl rfl rfl w) ?_; refine xaL (.int .u8 (jB len z m)) (q8t 5 .u8 _ (ad.add m) _ rfl rfl Tryz.underlying5 hc) ?_; refine xqL (.pointer (some ⟨w1.heap.size,m,none⟩)) (fun w'=>x6b w1.heap.size m hlt w' _ _ rfl rfl rfl) ?_; refine ywL .u8 (jB len z m) w1.heap.size m (by rw [(K1.get _ _ _ _ mS).cell m hlt]; rfl) ((K1.get _ _ _ _ mS).free m hlt) JU ?_; replace K1:=K1.setCell [] w1.heap.size .u8 32 f m hlt (jB len z m) mS YQ YQ (xnR _); have HS:=show Hid _ from (And.intro K1 (show ∀ j,j<m+1→upd f m (jB len z m) j=jB len z j from fun j hj=>by
     by_cases e:j=m
     · exact Zz
     rw [jR _ _ _ _ e]; exact hf j JK))
    clear K1 hf hc; generalize wr.setCell ⟨w1.heap.size,m,none⟩ (.int .u8 (jB len z m))=w3 at HS ⊢; exact ZG
  obtain rfl:m=32:=by omega
  replace K:=K.call K1.below; have HR:=(K1.get _ _ _ _ mS).congr (g:=jB len z) hf; have hz':=(K.room _ mS).1; have hB:=(K.fill _ _ mS (row .u8 32 (jB len z))).below; clear K K1 hf hlt hm g1 hsrc; generalize hj:jB len z=f at *; go_wp2_with (first | (refine yl (HR) Tryz.underlying23 (jJ _) ?_) | (refine ys .u8 32 f (jM hz') (jV _) ?_)); exact bRq (v:=(.agg (row .u8 32 (f)).toArray)) (jQ Tryz.results67 rfl (Has.all hz' .u8 f).range Tryz.underlying23 rfl (jJ f)) rfl ⟨rfl,hB⟩
structure Two8 (w:World) (B n:Nat) (f:Nat→Int) (a:Value) (m:Nat) (g:Nat→Int) (b:Value):Prop where
 one:Own w B 5 .u8 n f a
 two:Own w B 5 .u8 m g b
 ne:a.ownBlock≠b.ownBlock
theorem Two8.symm {w:World} {B n:Nat} {f:Nat→Int} {a:Value} {m:Nat} {g:Nat→Int} {b:Value} (h:Two8 w B n f a m g b):Two8 w B m g b n f a:=⟨h.two,h.one,fun e=>h.ne e.symm⟩
theorem Two8.more {w':World} {B n:Nat} {f:Nat→Int} {a:Value} {m:Nat} {g:Nat→Int} {b:Value} (h:Two8 w' B n f a m g b) (hn:n<140737488355328) (x:Int) (hx:f n=x) (ty:TypeId) (hb:B≤w'.heap.size) :
 ∃ v w'',(Builtin.append_ #[32,32] ty #[a,.slice (some ⟨w'.heap.size,0,none⟩) 1 1]).run Tryz.prog (w'.alloc (.cells #[.int .u8 x] 5))=.ok v w''∧Two8 w'' B (n+1) f v m g b∧(w'.alloc (.cells #[.int .u8 x] 5)).grownBy w'' a.ownBlock:=by
 have H1:=Has.new w' .u8 1 (fun _=>x) 5 w'.heap.size rfl
 obtain ⟨v,w'',hr,ho,hg,hw⟩:=jH (P:=Tryz.prog) (ty:=ty) Tryz.underlying32 vG (h.one.alloc (.cells (row .u8 1 (fun _=>x)).toArray 5)) (some ⟨w'.heap.size,0,none⟩) 1 1 (fun _=>x) (fun j hj=>⟨_,rfl,by rw [Addr.add_mid,nZ]; exact H1.cell j hj⟩) Jq Jj JK Ji
 refine ⟨v,w'',hr,⟨ho.congr fun j hj=>?_,World.ownsRow.kept (h.two.alloc _) hg (.inr fun e=>h.ne e.symm),fun e=>?_⟩,hg⟩
 · unfold app; by_cases e:j<n
   · rw [if_pos e]
   rw [if_neg e,← hx,show j=n by omega]
 obtain ⟨q,cap,rfl,_⟩:=ho.has JK
 rcases hw q rfl with h1 | h1
 · exact h.ne (h1.trans e)
 have:=(World.ownsRow.lt h.two q e.symm).2
 simp at h1
 omega
theorem fP (kp:Option Addr) (kl kc:Nat) (hl:kl≤64) (_hkl:kl≤140737488355072) (hkn:kp=none→kc=0) (key:Nat→Int) (hk:In 256 kl key) (sp:Option Addr) (len cap:Nat) (hlen:len≤140737488354816) (hn0:sp=none→cap=0) (z:Nat→Int) (hz:In 256 len z) (w:World) (hks:Src w kp kl key) (hs:Src w sp len z) :
 Calls Tryz.prog 73 #[.slice kp kl kc,.slice sp len cap] w fun e w'=>e=.returned (.agg (row .u8 32 (yD kl key len z)).toArray)∧Below w.heap.size w w':=by
 have K:=Kr.init w; replace K:=K.make 32 jY 23 (w.heap.size) rfl (jK _ _ _ rfl).there
 go_enter Tryz.func73,Tryz.ntmps73
 go_upto_region 1 with fail; generalize (w.alloc (.cells jY 23))=w0 at K ⊢; refine wR (xaL (w':=w0.alloc (.cells #[] 5)) (.slice (some ⟨w0.heap.size,0,none⟩) 0 0) JU ?_); refine xmL ?_
 have hO:Own (w0.alloc (.cells #[] 5)) (w.heap.size+1) 5 .u8 0 key (.slice (some ⟨w0.heap.size,0,none⟩) 0 0):=Own.lit w0 (w.heap.size+1) 5 .u8 0 key K.size Jj
 replace K:=K.call ((Below.refl w0.heap.size w0).alloc (xnR _) (.cells #[] 5)); generalize w0.alloc (.cells #[] 5)=w1 at K hO ⊢
 obtain ⟨v,w2,hr,ho,hg,_⟩:=jH (P:=Tryz.prog) (ty:=32) Tryz.underlying32 vG hO kp kl kc key (hks.below K.below (xnR _)) hkn Jj JK K.size
 replace K:=K.grown hg (fun b hb=>(World.ownsRow.lt hO b hb).1); refine xaL v (jW _ _ 32 _ _ _ rfl rfl rfl hr) ?_; refine xmL ?_
 replace hO:Own w2 (w.heap.size+1) 5 .u8 kl key v:=by
  rw [nZ] at ho; exact ho.congr fun j hj=>by unfold app; rw [if_neg JK,Nat.sub_zero]
 clear hr ho hg
 obtain ⟨ts,tc,rfl,htc,hts⟩:=hO.bytes
 show Exit.then _ _ _ _ _
 have h1:¬ (64:Int)<(kl:Int):=by omega
 have h2:¬ (65:Int)≤(kl:Int):=by omega
 have HT:Own w2 (w.heap.size+1) 5 .u8 kl (bkk kl key) (.slice ts kl tc):=hO.congr fun j hj=>by unfold bkk; rw [if_pos hl,if_pos hj]
 have hpad:∀ n,kl≤n→bkk kl key n=0:=fun n hn=>by unfold bkk; rw [if_pos hl,if_neg JK]
 clear hO hts; go_wp2
 go_loopw [5] (fun tw w'=>∃ (n:Nat) (v:Value),v=tw∧kl≤n∧n≤64∧Own w' (w.heap.size+1) 5 .u8 n (bkk kl key) v∧Kr w (w.heap.size+1) [] [(w.heap.size,32)] w') (fun tw _=>64-j5n tw)
 case atStart=>exact ⟨_,_,rfl,xnR _,by omega,HT,K⟩
 case round =>
  clear K HT; obtain ⟨n,v,rfl,hn1,hn2,HT,K⟩:=hrel; obtain ⟨us,uc,rfl,huc,hus⟩:=HT.bytes; by_cases hlt:n<64
  · have g1:(n:Int)<64:=by omega
    go_upto_region 6 with fail; refine wR (xmL ?_); refine xaL (w':=wr.alloc (.cells #[.int .u8 0] 5)) (.slice (some ⟨wr.heap.size,0,none⟩) 1 1) JU ?_; obtain ⟨v,w5,hr,ho,hg⟩:=HT.more8 JK 0 (hpad n hn1) 32 K.size; replace K:=(K.call ((Below.refl wr.heap.size wr).alloc (xnR _) (.cells #[.int .u8 0] 5))).grown hg (fun b hb=>(World.ownsRow.lt HT b hb).1); refine xaL v (jW _ _ 32 _ _ _ rfl rfl rfl hr) ?_; refine xmL ?_; show Exit.inBlock _ _ _ _ _
    obtain ⟨ts2,tc2,rfl,_,_⟩:=ho.bytes; have HS:=show Hid _ from (And.intro ho K); clear HT K hr ho hg hus; go_wp2
    exact Zv
  obtain rfl:n=64:=by omega
  obtain ⟨G,_,hve,hG1,hG2,HG⟩:=HT.has JK; injection hve with hve1 _ hve3
  subst hve1 hve3; replace K:=K.own hG1 hG2 HG; clear HG HT hus hpad hlt hn1 hn2; go_upto_region 7 with fail; refine wR (xaL (w':=wr.alloc (.cells #[] 5)) (.slice (some ⟨wr.heap.size,0,none⟩) 0 0) JU ?_); refine xmL ?_; show Exit.then _ _ _ _ _; go_upto_region 8 with fail
  refine wR (xaL (w':=(wr.alloc (.cells #[] 5)).alloc (.cells #[] 5)) (.slice (some ⟨(wr.alloc (.cells #[] 5)).heap.size,0,none⟩) 0 0) JU ?_); refine xmL ?_; have H2:Two8 ((wr.alloc (.cells #[] 5)).alloc (.cells #[] 5)) wr.heap.size 0 (bxx 54 (bkk kl key)) (.slice (some ⟨wr.heap.size,0,none⟩) 0 0) 0 (bxx 92 (bkk kl key)) (.slice (some ⟨(wr.alloc (.cells #[] 5)).heap.size,0,none⟩) 0 0) :=
   ⟨Own.alloc (Own.lit wr wr.heap.size 5 .u8 0 _ (xnR _) Jj) _,Own.lit (wr.alloc (.cells #[] 5)) wr.heap.size 5 .u8 0 _ Jf Jj,fun e=>by injection e with e; simp at e⟩
  replace K:=(K.call ((Below.refl wr.heap.size wr).alloc (xnR _) (.cells #[] 5))).call ((Below.refl _ _).alloc (xnR _) (.cells #[] 5)); generalize (wr.alloc (.cells #[] 5)).alloc (.cells #[] 5)=w6 at K H2 ⊢; generalize Value.slice (some ⟨(wr.alloc (.cells #[] 5)).heap.size,0,none⟩) 0 0=vb at H2 ⊢; generalize Value.slice (some ⟨wr.heap.size,0,none⟩) 0 0=va at H2 ⊢; generalize wr.heap.size=Q at K H2; show Exit.then _ _ _ _ _; go_wp2
  go_loopw [7,8,9] (fun aw bw i w'=>∃ (n:Nat) (va vb:Value),n≤64∧va=aw∧vb=bw∧i=.int .i64 (n:Int)∧Two8 w' Q n (bxx 54 (bkk kl key)) va n (bxx 92 (bkk kl key)) vb∧Kr w Q [(G,.u8,64,bkk kl key)] [(w.heap.size,32)] w') (fun _ _ i _=>64-(intOf i).toNat)
  case atStart=>exact ⟨0,_,_,by omega,rfl,rfl,rfl,H2,K⟩
  case round =>
   clear K H2; obtain ⟨n,va,vb,hn,rfl,rfl,rfl,H2,K⟩:=hrel; have g1:(0:Int)≤(n:Int):=by omega
   by_cases hlt:n<64
   · have g2:(n:Int)<64:=by omega
     go_upto_region 12 with fail; refine wR (xm3 ?_); refine xqL (.pointer (some ⟨G,n,none⟩)) (fun w'=>q4x G 64 uc n hlt w' _ _ rfl rfl rfl) ?_; refine ycL (.int .u8 (bkk kl key n)) G n Tryz.underlying5 ((K.get _ _ _ _ mS).cell n hlt) ?_; refine xqL _ UK ?_; refine xaL (w':=wr.alloc (.cells #[.int .u8 (bxx 54 (bkk kl key) n)] 5)) (.slice (some ⟨wr.heap.size,0,none⟩) 1 1) JU ?_; obtain ⟨va1,w7,hr,h2,hg⟩:=H2.more JK (bxx 54 (bkk kl key) n) rfl 32 K.size; replace K:=(K.call ((Below.refl wr.heap.size wr).alloc (xnR _) (.cells #[.int .u8 (bxx 54 (bkk kl key) n)] 5))).grown hg (fun b hb=>(World.ownsRow.lt H2.one b hb).1); refine xaL va1 (jW _ _ 32 _ _ _ rfl rfl rfl hr) ?_; refine xmL ?_; replace H2:=h2.symm; clear hr hg h2; show Exit.then _ _ _ _ _; go_upto_region 13 with fail; refine wR (xmL ?_)
     refine xm2 ?_; refine xqL (.pointer (some ⟨G,n,none⟩)) (fun w'=>q4x G 64 uc n hlt w' _ _ rfl rfl rfl) ?_; refine ycL (.int .u8 (bkk kl key n)) G n Tryz.underlying5 ((K.get _ _ _ _ mS).cell n hlt) ?_; refine xqL _ UK ?_; refine xaL (w':=w7.alloc (.cells #[.int .u8 (bxx 92 (bkk kl key) n)] 5)) (.slice (some ⟨w7.heap.size,0,none⟩) 1 1) JU ?_; obtain ⟨vb1,w8,hr,h2,hg⟩:=H2.more JK (bxx 92 (bkk kl key) n) rfl 32 K.size; replace K:=(K.call ((Below.refl w7.heap.size w7).alloc (xnR _) (.cells #[.int .u8 (bxx 92 (bkk kl key) n)] 5))).grown hg (fun b hb=>(World.ownsRow.lt H2.one b hb).1); refine xaL vb1 (jW _ _ 32 _ _ _ rfl rfl rfl hr) ?_; refine xmL ?_; replace H2:=h2.symm; clear hr hg h2; show Exit.inBlock _ _ _ _ _
     have HS:=show Hid _ from (And.intro H2 K); clear H2 K; go_wp2
     go_roundw
     case rel=>first | exact ⟨n+1,_,_,by omega,rfl,rfl,by go_num,HS.out⟩ | ((repeat apply Exists.intro); refine ⟨⟨n+1,_,_,by omega,rfl,rfl,by go_num,HS.out⟩,rfl⟩)
     case measure=>simp [intOf]; omega
   obtain rfl:n=64:=by omega
   clear hlt hn g1; have hk64:=x3v kl key hk 64; go_upto_region 14 with fail; refine wR (xm2 ?_); obtain ⟨v1,w7,hr,ho,hg,_⟩:=jH (P:=Tryz.prog) (ty:=32) Tryz.underlying32 vG H2.one sp len cap z (hs.below K.below (xnR _)) hn0 Jj JK K.size; replace K:=K.grown hg (fun b hb=>(World.ownsRow.lt H2.one b hb).1); have hob:Own w7 Q 5 .u8 64 (bxx 92 (bkk kl key)) vb:=World.ownsRow.kept H2.two hg (.inr fun e=>H2.ne e.symm); refine xaL v1 (jW _ _ 32 _ _ _ rfl rfl rfl hr) ?_; obtain ⟨ip,ic,rfl,hic,his⟩:=ho.bytes; refine xcL (kZ ip (64+len) ic JK JK ho.nilCap (app (bxx 54 (bkk kl key)) 64 z) (rX 64 len _ _ (dW 54 JG _ 64 hk64) hz) _ his) ?_; rintro e w8 ⟨rfl,l⟩; replace K:=K.call l; replace hob:=hob.below l; clear l H2 ho hr hg his; refine xeL ?_; obtain ⟨hi,hhi⟩:∃ f,f=jB (64+len) (app (bxx 54 (bkk kl key)) 64 z):=⟨_,rfl⟩
   rw [← hhi]; replace hhi:=show Hid _ from hhi; refine qH jY 23 rfl JW (nL ?_); refine ysL .u8 32 hi w8.heap.size (jM (jK _ _ _ rfl).there) (jV _) ?_; have zT:=K.size
   have hQ1:w.heap.size<Q:=(K.room _ mS).2.1; have hbl:Below w8.heap.size w8 ((w8.alloc (.cells jY 23)).setCells w8.heap.size 0 (row .u8 32 hi)):=jS ((Below.refl w8.heap.size w8).alloc (xnR _) _) _ (xnR _) 0 _; replace hob:=hob.below hbl; replace K:=K.fresh .u8 32 hi jY 23 (jK _ _ _ rfl).there; clear hbl; generalize ((w8.alloc (.cells jY 23)).setCells w8.heap.size 0 (row .u8 32 hi))=w9 at K hob ⊢; generalize w8.heap.size=T at *; show Exit.then _ _ _ _ _; go_upto_region 15 with fail; refine wR (xmL ?_); refine xpL (.slice (some ⟨T,0,none⟩) 32 32) ?_
   obtain ⟨v2,w10,hr,ho,hg,_⟩:=jH (P:=Tryz.prog) (ty:=32) Tryz.underlying32 vG hob (some ⟨T,0,none⟩) 32 32 hi (fun j hj=>⟨_,rfl,by rw [Addr.add_mid,nZ]; exact (K.get _ _ _ _ mS).cell j hj⟩) Jq Jj JK (by have:=K.size; omega); replace K:=(K.back [] Q YQ YQ YW JK JK).grown hg (fun b hb=>(World.ownsRow.lt hob b hb).1); refine xaL v2 (jW _ _ 32 _ _ _ rfl rfl rfl hr) ?_; obtain ⟨op,oc,rfl,hoc,hos⟩:=ho.bytes; have hhi2:=hhi.out; refine xcL (kZ op 96 oc JG JK ho.nilCap (app (bxx 92 (bkk kl key)) 64 hi) (rX 64 32 _ _ (dW 92 JG _ 64 hk64) (by rw [hhi2]; exact uR _ _ _)) _ hos) ?_; rintro e w11 ⟨rfl,l⟩; replace K:=K.call l; clear l ho hr hg hos hob; refine xeL ?_; have hz':=(K.room _ mS).1; have hB:=(K.fill _ _ mS (row .u8 32 (jB 96 (app (bxx 92 (bkk kl key)) 64 hi)))).below; have hres:jB 96 (app (bxx 92 (bkk kl key)) 64 hi)=yD kl key len z:=by rw [hhi2]; rfl
   rw [hres] at hB ⊢; clear K hhi2 hres; generalize hj:yD kl key len z=f at *; refine ysL .u8 32 f (w.heap.size) (jM hz') (jV _) ?_; show Exit.then _ _ _ _ _; go_wp2
   exact bRq (v:=(.agg (row .u8 32 (f)).toArray)) (jQ Tryz.results73 rfl (Has.all hz' .u8 f).range Tryz.underlying23 rfl (jJ f)) rfl ⟨rfl,hB⟩
def eC (h:Nat→Int):Nat→Int:=fun j=>b32 (h (j/4)) (j%4)
def nbt (n:Nat):Nat:=if n=0 then 1 else (n+63)/64
def tH (h0:Nat→Int) (n:Nat) (f:Nat→Int):Nat→Nat→Int
 | 0=>h0
 | i+1=>bpr (tH h0 n f i) (fun j=>f (64*i+j)) ((min (64*i+64) n:Nat):Int) (decide (i+1=nbt n))
theorem q2l (h0:Nat→Int) (n:Nat) (f:Nat→Int) (h:In V 8 h0):∀ i,In V 8 (tH h0 n f i)
 | 0=>h
 | i+1=>q6h _ _ _ _ (q2l h0 n f h i)
theorem x0x (kl:Nat) (key:Nat→Int) (size len:Nat) (z:Nat→Int):∀ i,bH kl key size len z i=tH (bh0 kl size) (btl kl len) (btx kl key len z) i
 | 0=>rfl
 | i+1=>by
   unfold bH tH
   rw [x0x kl key size len z i]
   rfl
theorem q9h (kl:Nat) (key:Nat→Int) (size len:Nat) (z:Nat→Int):aN kl key size len z=eC (tH (bh0 kl size) (btl kl len) (btx kl key len z) (nbt (btl kl len))):=by
 funext j
 unfold aN eC
 rw [x0x]
 rfl
theorem j4v (m m':Nat→Int) (r:Nat) (h:∀ i,i<16→m i=m' i) (v:Nat→Int):∀ k,bN m (sg r) v k=bN m' (sg r) v k
 | 0=>rfl
 | k+1=>by
   unfold bN
   rw [j4v m m' r h v k]
   unfold bAt
   rw [h _ (kC r _),h _ (kC r _)]
theorem j4u (m m':Nat→Int) (h:∀ i,i<16→m i=m' i) (v:Nat→Int):∀ r,bR m v r=bR m' v r
 | 0=>rfl
 | r+1=>by
   unfold bR
   rw [j4u m m' h v r,j4v m m' r h]
theorem nX (h z z':Nat→Int) (t:Int) (last:Bool) (e:∀ j,j<64→z j=z' j):bpr h z t last=bpr h z' t last:=by
 funext i
 unfold bpr
 rw [j4u (bpw z) (bpw z') (fun i hi=>by unfold bpw w32; rw [e _ JK,e _ JK,e _ JK,e _ JK])]
def tx2 (fl:Nat) (y:Nat→Int) (len:Nat) (z:Nat→Int):Nat→Int:=fun j=>if j<fl then y j else xJ len z (j-fl)
theorem q2h (y z:Nat→Int) (j:Nat):tx2 64 y 0 z (64*0+j)=xJ 64 y j:=by
 unfold tx2 xJ
 rw [Nat.mul_zero,nZ]
 by_cases e:j<64
 · rw [if_pos e,if_pos e]
 rw [if_neg e,if_neg e,if_neg (xnZ _)]
theorem q1t (fl:Nat) (y:Nat→Int) (len:Nat) (z:Nat→Int):jB (fl+len) (app y fl z)=eC (tH (bh0 0 32) (fl+len) (tx2 fl y len z) (nbt (fl+len))):=by
 have e1:btl 0 (fl+len)=fl+len:=nZ _
 have e2:btx 0 (fun _=>0) (fl+len) (app y fl z)=tx2 fl y len z:=by
  funext j; unfold btx tx2 xJ app; rw [if_pos rfl]; by_cases e:j<fl
  · rw [if_pos JK,if_pos e,if_pos e]
  rw [if_neg e,if_neg e]; by_cases e3:j<fl+len
  · rw [if_pos e3,if_pos JK]
  rw [if_neg e3,if_neg JK]
 unfold jB
 rw [q9h,e1,e2]
def z0:Nat→Int:=fun _=>0
def zs (s:ByteArray):Nat→Int:=fun j=>((s.data.toList.getD j 0).toNat:Int)
theorem pE (kl:Nat) (key:Nat→Int) (len:Nat) (z:Nat→Int) (n:Nat):In 256 n (yD kl key len z):=uR _ _ n
theorem eE (kl:Nat) (key:Nat→Int) (len:Nat) (z y:Nat→Int) (h:∀ j,j<len→z j=y j):yD kl key len z=yD kl key len y:=by
 unfold yD
 rw [nE (64+len) (app (bxx 54 (bkk kl key)) 64 z) (app (bxx 54 (bkk kl key)) 64 y) (fun j hj=>by
  unfold app; by_cases e:j<64
  · rw [if_pos e,if_pos e]
  rw [if_neg e,if_neg e]; exact h _ JK)]
def j6o:Nat→Nat
 | 0=>0
 | _+1=>32
def ktx (il:Nat) (inf:Nat→Int) (i:Nat) (t:Nat→Int):Nat→Int:=app (app t (j6o i) inf) (j6o i+il) (fun _=>((i+1:Nat):Int))
def kT (k:Nat→Int) (il:Nat) (inf:Nat→Int):Nat→Nat→Int
 | 0=>fun _=>0
 | i+1=>yD 32 k (j6o i+il+1) (ktx il inf i (kT k il inf i))
theorem j8w (k:Nat→Int) (il:Nat) (inf:Nat→Int) (n:Nat):∀ i,In 256 n (kT k il inf i)
 | 0=>fun _ _=>⟨Int.le_refl 0,Ve⟩
 | _+1=>pE _ _ _ _ _
theorem x3b (t:Nat→Int) (inf:Nat→Int):yD 32 t 1 (fun _=>1)=kT t 0 inf 1:=eE _ _ _ _ _ (fun j hj=>by
 unfold ktx app
 rw [if_neg (show ¬ j<j6o 0+0 from xnZ j)]
 rfl)
theorem x3a (t:Nat→Int) (inf:Nat→Int):yD 32 t 33 (app (kT t 0 inf 1) 32 (fun _=>2))=kT t 0 inf 2:=eE _ _ _ _ _ (fun j hj=>by
 unfold ktx app
 by_cases e:j<32
 · rw [if_pos e,if_pos (show j<j6o 1+0 from e),if_pos (show j<j6o 1 from e)]
 · rw [if_neg e,if_neg (show ¬ j<j6o 1+0 from e)]
   rfl)
section
def ub (l:Nat→Bool) (i:Nat):Nat→Bool:=fun j=>if j=i then true else l j
def uv (v:Nat→Value) (i:Nat) (x:Value):Nat→Value:=fun j=>if j=i then x else v j
theorem j0p (l:Nat→Bool) (i:Nat):ub l i i=true:=if_pos rfl
theorem mK (l:Nat→Bool) {i j:Nat} (h:j≠i):ub l i j=l j:=if_neg h
theorem q7e (v:Nat→Value) (i:Nat) (x:Value):uv v i x i=x:=if_pos rfl
theorem j2p (v:Nat→Value) {i j:Nat} (x:Value) (h:j≠i):uv v i x j=v j:=if_neg h
def un:Nat→(Nat→Bool)→Nat
 | 0,_=>0
 | n+1,l=>un n l+(if l n then 0 else 1)
theorem j2q {l l':Nat→Bool}:∀ n,(∀ j,j<n→l j=l' j)→un n l=un n l'
 | 0,_=>rfl
 | n+1,h=>by
   unfold un
   rw [j2q n fun j hj=>h j JK,h n JK]
theorem x0d (l:Nat→Bool) (i:Nat) (hl:l i=false):∀ n,i<n→un n (ub l i)+1=un n l
 | 0,h=>by omega
 | n+1,h=>by
   unfold un
   by_cases e:n=i
   · subst e
     rw [j0p,hl,j2q (l:=ub l n) (l':=l) n fun j hj=>mK l JK]
     rfl
   · rw [mK l e,← x0d l i hl n JK]
     omega
theorem j7t (l:Nat→Bool):∀ n,un n l=0→∀ i,i<n→l i=true
 | 0,_,i,hi=>by omega
 | n+1,h,i,hi=>by
   unfold un at h
   by_cases e:i=n
   · subst e
     cases hli:l i with
     | true=>rfl
     | false=>rw [hli] at h; simp at h
   · exact j7t l n JK i JK
section
variable {P:Program} {ops:Array Oper} {Q:Exit→Act→World→Prop} {md:Region.Mode}
def zW (ops:Array Oper) (i:Nat):Option Tmp:=(ops[i]?).bind (·.dst)
def gR (ops:Array Oper) (a:Act) (l:Nat→Bool) (v:Nat→Value):Nat→Act
 | 0=>a
 | n+1=>if l n=true then (gR ops a l v n).put (zW ops n) (v n) else gR ops a l v n
theorem cG (a:Act) {l l':Nat→Bool} {v v':Nat→Value}:∀ n,(∀ j,j<n→l j=l' j∧v j=v' j)→gR ops a l v n=gR ops a l' v' n
 | 0,_=>rfl
 | n+1,h=>by
   unfold gR
   rw [cG a n fun j hj=>h j JK,(h n JK).1,(h n JK).2]
def tW (ops:Array Oper):Bool:=(List.range ops.size).all fun i=>(List.range ops.size).all fun j=>i == j || match zW ops i with | none=>true | some d=>!(zW ops j == some d)
def lU (ops:Array Oper) (z:Nat):Bool:=(List.range ops.size).all fun i=>match zW ops i with | none=>true | some d=>decide (d<z)
def x2t (md:Region.Mode) (ops:Array Oper):Bool:=(List.range ops.size).all fun i=>match ops[i]? with | none=>true | some o=>o.after.all fun e=>!Region.binds md e || decide (e.on<i)
theorem j2a {i:Nat} {d:Tmp} (h:zW ops i=some d):i<ops.size:=by
 unfold zW at h
 rcases Nat.lt_or_ge i ops.size with h' | h'
 · exact h'
 rw [Array.getElem?_eq_none h'] at h; cases h
theorem wB (hD:tW ops=true) {i j:Nat} {d:Tmp} (hij:i≠j) (hi:zW ops i=some d):zW ops j≠some d:=fun hj=>by
 have h:=List.all_eq_true.1 (List.all_eq_true.1 hD i (List.mem_range.2 (j2a hi))) j (List.mem_range.2 (j2a hj))
 rw [hi,hj] at h
 simp [hij] at h
theorem cU (hD:tW ops=true) (a:Act) (l:Nat→Bool) (v:Nat→Value) (i:Nat) (x:Value) (hl:l i=false):∀ n,i<n→(gR ops a l v n).put (zW ops i) x=gR ops a (ub l i) (uv v i x) n
 | 0,h=>by omega
 | n+1,h=>by
   unfold gR
   by_cases e:n=i
   · subst e
     rw [j0p,hl,q7e,if_pos rfl,if_neg JG,cG (l:=ub l n) (l':=l) (v:=uv v n x) (v':=v) a n fun j hj=>⟨mK l JK,j2p v x JK⟩]
   · rw [mK l e,j2p v x e]
     by_cases hn:l n=true
     · rw [if_pos hn,if_pos hn,← cU hD a l v i x hl n JK]
       exact Act.put_comm _ _ _ fun d hd=>wB hD e hd
     · rw [if_neg hn,if_neg hn]
       exact cU hD a l v i x hl n JK
theorem q3k (a:Act) (d:Option Tmp) (x:Value):(a.put d x).tmps.size=a.tmps.size:=by
 cases d <;> simp [Act.put]
theorem dR (a:Act) (l:Nat→Bool) (v:Nat→Value):∀ n,(gR ops a l v n).tmps.size=a.tmps.size
 | 0=>rfl
 | n+1=>by
   unfold gR
   split
   · rw [q3k,dR a l v n]
   · exact dR a l v n
theorem x2e (a:Act) (d:Tmp) (x:Value) (h:d<a.tmps.size):(a.put (some d) x).tmps.getD d undef=x:=by
 rw [Array.getD_eq_getD_getElem?]
 simp [Act.put,h]
theorem j8e (a:Act) (e:Option Tmp) (d:Tmp) (x:Value) (h:e≠some d):(a.put e x).tmps.getD d undef=a.tmps.getD d undef:=by
 cases e with
 | none=>rfl
 | some e =>
   have h':e≠d:=fun he=>h (by rw [he])
   rw [Array.getD_eq_getD_getElem?,Array.getD_eq_getD_getElem?]; simp [Act.put,h']
theorem j8d (hD:tW ops=true) (a:Act) (l:Nat→Bool) (v:Nat→Value) (j:Nat) (d:Tmp) (hd:zW ops j=some d) (hz:d<a.tmps.size) (hl:l j=true):∀ n,j<n→(gR ops a l v n).tmps.getD d undef=v j
 | 0,h=>by omega
 | n+1,h=>by
   unfold gR
   by_cases e:n=j
   · subst e
     rw [if_pos hl,hd,x2e _ _ _ (by rw [dR]; exact hz)]
   · have h1:=j8d hD a l v j d hd hz hl n JK
     by_cases hn:l n=true
     · rw [if_pos hn,j8e _ _ _ _ (wB hD (Ne.symm e) hd)]
       exact h1
     · rw [if_neg hn]
       exact h1
theorem cV (a:Act) (l:Nat→Bool) (v:Nat→Value) (d:Tmp) (hd:∀ j,zW ops j≠some d):∀ n,(gR ops a l v n).tmps.getD d undef=a.tmps.getD d undef
 | 0=>rfl
 | n+1=>by
   unfold gR
   by_cases hn:l n=true
   · rw [if_pos hn,j8e _ _ _ _ (hd n)]
     exact cV a l v d hd n
   · rw [if_neg hn]
     exact cV a l v d hd n
def q2b (P:Program) (md:Region.Mode) (ops:Array Oper) (Q:Exit→Act→World→Prop) (a0:Act) (J:(Nat→Bool)→(Nat→Value)→World→Prop) (i:Nat):Prop :=
 ∀ o,ops[i]?=some o→∀ l v w,J l v w→l i=false→(∀ e∈o.after,Region.binds md e=true→l e.on=true) →
  wpOp P ops Q i (fun a' w'=>∃ x,a'=(gR ops a0 l v ops.size).put o.dst x∧J (ub l i) (uv v i x) w') (gR ops a0 l v ops.size) w
theorem j5r (L:Array Bool) (i:Nat) (hi:i<L.size):(fun j=>(L.setIfInBounds i true).getD j false)=ub (fun j=>L.getD j false) i:=by
 funext j
 by_cases e:j=i
 · subst e; rw [j0p,Array.getD_eq_getD_getElem?,Array.getElem?_setIfInBounds_self_of_lt hi]; rfl
 rw [mK _ e,getD_set_ne false (Ne.symm e)]
theorem dN {L:Array Bool} {i:Nat} (hi:i<L.size):L.getD i true=L.getD i false:=by
 rw [Array.getD_eq_getD_getElem?,Array.getD_eq_getD_getElem?,Array.getElem?_eq_getElem hi]
 rfl
theorem j7p {L:Array Bool} (hs:L.size=ops.size) (hlow:x2t md ops=true) (hr:Region.ready md ops L=[]):∀ i,i<ops.size→L.getD i false=true:=by
 intro i
 induction i using Nat.strongRecOn with
 | _ i ih =>
   intro hi
   cases e:L.getD i false with
   | true=>rfl
   | false =>
     have hmem:i∈Region.ready md ops L:=mem_ready.2 ⟨by rw [dN JK,e],ops[i],Array.getElem?_eq_getElem hi,fun x hx hb=>by
      have h:=List.all_eq_true.1 hlow i (List.mem_range.2 hi); rw [Array.getElem?_eq_getElem hi] at h; have h2:=Array.all_eq_true_iff_forall_mem.1 h x hx; rw [hb] at h2; have h3:x.on<i:=by simpa using h2
      exact ih x.on h3 JK⟩
     rw [hr] at hmem
     cases hmem
theorem bX (a0:Act) (J:(Nat→Bool)→(Nat→Value)→World→Prop) (hD:tW ops=true) (hlow:x2t md ops=true) (hdoes:∀ i,i<ops.size→q2b P md ops Q a0 J i)
 (fin:∀ l v w,J l v w→(∀ i,i<ops.size→l i=true)→Q .normal (gR ops a0 l v ops.size) w):∀ n L v w,L.size=ops.size→un ops.size (fun j=>L.getD j false)=n→J (fun j=>L.getD j false) v w →
 wpAny P md ops Q n L (gR ops a0 (fun j=>L.getD j false) v ops.size) w
 | 0,L,v,w,hs,hn,hJ=>by
   have hall:=j7t _ _ hn
   refine ⟨?_,fin _ v w hJ hall⟩
   cases hr:Region.ready md ops L with
   | nil=>rfl
   | cons i r =>
     have hm:i∈Region.ready md ops L:=by rw [hr]; exact mS
     obtain ⟨h0,o,ho,_⟩:=mem_ready.1 hm
     have hi:i<ops.size:=(Array.getElem?_eq_some_iff.1 ho).1
     rw [dN JK] at h0
     have:=hall i hi
     rw [h0] at this
     cases this
 | n+1,L,v,w,hs,hn,hJ=>by
   refine ⟨fun hr=>fin _ v w hJ (j7p hs hlow hr),fun i hi=>?_⟩
   obtain ⟨h0,o,ho,hp⟩:=mem_ready.1 hi
   have hlt:i<ops.size:=(Array.getElem?_eq_some_iff.1 ho).1
   rw [dN JK] at h0
   refine wpOp_mono (fun a' w' h=>?_) (hdoes i hlt o ho (fun j=>L.getD j false) v w hJ h0 hp)
   obtain ⟨x,rfl,hJ'⟩:=h
   have hd:o.dst=zW ops i:=by unfold zW; rw [ho]; rfl
   rw [hd,cU hD a0 _ v i x h0 ops.size hlt,← j5r L i JK]
   refine bX a0 J hD hlow hdoes fin n _ _ w' (by simp [hs]) ?_ ?_
   · rw [j5r L i JK]
     have:=x0d (fun j=>L.getD j false) i h0 ops.size hlt
     omega
   · rw [j5r L i JK]
     exact hJ'
def aT (a:Act) (v:Nat→Value):Nat→List (Option Tmp)→Act
 | _,[]=>a
 | i,d::ds=>aT (a.put d (v i)) v (i+1) ds
theorem wX (v:Nat→Value) (d:Option Tmp):∀ (ds:List (Option Tmp)) (a:Act) (i:Nat),aT a v i (ds++[d])=(aT a v i ds).put d (v (i+ds.length))
 | [],_,_=>rfl
 | e::ds,a,i=>by
   show aT (a.put e (v i)) v (i+1) (ds++[d])=(aT (a.put e (v i)) v (i+1) ds).put d (v (i+(ds.length+1)))
   rw [wX v d ds,show i+1+ds.length=i+(ds.length+1) by omega]
theorem j3j (a:Act) (l:Nat→Bool) (v:Nat→Value):∀ n,(∀ i,i<n→l i=true)→gR ops a l v n=aT a v 0 ((List.range n).map (zW ops))
 | 0,_=>rfl
 | n+1,h=>by
   unfold gR
   rw [if_pos (h n JK),j3j a l v n fun i hi=>h i JK,List.range_succ,List.map_append]
   show _=aT a v 0 ((List.range n).map (zW ops)++[zW ops n])
   rw [wX]
   simp
theorem mG (J:(Nat→Bool)→(Nat→Value)→World→Prop) (n:Nat) (ds:List (Option Tmp)) {id:Nat} {a:Act} {w:World} (hm:P.follows .mixedOrders=true) (hn:ops.size=n) (hds:(List.range n).map (zW ops)=ds) (hD:tW ops=true) (hlow:x2t .any ops=true)
 (h0:J (fun _=>false) (fun _=>undef) w.drew) (hdoes:∀ i,i<n→q2b P .any ops Q a J i)
 (fin:∀ l v w,J l v w→(∀ i,i<n→l i=true)→Q .normal (aT a v 0 ds) w):(Code.region id ops true).wp P Q a w:=by
 subst hn; refine wp_region_any hm ?_
 have hf:(fun j=>(Array.replicate ops.size false).getD j false)=fun _=>false:=by
  funext j; rw [Array.getD_eq_getD_getElem?]; by_cases e:j<ops.size
  · rw [Array.getElem?_replicate,if_pos e]; rfl
  rw [Array.getElem?_replicate,if_neg e]; rfl
 have hp:gR ops a (fun _=>false) (fun _=>undef) ops.size=a:=by
  have:∀ n,gR ops a (fun _=>false) (fun _=>undef) n=a:=fun n=>by
   induction n with
   | zero=>rfl
   | succ n ih=>unfold gR; rw [if_neg JG]; exact ih
  exact this _
 have hu:un ops.size (fun _=>false)=ops.size:=by
  have:∀ n,un n (fun _=>false)=n:=fun n=>by
   induction n with
   | zero=>rfl
   | succ n ih=>unfold un; rw [ih]; rfl
  exact this _
 have h:=bX (Q:=Q) a J hD hlow hdoes (fun l v w hJl hl=>by
  rw [j3j a l v ops.size hl,hds]; exact fin l v w hJl hl) ops.size (Array.replicate ops.size false) (fun _=>undef) w.drew Jf (by rw [hf]; exact hu) (by rw [hf]; exact h0)
 rw [hf,hp] at h
 exact h
def bY (o:Oper) (j:Nat):Bool:=o.after.any fun e=>Region.binds .any e&&e.on == j
section
variable {a0:Act} {J:(Nat→Bool)→(Nat→Value)→World→Prop} {i:Nat} {o:Oper}
theorem j2b (hD:tW ops=true) (hW:lU ops a0.tmps.size=true) (hi:ops[i]?=some o)
 (h:∀ l v w (a:Act),J l v w→l i=false→(∀ j,bY o j=true→l j=true)→(∀ j d,zW ops j=some d→l j=true→a.eval (.tmp d)=v j)→(∀ d,((List.range ops.size).all fun j=>!(zW ops j == some d))=true→a.eval (.tmp d)=a0.eval (.tmp d)) →
  wpOp P ops Q i (fun a' w'=>∃ x,a'=a.put o.dst x∧J (ub l i) (uv v i x) w') a w):q2b P .any ops Q a0 J i:=by
 intro o' ho' l v w hJ hl hp
 obtain rfl:o=o':=Option.some.inj (hi.symm.trans ho')
 refine h l v w _ hJ hl (fun j hj=>?_) (fun j d hd hlj=>?_) (fun d hd=>?_)
 · unfold bY at hj; obtain ⟨e,he,hb⟩:=Array.any_eq_true'.1 hj; rw [xbA] at hb; have h1:=hp e he hb.1; have h2:e.on=j:=by simpa using hb.2
   rw [← h2]; exact h1
 · have hlt:=j2a hd; have hz:d<a0.tmps.size:=by
    have h:=List.all_eq_true.1 hW j (List.mem_range.2 hlt); rw [hd] at h; simpa using h
   exact j8d hD a0 l v j d hd hz hlj _ hlt
 exact cV a0 l v d (fun j hj=>by
  have h:=List.all_eq_true.1 hd j (List.mem_range.2 (j2a hj)); rw [hj] at h; simp at h) _
theorem x1t {K:Act→World→Prop} {a:Act} {w w':World} (hi:ops[i]?=some o) (hg:o.guard=none) (he:(execOp a.eval o).run P w=.ok .skip w') (h:K (a.put o.dst undef) w'):wpOp P ops Q i K a w:=by
 have hw:Region.wanted o (yielded ops a.tmps)=true:=by unfold Region.wanted; rw [hg]
 unfold wpOp
 simp only [hi,hw,if_true]; exact Xt
theorem zB (hD:tW ops=true) (hW:lU ops a0.tmps.size=true) (hi:ops[i]?=some o) (hg:o.guard=none)
 (h:∀ l v w (a:Act),J l v w→l i=false→(∀ j,bY o j=true→l j=true)→(∀ j d,zW ops j=some d→l j=true→a.eval (.tmp d)=v j)→(∀ d,((List.range ops.size).all fun j=>!(zW ops j == some d))=true→a.eval (.tmp d)=a0.eval (.tmp d)) →
  ∃ x w',(execOp a.eval o).run P w=.ok (.value x) w'∧J (ub l i) (uv v i x) w'):q2b P .any ops Q a0 J i :=
 j2b hD hW hi fun l v w a hJ hl hp hat hold=>by
  obtain ⟨x,w',he,hJ'⟩:=h l v w a hJ hl hp hat hold
  exact zC hi hg he ⟨x,rfl,hJ'⟩
theorem q1f (hD:tW ops=true) (hW:lU ops a0.tmps.size=true) (hi:ops[i]?=some o) (hg:o.guard=none)
 (h:∀ l v w (a:Act),J l v w→l i=false→(∀ j,bY o j=true→l j=true)→(∀ j d,zW ops j=some d→l j=true→a.eval (.tmp d)=v j)→(∀ d,((List.range ops.size).all fun j=>!(zW ops j == some d))=true→a.eval (.tmp d)=a0.eval (.tmp d)) →
  ∃ f args R,(execOp a.eval o).run P w=.ok (.enter f args) w∧Calls P f args w R∧∀ e w',R e w'→∃ x,e=.returned x∧J (ub l i) (uv v i x) w'):q2b P .any ops Q a0 J i :=
 j2b hD hW hi fun l v w a hJ hl hp hat hold=>by
  obtain ⟨f,args,R,he,hc,hK⟩:=h l v w a hJ hl hp hat hold
  exact gA hi hg he hc fun e w' hR=>by
   obtain ⟨x,hx,hJ'⟩:=hK e w' hR
   exact ⟨x,hx,x,rfl,hJ'⟩
theorem dL (hD:tW ops=true) (hW:lU ops a0.tmps.size=true) (hi:ops[i]?=some o) (hg:o.guard=none)
 (h:∀ l v w (a:Act),J l v w→l i=false→(∀ j,bY o j=true→l j=true)→(∀ j d,zW ops j=some d→l j=true→a.eval (.tmp d)=v j)→(∀ d,((List.range ops.size).all fun j=>!(zW ops j == some d))=true→a.eval (.tmp d)=a0.eval (.tmp d)) →
  ∃ w',(execOp a.eval o).run P w=.ok .skip w'∧J (ub l i) (uv v i undef) w'):q2b P .any ops Q a0 J i :=
 j2b hD hW hi fun l v w a hJ hl hp hat hold=>by
  obtain ⟨w',he,hJ'⟩:=h l v w a hJ hl hp hat hold
  exact x1t hi hg he ⟨undef,rfl,hJ'⟩
end
end
end
section
theorem mC {P:Program} {fn:Func} {tmps:Array Value} {w:World} {a b:Tmp} {ty ty':TypeId} {x y:Nat} {cs cs':List Value} {d d':TypeDesc} (hr:fn.results=#[.cell a ty,.cell b ty'])
 (ha:tmps.getD a undef=.pointer (some ⟨x,0,none⟩)) (hb:tmps.getD b undef=.pointer (some ⟨y,0,none⟩)) (hc:w.rangeAt x 0 cs) (hc':w.rangeAt y 0 cs') (hu:P.underlying ty=some d) (hu':P.underlying ty'=some d') (hd:d.isRow=true) (hd':d'.isRow=true)
 (hi:(P.info? ty).map (·.size)=some cs.length) (hi':(P.info? ty').map (·.size)=some cs'.length) :
 (results fn tmps).run P w=.ok (.tuple #[.agg cs.toArray,.agg cs'.toArray]) w:=by
 have h1:=run_loadVar_mid (P:=P) w x 0 ty cs d hc hu hd hi; have h2:=run_loadVar_mid (P:=P) w y 0 ty' cs' d' hc' hu' hd' hi'
 rw [Array.getD_eq_getD_getElem?] at ha hb
 simp [results,hr,ha,hb,asAddr,h1,h2]
theorem j2s {w w':World} {B n:Nat} {r:Option Nat} (h:w.there B 0 n) (g:w.grownBy w' r) (hb:B<w.heap.size) (hne:r≠some B):w'.there B 0 n:=fun j hj=>by
 have e:=g.block B hb (fun e=>hne e.symm)
 have:=h j hj
 rw [World.cell?_of_block (a:=⟨B,0+j,none⟩) e,World.frozen?_of_block (a:=⟨B,0+j,none⟩) e]
 exact this
theorem Fb.grown {n w0 B:Nat} {w w':World} {r:Option Nat} (h:Fb n w0 B w) (g:w.grownBy w' r) (hne:r≠some B):Fb n w0 B w':=⟨h.lo,xnL h.hi g.size,j2s h.th g h.hi hne⟩
theorem x4r {o:Oper} {a:Act} {w:World} (x:Operand) (c:Int) (ho:o.op=.buildSlice 32 1 #[(0,x)]) (hx:a.eval x=.int .u8 c):(execOp a.eval o).run Tryz.prog w=.ok (.value (.slice (some ⟨w.heap.size,0,none⟩) 1 1)) (w.alloc (.cells #[.int .u8 c] 5)):=by
 have e:(Instr.buildSlice 32 1 #[(0,.int .u8 c)]).run Tryz.prog w=.ok (.slice (some ⟨w.heap.size,0,none⟩) 1 1) (w.alloc (.cells #[.int .u8 c] 5)):=by kernel_rfl
 unfold execOp
 simp only [ho,List.map_toArray,List.map_cons,List.map_nil,hx,Sem.run_bind,e,xO,Sem.run_pure]
theorem x3k {P:Program} {o:Oper} {a:Act} {w:World} (f:FuncId) (ts:Array TypeId) (x y:Operand) (p q:Value) (ho:o.op=.call { callee:=.value (.func f),args:=#[x,y],argTypes:=ts }) (hx:a.eval x=p) (hy:a.eval y=q) (hc:(callFunc f #[p,q]).run P w=.ok (.enter f #[p,q]) w):(execOp a.eval o).run P w=.ok (.enter f #[p,q]) w:=by
 have hf:a.eval (.func f)=.func (.func f) #[] #[]:=rfl
 simp [execOp,ho,resolve,invoke,hx,hy,hf,Deferred.ofValue,hc]
theorem bV {P:Program} {o:Oper} {a:Act} {w:World} (k:IntKind) (n:Nat) (f:Nat→Int) (b:Nat) (ty:TypeId) (x y:Operand) (ho:o.op=.store ty x y) (hx:a.eval x=.pointer (some ⟨b,0,none⟩)) (hy:a.eval y=.agg (row k n f).toArray)
 (ht:w.there b 0 (row k n f).toArray.size) (hz:(P.info? ty).map (·.size)=some (row k n f).toArray.size):(execOp a.eval o).run P w=.ok .skip (w.setCells b 0 (row k n f)):=by
 unfold execOp
 simp only [ho,hx,hy]; have e:=run_storeAt_mid (P:=P) w b 0 ty (row k n f).toArray ht hz (aO (jT k n f)); simp only [Sem.run_bind,e,xO,Sem.run_pure]
theorem j8s {P:Program} {o:Oper} {a:Act} {w:World} (k:IntKind) (n:Nat) (f:Nat→Int) (b:Nat) (ty:TypeId) (x:Operand) (d:TypeDesc) (ho:o.op=.load ty x) (hx:a.eval x=.pointer (some ⟨b,0,none⟩)) (hu:P.underlying ty=some d) (hd:d.isRow=true) (hz:(P.info? ty).map (·.size)=some (row k n f).length) (hh:w.rangeAt b 0 (row k n f)) :
 (execOp a.eval o).run P w=.ok (.value (.agg (row k n f).toArray)) w:=by
 have e:=run_loadVar_mid (P:=P) w b 0 ty (row k n f) d hh hu hd hz
 exact Qh
theorem Src.grown {w w':World} {p n:Nat} {f:Nat→Int} {r:Option Nat} (h:Src w (some ⟨p,0,Option.none⟩) n f) (g:w.grownBy w' r) (hp:p<w.heap.size) (hne:r≠some p):Src w' (some ⟨p,0,Option.none⟩) n f:=fun j hj=>by
 obtain ⟨ad,e,hc⟩:=h j hj
 injection e with e
 subst e
 refine ⟨_,rfl,?_⟩
 rw [Addr.add_mid] at hc ⊢
 rw [World.cell?_of_block (a:=⟨p,0+j,Option.none⟩) (g.block p hp (fun e=>hne e.symm))]
 exact hc
section
variable {P:Program} {ops:Array Oper} {Q:Exit→Act→World→Prop} {md:Region.Mode} {S:World→Prop}
theorem bM {o:Oper} {rest:List Oper} {a:Act} {w:World} (hw:Region.wanted o (yielded ops a.tmps)=false) (h:wpList P ops Q rest (a.put o.dst undef) w):wpList P ops Q (o::rest) a w:=by
 unfold wpList
 rw [if_neg (by rw [hw]; decide)]
 exact h
end
theorem qV {C:Prop} (h:true=false):C:=by cases h
end
theorem pU (b:Nat) (w:World):(Instr.sliceAt 23 (.pointer (some ⟨b,0,none⟩)) none none none).run Tryz.prog w=.ok (.slice (some ⟨b,0,none⟩) 32 32) w:=by kernel_rfl
def kA (k:Nat→Int) (len:Nat) (z:Nat→Int):Nat→Int:=kT (yD 32 k len z) 0 z0 1
def kB (k:Nat→Int) (len:Nat) (z:Nat→Int):Nat→Int:=kT (yD 32 k len z) 0 z0 2
theorem fG (k:Nat→Int) (hk:In 256 32 k) (sp:Option Addr) (len cap:Nat) (hlen:len≤140737488351232) (hn0:sp=none→cap=0) (z:Nat→Int) (hz:In 256 len z) (w:World) (hs:Src w sp len z) :
 Calls Tryz.prog 44 #[(.agg (row .u8 32 (k)).toArray),.slice sp len cap] w fun e w'=>e=.returned (.tuple #[(.agg (row .u8 32 (kA k len z)).toArray),(.agg (row .u8 32 (kB k len z)).toArray)])∧Below w.heap.size w w':=by
 have K:=Kr.init w; replace K:=K.box .u8 32 k 23 (w.heap.size) rfl; replace K:=K.make 32 jY 23 (w.heap.size+1) Jf (jK _ _ _ Jf).there; replace K:=K.make 32 jY 23 (w.heap.size+1+1) Jf (jK _ _ _ Jf).there
 go_enter Tryz.func44,Tryz.ntmps44
 go_upto_region 1 with fail; generalize (((w.alloc (.cells (row .u8 32 k).toArray 23)).alloc (.cells jY 23)).alloc (.cells jY 23))=w0 at K ⊢; refine wR (xqL (.slice (some ⟨w.heap.size,0,none⟩) 32 32) Uq ?_); refine xmL ?_
 refine clT (fP (some ⟨w.heap.size,0,none⟩) 32 32 JG JG Jq k hk sp len cap JK hn0 z hz _ (K.get _ _ _ _ mS).src0 (hs.below K.below (xnR _))) K ?_; clear K; intro w1 K; refine qH jY 23 rfl JW (nL ?_)
 refine ysL .u8 32 ((yD 32 k len z)) w1.heap.size (jM (jK _ _ _ rfl).there) (jV _) ?_; have zT:=K.size; replace K:=K.fresh .u8 32 ((yD 32 k len z)) jY 23 (jK _ _ _ rfl).there; generalize ((w1.alloc (.cells jY 23)).setCells w1.heap.size 0 (row .u8 32 ((yD 32 k len z))))=w2 at K ⊢
 generalize w1.heap.size=T at *; show Exit.then _ _ _ _ _; go_upto_region 2 with fail; refine wR (xqL (.slice (some ⟨T,0,none⟩) 32 32) (fun w'=>yR _ _ _ _ rfl rfl (pU T w')) ?_); refine xaL (w':=w2.alloc (.cells #[.int .u8 1] 5)) (.slice (some ⟨w2.heap.size,0,none⟩) 1 1) JU ?_
 have H1:=(Has.new w2 .u8 1 (fun _=>1) 5 w2.heap.size rfl).src0; replace K:=K.call ((Below.refl w2.heap.size w2).alloc (xnR _) (.cells #[.int .u8 1] 5))
 have e1:In 256 1 (fun _=>(1:Int)):=fun _ _=>(by decide:(0:Int)≤1∧(1:Int)<256)
 refine xcL (fP (some ⟨T,0,none⟩) 32 32 JG JG Jq (yD 32 k len z) (pE _ _ _ _ _) (some ⟨w2.heap.size,0,none⟩) 1 1 JG Jq (fun _=>1) e1 _ (K.get _ _ _ _ mS).src0 H1) ?_; rintro e w3 ⟨rfl,l⟩; replace K:=K.call l; clear l H1 e1
 rw [x3b _ z0]
 refine xeL ?_; refine qH jY 23 rfl JW (nL ?_); refine ysL .u8 32 (kA k len z) w3.heap.size (jM (jK _ _ _ rfl).there) (jV _) ?_; have zA:=K.size; replace K:=K.fresh .u8 32 (kA k len z) jY 23 (jK _ _ _ rfl).there
 generalize ((w3.alloc (.cells jY 23)).setCells w3.heap.size 0 (row .u8 32 (kA k len z)))=wq at K ⊢; generalize w3.heap.size=A at *; show Exit.then _ _ _ _ _; go_upto_region 3 with fail
 refine mG (fun l v W=>Below wq.heap.size wq W∧(l 0=true→v 0=.slice (some ⟨T,0,none⟩) 32 32)∧(l 1=true→l 3=false→Own W wq.heap.size 5 .u8 0 z0 (v 1))∧(l 2=true→v 2=.slice (some ⟨A,0,none⟩) 32 32)∧(l 3=true→l 5=false→Own W wq.heap.size 5 .u8 32 (kA k len z) (v 3))∧(l 4=true→l 5=false→∃ p,v 4=.slice (some ⟨p,0,none⟩) 1 1∧Src W (some ⟨p,0,none⟩) 1 (fun _=>2)∧p<W.heap.size∧(l 1=true→l 3=false→(v 1).ownBlock≠some p))∧(l 5=true→l 3=true)∧(l 5=true→l 6=false→Own W wq.heap.size 5 .u8 33 (app (kA k len z) 32 (fun _=>2)) (v 5))∧(l 6=true→v 6=(.agg (row .u8 32 (kB k len z)).toArray))∧(l 7=true→l 8=false→∃ B,v 7=.pointer (some ⟨B,0,none⟩)∧Fb 32 wq.heap.size B W∧(l 1=true→l 3=false→(v 1).ownBlock≠some B)∧(l 3=true→l 5=false→(v 3).ownBlock≠some B))∧(l 8=true→(∀ i,i<8→l i=true)∧∃ B,v 7=.pointer (some ⟨B,0,none⟩)∧Has W B .u8 32 (kB k len z)∧wq.heap.size≤B∧B<W.heap.size)) 9 [some 15,some 16,some 17,some 18,some 19,some 20,some 21,some 8,none] JU JU JU JU JU ?_ ?_ ?_
 · exact ⟨(Below.refl _ _).drew,fun h=>qV h.symm,fun h _=>qV h.symm,fun h=>qV h.symm,fun h _=>qV h.symm,fun h _=>qV h.symm,fun h=>qV h.symm,fun h _=>qV h.symm,fun h=>qV h.symm,fun h _=>qV h.symm,fun h=>qV h.symm⟩
 · intro i hi
   match i,hi with
   | 0,_ =>
     refine zB JU JU rfl rfl ?_; intro l v W a hJ hl hp hat hold; obtain ⟨fb,f0,f1,f2,f3,f4,q5,f5,f6,f7,f8⟩:=hJ; exact ⟨_,W,yR _ _ _ _ rfl (hold 6 JU) (pU T W),⟨fb,fun _=>rfl,f1,f2,f3,f4,fun h=>q5 h,f5,f6,f7,fun h=>qV (((f8 h).1 0 JG).symm.trans hl)⟩⟩
   | 1,_ =>
     refine zB JU JU rfl rfl ?_; intro l v W a hJ hl hp hat hold; obtain ⟨fb,f0,f1,f2,f3,f4,q5,f5,f6,f7,f8⟩:=hJ; have lb:=(Below.refl W.heap.size W).alloc (xnR _) (.cells #[] 5); exact ⟨.slice (some ⟨W.heap.size,0,none⟩) 0 0,W.alloc (.cells #[] 5),by kernel_rfl,⟨fb.trans (lb.mono fb.size),f0,fun _ _=>Own.lit W wq.heap.size 5 .u8 0 z0 fb.size Jj,f2,fun h g=>(f3 h g).below lb,fun h g=>(by obtain ⟨p,h1,h2,h3,_⟩:=f4 h g; exact ⟨p,h1,h2.below lb (xnR _),xnL h3 lb.size,fun _ _ e=>by injection e with e; simp only at e; omega⟩),fun h=>q5 h,fun h g=>(f5 h g).below lb,f6,fun h g=>(by obtain ⟨B,h1,h2,_,h4⟩:=f7 h g; have hi:=h2.hi; exact ⟨B,h1,h2.call lb,fun _ _ e=>by injection e with e; simp only at e; omega,h4⟩),fun h=>qV (((f8 h).1 1 JG).symm.trans hl)⟩⟩
   | 2,_ =>
     refine zB JU JU rfl rfl ?_; intro l v W a hJ hl hp hat hold; obtain ⟨fb,f0,f1,f2,f3,f4,q5,f5,f6,f7,f8⟩:=hJ; exact ⟨_,W,yR _ _ _ _ rfl (hold 7 JU) (pU A W),⟨fb,f0,f1,fun _=>rfl,f3,f4,fun h=>q5 h,f5,f6,f7,fun h=>qV (((f8 h).1 2 JG).symm.trans hl)⟩⟩
   | 3,_ =>
     refine zB JU JU rfl rfl ?_; intro l v W a hJ hl hp hat hold; obtain ⟨fb,f0,f1,f2,f3,f4,q5,f5,f6,f7,f8⟩:=hJ; have ho1:=f1 (hp 1 JU) hl; obtain ⟨x,w',hr,ho,hgr,hob⟩:=jH (P:=Tryz.prog) (ty:=32) Tryz.underlying32 vG ho1 (some ⟨A,0,none⟩) 32 32 (kA k len z) ((K.get _ _ _ _ mS).src0.below fb (xnR _)) Jq Jj JK fb.size; have hx:Own w' wq.heap.size 5 .u8 32 (kA k len z) x:=by
      rw [nZ] at ho; exact ho.congr fun j _=>by unfold app; rw [if_neg (xnZ j),Nat.sub_zero]
     exact ⟨x,w',jW _ _ 32 _ _ _ rfl (hat 1 16 rfl (hp 1 JU)) ((hat 2 17 rfl (hp 2 JU)).trans (f2 (hp 2 JU))) hr,⟨fb.grown hgr fb.size (fun b hb=>(World.ownsRow.lt ho1 b hb).1),f0,fun _ g=>qV g,f2,fun _ _=>hx,fun h g=>(by obtain ⟨p,h1,h2,h3,h4⟩:=f4 h g; exact ⟨p,h1,h2.grown hgr h3 (h4 (hp 1 JU) hl),xnL h3 hgr.size,fun _ g=>qV g⟩),fun _=>rfl,fun h g=>qV ((q5 h).symm.trans hl),f6,fun h g=>(by obtain ⟨B,h1,h2,h3,_⟩:=f7 h g; exact ⟨B,h1,h2.grown hgr (h3 (hp 1 JU) hl),fun _ g=>qV g,fun _ _ e=>by rcases hob B e with e' | e'; exact h3 (hp 1 JU) hl e'; have:=h2.hi; omega⟩),fun h=>qV (((f8 h).1 3 JG).symm.trans hl)⟩⟩
   | 4,_ =>
     refine zB JU JU rfl rfl ?_; intro l v W a hJ hl hp hat hold; obtain ⟨fb,f0,f1,f2,f3,f4,q5,f5,f6,f7,f8⟩:=hJ; have lb:=(Below.refl W.heap.size W).alloc (xnR _) (.cells #[.int .u8 2] 5); exact ⟨_,_,x4r _ _ rfl rfl,⟨fb.trans (lb.mono fb.size),f0,fun h g=>(f1 h g).below lb,f2,fun h g=>(f3 h g).below lb,fun _ _=>⟨W.heap.size,rfl,(Has.new W .u8 1 (fun _=>2) 5 W.heap.size rfl).src0,by simp,fun h g e=>by have:=(World.ownsRow.lt (f1 h g) _ e).2; omega⟩,fun h=>q5 h,fun h g=>(f5 h g).below lb,f6,fun h g=>WH,fun h=>qV (((f8 h).1 4 JG).symm.trans hl)⟩⟩
   | 5,_ =>
     refine zB JU JU rfl rfl ?_; intro l v W a hJ hl hp hat hold; obtain ⟨fb,f0,f1,f2,f3,f4,q5,f5,f6,f7,f8⟩:=hJ; have ho3:=f3 (hp 3 JU) hl; obtain ⟨p,hp4,hsp,_⟩:=f4 (hp 4 JU) hl; obtain ⟨x,w',hr,hx,hgr,_⟩:=jH (P:=Tryz.prog) (ty:=32) Tryz.underlying32 vG ho3 (some ⟨p,0,none⟩) 1 1 (fun _=>2) hsp Jq Jj JK fb.size; exact ⟨x,w',jW _ _ 32 _ _ _ rfl (hat 3 18 rfl (hp 3 JU)) ((hat 4 19 rfl (hp 4 JU)).trans (hp4)) hr,⟨fb.grown hgr fb.size (fun b hb=>(World.ownsRow.lt ho3 b hb).1),f0,fun _ g=>qV ((hp 3 JU).symm.trans g),f2,fun _ g=>qV g,fun _ g=>qV g,fun _=>(hp 3 JU),fun _ _=>hx,f6,fun h g=>(by obtain ⟨B,h1,h2,_,h4⟩:=f7 h g; exact ⟨B,h1,h2.grown hgr (h4 (hp 3 JU) hl),fun _ g=>qV ((hp 3 JU).symm.trans g),fun _ g=>qV g⟩),fun h=>qV (((f8 h).1 5 JG).symm.trans hl)⟩⟩
   | 6,_ =>
     refine q1f JU JU rfl rfl ?_; intro l v W a hJ hl hp hat hold; obtain ⟨fb,f0,f1,f2,f3,f4,q5,f5,f6,f7,f8⟩:=hJ; have ho:=f5 (hp 5 JU) hl; obtain ⟨xs,xc,hxe,hxc,hxs⟩:=ho.bytes; rw [hxe] at ho; refine ⟨73,_,_,x3k 73 _ _ _ _ _ rfl ((hat 0 15 rfl (hp 0 JU)).trans (f0 (hp 0 JU))) ((hat 5 20 rfl (hp 5 JU)).trans (hxe)) JU,fP (some ⟨T,0,none⟩) 32 32 JG JG Jq (yD 32 k len z) (pE _ _ _ _ _) xs 33 xc JG ho.nilCap (app (kA k len z) 32 (fun _=>2)) (rX 32 1 _ _ (j8w _ _ _ _ _) (fun _ _=>(by decide:(0:Int)≤2∧(2:Int)<256))) W ((K.get _ _ _ _ (mT _ mS)).src0.below fb (xnR _)) hxs,?_⟩; rintro e w' ⟨rfl,lb⟩; exact ⟨_,rfl,⟨fb.trans (lb.mono fb.size),f0,fun h g=>(f1 h g).below lb,f2,fun h g=>(f3 h g).below lb,fun h g=>Ks,q5,fun _ g=>qV g,fun _=>by show Value.agg _=Value.agg _; rw [show yD 32 (yD 32 k len z) 33 (app (kA k len z) 32 (fun _=>2))=kB k len z from x3a _ z0],fun h g=>WH,fun h=>qV (((f8 h).1 6 JG).symm.trans hl)⟩⟩
   | 7,_ =>
     refine zB JU JU rfl rfl ?_; intro l v W a hJ hl hp hat hold; obtain ⟨fb,f0,f1,f2,f3,f4,q5,f5,f6,f7,f8⟩:=hJ; have lb:=(Below.refl W.heap.size W).alloc (xnR _) (.cells jY 23); exact ⟨_,W.alloc (.cells jY 23),by kernel_rfl,⟨fb.trans (lb.mono fb.size),f0,fun h g=>(f1 h g).below lb,f2,fun h g=>(f3 h g).below lb,fun h g=>Ks,q5,fun h g=>(f5 h g).below lb,f6,fun _ _=>⟨W.heap.size,rfl,⟨fb.size,by simp,(jK W _ _ rfl).there⟩,fun h g e=>by have:=(World.ownsRow.lt (f1 h g) _ e).2; omega,fun h g e=>by have:=(World.ownsRow.lt (f3 h g) _ e).2; omega⟩,fun h=>qV (((f8 h).1 7 JG).symm.trans hl)⟩⟩
   | 8,_ =>
     refine dL JU JU rfl rfl ?_; intro l v W a hJ hl hp hat hold; obtain ⟨fb,f0,f1,f2,f3,f4,q5,f5,f6,f7,f8⟩:=hJ; obtain ⟨B,hB,hF,_⟩:=f7 (hp 7 JU) hl; exact ⟨_,bV .u8 32 (kB k len z) B 23 _ _ rfl ((hat 7 8 rfl (hp 7 JU)).trans (hB)) ((hat 6 21 rfl (hp 6 JU)).trans (f6 (hp 6 JU))) (jM hF.th) (jV _),⟨jS fb B hF.lo 0 _,f0,fun _ g=>qV ((hp 3 JU).symm.trans g),f2,fun _ g=>qV ((hp 5 JU).symm.trans g),fun _ g=>qV ((hp 5 JU).symm.trans g),q5,fun _ g=>qV ((hp 6 JU).symm.trans g),f6,fun _ g=>qV g,fun _=>⟨fun i hi=>(match i,hi with | 0,_=>(hp 0 JU) | 1,_=>(hp 1 JU) | 2,_=>(hp 2 JU) | 3,_=>(hp 3 JU) | 4,_=>(hp 4 JU) | 5,_=>(hp 5 JU) | 6,_=>(hp 6 JU) | 7,_=>(hp 7 JU) | _+8,h=>by omega),B,hB,Has.all hF.th .u8 _,hF.lo,by rw [jN]; exact hF.hi⟩⟩⟩
   | _+9,h=>omega
 intro l v W hJ hl
 obtain ⟨fb,f0,f1,f2,f3,f4,q5,f5,f6,f7,f8⟩:=hJ
 obtain ⟨q8,G,e7,HG,hG1,hG2⟩:=f8 (hl 8 JG)
 simp only [aT,Act.put,List.setIfInBounds_toArray,List.set_cons_zero,List.set_cons_succ]
 rw [f0 (hl 0 JG),f2 (hl 2 JG),f6 (hl 6 JG),e7]
 have hzq:=K.size; replace K:=K.call fb; replace K:=K.own (xnT hzq hG1) hG2 HG; replace K:=K.sub [(G,.u8,32,kB k len z),(A,.u8,32,kA k len z)] WJ; clear HG hG1 hG2 q8 q5 fb f0 f1 f2 f3 f4 f5 f6 f7 f8 e7; generalize v 1=v1; generalize v 3=v3; generalize v 4=v4; generalize v 5=v5
 clear hl v l; generalize W.heap.size=mm at K; show Exit.then _ _ _ _ _; go_upto_region 4 with fail
 refine mG (fun l v W=>Kr w (mm) [(G,.u8,32,kB k len z),(A,.u8,32,kA k len z)] [(w.heap.size+1+1,32),(w.heap.size+1,32)] W∧(l 0=true→v 0=(.agg (row .u8 32 (kA k len z)).toArray))∧(l 1=true→v 1=(.agg (row .u8 32 (kB k len z)).toArray))∧(l 2=true→Has W (w.heap.size+1) .u8 32 (kA k len z))∧(l 3=true→Has W (w.heap.size+1+1) .u8 32 (kB k len z))) 4 [some 22,some 23,none,none] JU JU JU JU JU ?_ ?_ ?_
 · exact ⟨K.drew,fun h=>qV h.symm,fun h=>qV h.symm,fun h=>qV h.symm,fun h=>qV h.symm⟩
 · intro i hi
   match i,hi with
   | 0,_ =>
     refine zB JU JU rfl rfl ?_; intro l v W a hJ hl hp hat hold; obtain ⟨fk,f0,f1,f2,f3⟩:=hJ; exact ⟨_,W,j8s .u8 32 (kA k len z) A 23 _ _ rfl (hold 7 JU) Tryz.underlying23 rfl (jJ _) (fk.get _ _ _ _ (mT _ mS)).range,fk,fun _=>rfl,f1,f2,f3⟩
   | 1,_ =>
     refine zB JU JU rfl rfl ?_; intro l v W a hJ hl hp hat hold; obtain ⟨fk,f0,f1,f2,f3⟩:=hJ; exact ⟨_,W,j8s .u8 32 (kB k len z) G 23 _ _ rfl (hold 8 JU) Tryz.underlying23 rfl (jJ _) (fk.get _ _ _ _ mS).range,fk,f0,fun _=>rfl,f2,f3⟩
   | 2,_ =>
     refine dL JU JU rfl rfl ?_; intro l v W a hJ hl hp hat hold; obtain ⟨fk,f0,f1,f2,f3⟩:=hJ; exact ⟨_,bV .u8 32 (kA k len z) (w.heap.size+1) 23 _ _ rfl (hold 4 JU) ((hat 0 22 rfl (hp 0 JU)).trans (f0 (hp 0 JU))) (jM (fk.room _ (mT _ mS)).1) (jV _),fk.fill _ _ (mT _ mS) _,f0,f1,fun _=>Has.all (fk.room _ (mT _ mS)).1 .u8 _,fun h=>(f3 h).setAll_other _ JK 0 _⟩
   | 3,_ =>
     refine dL JU JU rfl rfl ?_; intro l v W a hJ hl hp hat hold; obtain ⟨fk,f0,f1,f2,f3⟩:=hJ; exact ⟨_,bV .u8 32 (kB k len z) (w.heap.size+1+1) 23 _ _ rfl (hold 5 JU) ((hat 1 23 rfl (hp 1 JU)).trans (f1 (hp 1 JU))) (jM (fk.room _ mS).1) (jV _),fk.fill _ _ mS _,f0,f1,fun h=>(f2 h).setAll_other _ JK 0 _,fun _=>Has.all (fk.room _ mS).1 .u8 _⟩
   | _+4,h=>omega
 intro l v W hJ hl
 obtain ⟨fk,f0,f1,f2,f3⟩:=hJ
 simp only [aT,Act.put,List.setIfInBounds_toArray,List.set_cons_zero,List.set_cons_succ]
 rw [f0 (hl 0 JG),f1 (hl 1 JG)]
 have hB:=fk.below; have HA:=f2 (hl 2 JG); have HB:=f3 (hl 3 JG); clear fk f0 f1 f2 f3 hl v l; generalize hAe:kA k len z=fa at *; generalize hBe:kB k len z=fc at *; go_wp2
 exact bRq (v:=.tuple #[(.agg (row .u8 32 (fa)).toArray),(.agg (row .u8 32 (fc)).toArray)]) (mC Tryz.results44 rfl rfl HA.range HB.range Tryz.underlying23 Tryz.underlying23 rfl rfl (jJ fa) (jJ fc)) rfl ⟨by rw [hAe,hBe],hB⟩
def vsz (n:Nat):Nat:=if n<64 then 1 else if n<16384 then 2 else if n<1073741824 then 4 else 8
def tV (z:Nat→Int):Nat→Int
 | 0=>z 0%64
 | i+1=>tV z i*256+z (i+1)
def tK (b:Int):Nat:=2^(b/64).toNat
def tE (len:Nat) (z:Nat→Int):Int:=if len=0 then 3 else if len<tK (z 0) then 3 else if vsz (tV z (tK (z 0)-1)).toNat≠tK (z 0) then 90 else 0
def tN (len:Nat) (z:Nat→Int):Int:=if tE len z=0 then tV z (tK (z 0)-1) else 0
theorem x3u (a b:List Int) (j:Nat):bl (a++b) j=if j<a.length then bl a j else bl b (j-a.length):=by
 unfold bl
 simp only [List.getD_eq_getElem?_getD,List.getElem?_append]
 split <;> rfl
def Byts (b:List Int):Prop:=∀ x∈b,0≤x∧x<256
theorem Byts.bl {b:List Int} (h:Byts b):In 256 b.length (bl b):=fun j hj=>by
 unfold Go.Proofs.YtknodlefhclijaaGreatDoor.bl
 rw [List.getD_eq_getElem?_getD,List.getElem?_eq_getElem hj]
 exact h _ (List.getElem_mem hj)
theorem Byts.drop {b:List Int} (h:Byts b) (n:Nat):Byts (b.drop n):=fun x hx=>h x (List.mem_of_mem_drop hx)
theorem Byts.take {b:List Int} (h:Byts b) (n:Nat):Byts (b.take n):=fun x hx=>h x (List.mem_of_mem_take hx)
theorem x3t {a b:List Int} (hl:a.length=b.length) (h:∀ j,j<a.length→bl a j=bl b j):a=b:=by
 apply List.ext_getElem hl
 intro j h1 h2
 have:=h j h1
 unfold bl at this
 rw [List.getD_eq_getElem?_getD,List.getD_eq_getElem?_getD,gE h1,gE h2] at this
 exact this
theorem q9j (b:List Int) (n j:Nat) (h:j<n):bl (b.take n) j=bl b j:=by
 unfold bl
 simp [h]
def nm (b:List Int):Except Int (Int × List Int):=if tE b.length (bl b)=0 then .ok (tN b.length (bl b),b.drop (tK (bl b 0))) else .error (tE b.length (bl b))
def MX:Int:=4611686018427387903
def rd:Nat→Int→List Int→Except Int (List (Int × Int) × List Int)
 | 0,_,b=>.ok ([],b)
 | n+1,last,b=>match nm b with
   | .error e=>.error e
   | .ok (g,b1)=>match nm b1 with
     | .error e=>.error e
     | .ok (l,b2)=>if MX-last<g∨MX-last-g<l then .error 100 else match rd n (last+g+l) b2 with
       | .error e=>.error e
       | .ok (rs,b3)=>.ok ((last+g,last+g+l)::rs,b3)
def tx (b:List Int):Except Int (List Int × List Int):=match nm b with
 | .error e=>.error e
 | .ok (n,r)=>if 128<n then .error 2 else if (r.length:Int)<n then .error 3 else .ok (r.take n.toNat,r.drop n.toNat)
structure Frm where
 kind:Int
 pos:Int
 lim:Int
 rg:List (Int × Int)
 byt:List Int
 tok:List Int
def z8:List Int:=[0,0,0,0,0,0,0,0]
def fp (k:Int) (b:List Int):Except Int (Frm × List Int) :=
 if k=3∨k=4 then (if b.length<8 then .error 3 else .ok (⟨k,0,0,[],[],b.take 8⟩,b.drop 8))
 else match nm b with
  | .error e=>.error e
  | .ok (a,b1) =>
    if k=1 then (match tx b1 with
     | .error e=>.error e
     | .ok (t,b2)=>.ok (⟨k,a,0,[],t,z8⟩,b2))
    else if k=2∨k=7 then (match nm b1 with
     | .error e=>.error e
     | .ok (l,b2)=>match nm b2 with
       | .error e=>.error e
       | .ok (n,b3)=>if 8<n then .error 100 else match rd n.toNat (if k=2 then a else 0) b3 with
         | .error e=>.error e
         | .ok (rs,b4)=>.ok (⟨k,a,l,rs,[],z8⟩,b4))
    else .ok (⟨k,a,0,[],[],z8⟩,b1)
abbrev OwnL (w:World) (base:Nat) (l:List Int) (v:Value):Prop:=Own w base 5 .u8 l.length (bl l) v
theorem lE (a b:List Int) (j:Nat):app (bl a) a.length (bl b) j=bl (a++b) j:=by
 rw [x3u]
 rfl
theorem OwnL.app {w:World} {base:Nat} {a b:List Int} {v:Value} (h:Own w base 5 .u8 (a.length+b.length) (app (bl a) a.length (bl b)) v):OwnL w base (a++b) v:=by
 unfold OwnL
 rw [List.length_append]
 exact h.congr fun j _=>lE a b j
theorem gW (n:Nat) (f:Nat→Int) (j:Nat) (h:j<n):bl ((List.range n).map f) j=f j:=by
 unfold bl
 simp [List.getD_eq_getElem?_getD,h]
structure Sym where
 h:Nat→Int
 c:Nat→Int
 k:Nat→Int
 has:Bool
 n:Nat
structure SymW (s:Sym):Prop where
 h:In 256 32 s.h
 c:In 256 32 s.c
 k:In 256 32 s.k
def jU (s:Sym) (b:List Int):Sym:={ s with h:=jB (32+b.length) (app s.h 32 (bl b)) }
def jZ (s:Sym) (b:List Int):Sym:={ s with c:=kA s.c b.length (bl b),k:=kB s.c b.length (bl b),has:=true,n:=0 }
def snz (n:Nat):Nat→Int:=fun j=>if j<4 then 0 else dig n (j-4)
theorem j0t (n:Nat):In 256 12 (snz n):=fun j _=>by
 unfold snz
 split
 · exact ⟨Int.le_refl _,show (0:Int)<256 by decide⟩
 · exact rJ n (j-4+1) _ JK
def qG (s:Sym) (t:List Int):List Int:=if s.has=true then (List.range (t.length+16)).map (fV s.k (snz s.n) 32 s.h t.length (bl t)) else t
def kX (s:Sym):Sym:=if s.has=true then { s with n:=s.n+1 } else s
def qN (s:Sym) (t:List Int):Sym:=jU (kX s) (qG s t)
def soE (s:Sym) (b:List Int):Int:=if s.has=true then aoE s.k (snz s.n) 32 s.h b.length (bl b) else 0
def soT (s:Sym) (b:List Int):List Int:=if s.has=true then (List.range (aoL s.k (snz s.n) 32 s.h b.length (bl b))).map (xB s.k 1 (snz s.n) (bl b)) else b
def xH (s:Sym) (b:List Int):Sym:=if soE s b=0 then jU (kX s) b else s
theorem j0f {k n:Nat→Int} {m:Nat} {b:Nat→Int} {len:Nat} {z y:Nat→Int} (h:∀ j,j<len→z j=y j):aok k n m b len z↔aok k n m b len y:=by
 unfold aok
 constructor
 · rintro ⟨h1,h2⟩; refine ⟨h1,?_⟩; rw [nU k n m b b (len-16) y z (fun _ _=>rfl) (fun j hj=>(h j JK).symm),h2]; exact qZ 256 16 fun j hj=>h _ JK
 rintro ⟨h1,h2⟩
 refine ⟨h1,?_⟩
 rw [nU k n m b b (len-16) z y (fun _ _=>rfl) (fun j hj=>h j JK),h2]
 exact qZ 256 16 fun j hj=>(h _ JK).symm
theorem zD (s:Sym) (t:List Int):(qG s t).length=if s.has=true then t.length+16 else t.length:=by
 unfold qG
 split
 · rw [List.length_map,List.length_range]
 rfl
theorem lT {s:Sym} (hs:s.has=true) (t:List Int) (j:Nat) (hj:j<t.length+16):bl (qG s t) j=fV s.k (snz s.n) 32 s.h t.length (bl t) j:=by
 unfold qG
 rw [if_pos hs,gW _ _ _ hj]
theorem kP {s:Sym} {t:List Int} (ht:Byts t):Byts (qG s t):=by
 unfold qG
 split
 · intro x hx; obtain ⟨j,hj,rfl⟩:=List.mem_map.1 hx; exact q9o s.k (snz s.n) 32 s.h t.length (bl t) ht.bl j (List.mem_range.1 hj)
 exact ht
theorem rS (s:Sym) (t:List Int):soE s (qG s t)=0:=by
 unfold soE
 split
 · rename_i hs; have hl:(qG s t).length=t.length+16:=by rw [zD,if_pos hs]
   have hc:=(j0f (k:=s.k) (n:=snz s.n) (m:=32) (b:=s.h) (len:=t.length+16) (fun j hj=>lT hs t j hj)).2 (j5b s.k (snz s.n) 32 s.h t.length (bl t)); rw [hl]; unfold aoE; rw [if_neg JK,if_pos hc]
 rfl
theorem bT (s:Sym) (t:List Int) (ht:Byts t):soT s (qG s t)=t:=by
 unfold soT
 by_cases hs:s.has=true
 · rw [if_pos hs]; have hl:(qG s t).length=t.length+16:=by rw [zD,if_pos hs]
   have hc:=(j0f (k:=s.k) (n:=snz s.n) (m:=32) (b:=s.h) (len:=t.length+16) (fun j hj=>lT hs t j hj)).2 (j5b s.k (snz s.n) 32 s.h t.length (bl t)); have hL:aoL s.k (snz s.n) 32 s.h (qG s t).length (bl (qG s t))=t.length:=by
    rw [hl]; unfold aoL; rw [if_pos hc]; omega
   rw [hL]; refine x3t (by rw [List.length_map,List.length_range]) fun j hj=>?_
   rw [List.length_map,List.length_range] at hj; rw [gW _ _ _ hj]; have h1:=j7s s.k (snz s.n) 32 s.h t.length (bl t) ht.bl j hj; have h2:xB s.k 1 (snz s.n) (bl (qG s t)) j=xB s.k 1 (snz s.n) (fV s.k (snz s.n) 32 s.h t.length (bl t)) j:=by
    unfold xB; rw [lT hs t j JK]
   rw [h2,h1]
 rw [if_neg hs]
 unfold qG
 rw [if_neg hs]
theorem fT (s:Sym) (t:List Int):xH s (qG s t)=qN s t:=by
 unfold xH qN
 rw [if_pos (rS s t)]
theorem uF {s:Sym} (h:SymW s) (b:List Int):SymW (jU s b):=⟨uR _ _ _,h.c,h.k⟩
theorem j7x {s:Sym} (h:SymW s):SymW (kX s):=by
 unfold kX
 split
 · exact ⟨h.h,h.c,h.k⟩
 exact h
theorem rK {s:Sym} (h:SymW s) (t:List Int):SymW (qN s t):=uF (j7x h) _
theorem rT {s:Sym} (h:SymW s) (b:List Int):SymW (xH s b):=by
 unfold xH
 split
 · exact uF (j7x h) _
 exact h
theorem x5b (k:Nat→Int) (len:Nat) (z:Nat→Int):In 256 32 (kA k len z):=j8w _ _ _ _ _
theorem x5a (k:Nat→Int) (len:Nat) (z:Nat→Int):In 256 32 (kB k len z):=j8w _ _ _ _ _
theorem yM {s:Sym} (h:SymW s) (b:List Int):SymW (jZ s b):=⟨h.h,x5b _ _ _,x5a _ _ _⟩
theorem sN (s:Sym) (b:List Int) (h:s.has=true):jU (kX s) b=jU ⟨s.h,s.c,s.k,s.has,s.n+1⟩ b:=by unfold kX; rw [if_pos h]
theorem q2s {s:Sym} (h:s.has=true) (t:List Int):qG s t=(List.range (t.length+16)).map (fV s.k (snz s.n) 32 s.h t.length (bl t)):=by unfold qG; rw [if_pos h]
theorem rM {s:Sym} (h:s.has=true) (b:List Int):soT s b=(List.range (aoL s.k (snz s.n) 32 s.h b.length (bl b))).map (xB s.k 1 (snz s.n) (bl b)):=by unfold soT; rw [if_pos h]
theorem lM {s:Sym} (h:s.has=true) (b:List Int):soE s b=aoE s.k (snz s.n) 32 s.h b.length (bl b):=by unfold soE; rw [if_pos h]
theorem j7w {s:Sym} {b:List Int} (h:soE s b≠0):soT s b=[]:=by
 cases hh:s.has with
 | false=>exact absurd (by unfold soE; rw [hh]; rfl) h
 | true =>
   rw [lM hh] at h; rw [rM hh]; have:¬ aok s.k (snz s.n) 32 s.h b.length (bl b):=fun k=>h (by
    have h16:=k.1; unfold aoE; rw [if_neg JK,if_pos k])
   unfold aoL; rw [if_neg this]; rfl
section
section
variable {P:Program} {ops:Array Oper} {Q:Exit→Act→World→Prop} {md:Region.Mode} {S:World→Prop}
theorem uW {o:Oper} {rest:List Oper} {a:Act} {w:World} (c:Bool) (v x:Value) (hc:Region.wanted o (yielded ops a.tmps)=c) (hx:x=(bif c then v else undef)) (hv:c=true→(execOp a.eval o).run P w=.ok (.value v) w)
 (h:wpList P ops Q rest (a.put o.dst x) w):wpList P ops Q (o::rest) a w:=by
 subst hx
 unfold wpList
 rw [hc]
 cases c with
 | true =>
   rw [if_pos rfl]; refine .inl ?_; unfold Oper.wp; rw [hv rfl]; exact h
 | false =>
   rw [if_neg JG]; exact h
theorem q4f {i:Nat} {oi:Oper} (dst:Option Tmp) (hdst:oi.dst=dst) {fuel:Nat} {listed:Array Bool} {a:Act} {w:World} (c:Bool) (v x:Value) (hi:ops[i]?=some oi) (hc:Region.wanted oi (yielded ops a.tmps)=c) (hx:x=(bif c then v else undef))
 (hv:c=true→∀ w,S w→(execOp a.eval oi).run P w=.ok (.value v) w)
 (hs:Region.noSelect ops=true) (hf:Region.free md ops listed i=true) (hr:(Region.ready md ops listed).contains i=true)
 (hQ:∀ c a w,Q (.panic c) (a.put dst x) w→Q (.panic c) a w) (hS:S w)
 (h:wpAnyH P md ops Q S fuel (listed.setIfInBounds i true) (a.put dst x) w):wpAnyH P md ops Q S (fuel+1) listed a w:=by
 subst hdst
 refine wpAnyH_take hi hs hf hr hQ ?_ hS h
 subst hx
 cases c with
 | true=>exact .inl ⟨hc,hv rfl⟩
 | false=>exact .inr ⟨hc,rfl⟩
theorem xR {o:Oper} {a:Act} {w:World} (v:Value) (b j:Nat) (ty:TypeId) (x y:Operand) (ho:o.op=.store ty x y) (hx:a.eval x=.pointer (some ⟨b,j,none⟩)) (hy:a.eval y=v) (hv:v.cells=#[v]) (h1:v.oneCell'=true)
 (hc:(w.cell? ⟨b,j,none⟩).isSome=true) (hf:w.frozen? ⟨b,j,none⟩=false) (hz:(P.info? ty).map (·.size)=some 1):(execOp a.eval o).run P w=.ok .skip (w.setCell ⟨b,j,none⟩ v):=by
 have h0:∀ k:Nat,k < [v].length→k=0:=fun k hk=>by simpa using hk
 have hst:=run_storeCells_cells (P:=P) b j [v] 0 w (fun k hk=>by rw [h0 k hk]; simpa using hc) (fun k hk=>by rw [h0 k hk]; simpa using hf) (fun u hu=>by simp at hu; subst hu; exact h1)
 cases hq:P.info? ty with
 | none=>simp [hq] at hz
 | some i =>
   have hs:i.size=1:=by simp [hq] at hz; omega
   simp only [Nat.add_zero] at hst; have e:(storeVar ty ⟨b,j,none⟩ v).run P w=.ok () (w.setCell ⟨b,j,none⟩ v):=by
    simp [storeVar,sizeOf,typeInfo,hq,hv,hs,hst,World.setCells]
   unfold execOp; simp only [ho,hx,hy,Instr.storeAt,Instr.sureAddr,Sem.run_bind,Sem.run_pure,xO,e]
theorem jG {o:Oper} {rest:List Oper} {a:Act} {w w':World} (hw:Region.wanted o (yielded ops a.tmps)=true) (he:(execOp a.eval o).run P w=.ok .skip w') (h:wpList P ops Q rest (a.put o.dst undef) w'):wpList P ops Q (o::rest) a w:=by
 unfold wpList
 rw [if_pos hw]
 exact Xt
theorem qL {o:Oper} {a:Act} {w:World} (ty:TypeId) (x:Operand) (p:Addr) (v:Value) (ho:o.op=.load ty x) (hx:a.eval x=.pointer (some p)) (hagg:∀ w,(isAgg ty).run P w=.ok false w) (hc:w.cell? p=some v):(execOp a.eval o).run P w=.ok (.value v) w:=by
 exact ZU
theorem jD {o:Oper} {a:Act} {w:World} (ty:TypeId) (x:Operand) (p:Addr) (cs:List Value) (ho:o.op=.load ty x) (hx:a.eval x=.pointer (some p)) (hagg:∀ w,(isAgg ty).run P w=.ok true w) (hz:∀ w,(sizeOf ty).run P w=.ok cs.length w)
 (hc:∀ j v,cs[j]?=some v→w.cell? (p.add j)=some v):(execOp a.eval o).run P w=.ok (.value (.agg cs.toArray)) w:=by
 have e:(loadVar ty p).run P w=.ok (.agg cs.toArray) w:=by simp [loadVar,Sem.run_bind,hagg,hz,run_loadCells_list w p cs hc]
 exact Qh
end
theorem Own.src {w:World} {base:Nat} {e:TypeId} {n:Nat} {f:Nat→Int} {sp:Option Addr} {c:Nat} (h:Own w base e .u8 n f (.slice sp n c)):Src w sp n f:=by
 obtain ⟨sp',c',e,_,hs⟩:=h.bytes
 injection e with e1 _ _
 subst e1
 exact hs
structure Mm (w0:World) (l:List (Nat × List Value)) (w:World):Prop where
 rows:∀ p∈l,(∀ j,j<p.2.length→w.cell? ⟨p.1,j,none⟩=p.2[j]?∧w.frozen? ⟨p.1,j,none⟩=false)∧w0.heap.size≤p.1∧p.1<w.heap.size
 apart:l.Pairwise fun p q=>p.1≠q.1
 below:Below w0.heap.size w0 w
section
variable {w0 w w':World} {l:List (Nat × List Value)}
theorem Mm.init (w:World):Mm w [] w:=⟨fun _ h=>Vc,List.Pairwise.nil,Below.refl _ _⟩
theorem Mm.of (b:Below w0.heap.size w0 w):Mm w0 [] w:=⟨fun _ h=>Vc,List.Pairwise.nil,b⟩
theorem Mm.call (h:Mm w0 l w) (b:Below w.heap.size w w'):Mm w0 l w' :=
 ⟨fun p hp=>⟨fun j hj=>by
  have hlt:=(h.rows p hp).2.2
  rw [b.cell (p:=⟨p.1,j,none⟩) hlt,b.frozen (p:=⟨p.1,j,none⟩) hlt]
  exact (h.rows p hp).1 j hj,(h.rows p hp).2.1,xnL (h.rows p hp).2.2 b.size⟩,h.apart,h.below.trans (b.mono h.below.size)⟩
theorem Mm.drew (h:Mm w0 l w):Mm w0 l w.drew:=h.call (Below.refl _ _).drew
theorem Mm.sub (h:Mm w0 l w) (l':List (Nat × List Value)) (hl:l'.Sublist l):Mm w0 l' w:=⟨fun p hp=>h.rows p (hl.subset hp),h.apart.sublist hl,h.below⟩
theorem Mm.box (h:Mm w0 l w) (c:Array Value) (t:TypeId) (b:Nat) (hb:b=w.heap.size):Mm w0 ((b,c.toList)::l) (w.alloc (.cells c t)):=by
 subst hb; have hc:=h.call ((Below.refl w.heap.size w).alloc (xnR _) (.cells c t))
 refine ⟨fun p hp=>?_,List.pairwise_cons.2 ⟨fun q hq e=>?_,h.apart⟩,hc.below⟩
 · rcases xc1 hp with rfl | hp
   · refine ⟨fun j hj=>⟨?_,World.frozen?_alloc_at _ _ _ _ rfl⟩,h.below.size,by simp⟩; rw [World.cell?_alloc_at _ _ _ _ rfl]; simp
   exact hc.rows p hp
 have:=(h.rows q hq).2.2
 simp only at e
 omega
theorem Mm.get (h:Mm w0 l w) {b:Nat} {cs:List Value} (hp:(b,cs)∈l) (j:Nat) (v:Value) (hv:cs[j]?=some v):w.cell? ⟨b,j,none⟩=some v:=by
 have hj:j<cs.length:=by
  rcases Nat.lt_or_ge j cs.length with h' | h'
  · exact h'
  rw [List.getElem?_eq_none h'] at hv; cases hv
 rw [((h.rows _ hp).1 j hj).1,hv]
theorem Mm.isSome (h:Mm w0 l w) {b:Nat} {cs:List Value} (hp:(b,cs)∈l) (j:Nat) (hj:j<cs.length):(w.cell? ⟨b,j,none⟩).isSome=true:=by
 rw [((h.rows _ hp).1 j hj).1,gE hj]
 rfl
theorem Mm.free (h:Mm w0 l w) {b:Nat} {cs:List Value} (hp:(b,cs)∈l) (j:Nat) (hj:j<cs.length):w.frozen? ⟨b,j,none⟩=false:=((h.rows _ hp).1 j hj).2
theorem Mm.rangeAt (h:Mm w0 l w) {b:Nat} {cs:List Value} (hp:(b,cs)∈l):∀ j v,cs[j]?=some v→w.cell? ((⟨b,0,none⟩:Addr).add j)=some v:=fun j v hv=>by
 rw [Addr.add_mid,Nat.zero_add]
 exact h.get hp j v hv
theorem Mm.part (h:Mm w0 l w) {b:Nat} {cs:List Value} (hp:(b,cs)∈l) (o:Nat) (ds:List Value) (hd:(cs.drop o).take ds.length=ds):∀ j v,ds[j]?=some v→w.cell? ((⟨b,o,none⟩:Addr).add j)=some v:=fun j v hv=>by
 rw [Addr.add_mid]
 refine h.get hp (o+j) v ?_
 have hj:j<ds.length:=by
  rcases Nat.lt_or_ge j ds.length with h' | h'
  · exact h'
  rw [List.getElem?_eq_none h'] at hv; cases hv
 rw [← hd,List.getElem?_take,if_pos hj,List.getElem?_drop] at hv
 exact hv
theorem rF (w:World) (p:Addr) (v:Value):(w.setCell p v).heap.size=w.heap.size:=by simp
theorem Mm.set {b:Nat} {cs:List Value} (h:Mm w0 ((b,cs)::l) w) (j:Nat) (hj:j<cs.length) (v:Value):Mm w0 ((b,cs.set j v)::l) (w.setCell ⟨b,j,none⟩ v):=by
 have hb:=h.rows _ mS; have hne:=(List.pairwise_cons.1 h.apart).1
 refine ⟨fun p hp=>?_,List.pairwise_cons.2 ⟨hne,(List.pairwise_cons.1 h.apart).2⟩,jS h.below b hb.2.1 j [v]⟩
 rcases xc1 hp with rfl | hp
 · refine ⟨fun i hi=>⟨?_,by rw [World.frozen?_setCell]; exact (hb.1 i (by simpa using hi)).2⟩,hb.2.1,by rw [rF]; exact hb.2.2⟩; simp only [List.length_set] at hi; by_cases e:i=j
   · subst e; rw [World.cell?_setCell_same' _ _ _ (h.isSome mS i hj),List.getElem?_set_self hj]
   have e2:=World.cell?_setCell_other (w:=w) (v:=v) (a:=⟨b,j,none⟩) (b:=⟨b,i,none⟩) (by intro e'; injection e' with _ e'; exact e e'.symm); simp only; rw [e2,List.getElem?_set_ne (Ne.symm e)]; exact (hb.1 i hi).1
 have h2:=h.rows p (mT _ hp)
 refine ⟨fun i hi=>⟨?_,by rw [World.frozen?_setCell]; exact (h2.1 i hi).2⟩,h2.2.1,by rw [rF]; exact h2.2.2⟩
 rw [World.cell?_setCell_far _ _ _ _ (hne p hp)]
 exact (h2.1 i hi).1
theorem Mm.swap {p q:Nat × List Value} (h:Mm w0 (p::q::l) w):Mm w0 (q::p::l) w:=by
 obtain ⟨h1,h2⟩:=List.pairwise_cons.1 h.apart
 obtain ⟨h3,h4⟩:=List.pairwise_cons.1 h2
 refine ⟨fun x hx=>h.rows x ?_,List.pairwise_cons.2 ⟨fun x hx=>?_,List.pairwise_cons.2 ⟨fun x hx=>h1 x (mT _ hx),h4⟩⟩,h.below⟩
 · rcases xc1 hx with rfl | hx
   · exact mT _ mS
   rcases xc1 hx with rfl | hx
   · exact mS
   exact mT _ (mT _ hx)
 rcases xc1 hx with rfl | hx
 · exact (h1 q mS).symm
 exact h3 x hx
theorem Mm.grown (h:Mm w0 l w) {r:Option Nat} (g:w.grownBy w' r) (m:Nat) (hm:∀ p∈l,p.1<m) (h0:w0.heap.size≤m) (hz:m≤w.heap.size) (hr:∀ b,r=some b→m≤b):Mm w0 l w':=by
 have hb:Below m w w':=⟨g.os,g.tape,g.output,g.size,fun j hj=>g.block j (xnL hj hz) KJ⟩
 exact ⟨fun p hp=>⟨fun j hj=>by
  rw [hb.cell (p:=⟨p.1,j,none⟩) (hm p hp),hb.frozen (p:=⟨p.1,j,none⟩) (hm p hp)]; exact (h.rows p hp).1 j hj,(h.rows p hp).2.1,xnL (h.rows p hp).2.2 g.size⟩,h.apart,h.below.trans (hb.mono h0)⟩
theorem Mm.lt (h:Mm w0 l w) {b:Nat} {cs:List Value} (hp:(b,cs)∈l):b<w.heap.size:=(h.rows _ hp).2.2
theorem Mm.lo (h:Mm w0 l w) {b:Nat} {cs:List Value} (hp:(b,cs)∈l):w0.heap.size≤b:=(h.rows _ hp).2.1
end
end
section
def i64 (n:Int):Prop:=-9223372036854775808≤n∧n<9223372036854775808
structure Off (X:List Nat) (w w':World):Prop where
 size:w.heap.size≤w'.heap.size
 blk:∀ b,b<w.heap.size→b∉X→w'.heap[b]?=w.heap[b]?
section
variable {X Y:List Nat} {w w1 w2:World}
theorem Off.refl (X:List Nat) (w:World):Off X w w:=⟨xnR _,fun _ _ _=>rfl⟩
theorem Off.trans (h:Off X w w1) (g:Off X w1 w2):Off X w w2:=⟨xnT h.size g.size,fun b hb hX=>(g.blk b (xnL hb h.size) hX).trans (h.blk b hb hX)⟩
theorem Off.mono (h:Off X w w1) (hX:∀ b∈X,b∈Y):Off Y w w1:=⟨h.size,fun b hb hY=>h.blk b hb fun e=>hY (hX b e)⟩
theorem Off.of_below (l:Below w.heap.size w w1):Off X w w1:=⟨l.size,fun b hb _=>l.block b hb⟩
theorem Off.below (h:Off X w w1) (l:Below w1.heap.size w1 w2):Off X w w2:=h.trans (.of_below l)
theorem Off.set (h:Off X w w1) {b:Nat} (hb:b∈X) (j:Nat) (v:Value):Off X w (w1.setCell ⟨b,j,none⟩ v) :=
 h.trans ⟨by simp,fun c _ hX=>by
  have:c≠b:=fun e=>hX (e ▸ hb)
  simp [World.setCell,Array.getElem?_modify,Ne.symm this]⟩
theorem Off.grown (h:Off X w w1) {r:Option Nat} (g:w1.grownBy w2 r) (hr:∀ b,r=some b→b∈X∨w.heap.size≤b):Off X w w2 :=
 ⟨xnT h.size g.size,fun b hb hX=>by
  rw [g.block b (xnL hb h.size) (fun e=>by
   rcases hr b e.symm with h' | h'
   · exact hX h'
   · omega)]
  exact h.blk b hb hX⟩
theorem Off.cell (h:Off X w w1) {p:Addr} {v:Value} (hc:w.cell? p=some v) (hX:p.block∉X):w1.cell? p=some v:=by
 rw [World.cell?_of_block (h.blk p.block (World.block_lt_of_cell? w p hc) hX)]
 exact hc
end
def SrcA (X:List Nat) (w:World) (sp:Option Addr) (n:Nat) (z:Nat→Int):Prop:=Src w sp n z∧∀ ad,sp=some ad→0<n→ad.block∉X
theorem tT (p:Addr) (j:Nat):(p.add j).block=p.block:=by unfold Addr.add; split <;> rfl
theorem SrcA.off {X:List Nat} {w w':World} {sp:Option Addr} {n:Nat} {z:Nat→Int} (h:SrcA X w sp n z) (o:Off X w w'):SrcA X w' sp n z :=
 ⟨fun j hj=>by
  obtain ⟨ad,rfl,hc⟩:=h.1 j hj
  exact ⟨ad,rfl,o.cell hc (by rw [tT]; exact h.2 ad rfl JK)⟩,h.2⟩
theorem SrcA.more {X:List Nat} {w:World} {sp:Option Addr} {n:Nat} {z:Nat→Int} (h:SrcA X w sp n z) (b:Nat) (hb:w.heap.size≤b):SrcA (b::X) w sp n z :=
 ⟨h.1,fun ad e hn hm=>by
  obtain ⟨ad',e',hc⟩:=h.1 0 hn
  rw [e] at e'
  injection e' with e'
  subst e'
  have:=World.block_lt_of_cell? w _ hc
  rw [tT] at this
  rcases xc1 hm with rfl | hm
  · omega
  · exact h.2 ad e hn hm⟩
theorem SrcA.less {X Y:List Nat} {w:World} {sp:Option Addr} {n:Nat} {z:Nat→Int} (h:SrcA X w sp n z) (hY:∀ b∈Y,b∈X):SrcA Y w sp n z:=⟨h.1,fun ad e hn hm=>h.2 ad e hn (hY _ hm)⟩
theorem SrcA.of_own {X:List Nat} {w:World} {base:Nat} {e:TypeId} {n:Nat} {z:Nat→Int} {sp:Option Addr} {c:Nat} (h:Own w base e .u8 n z (.slice sp n c)) (hX:∀ b∈X,b<base):SrcA X w sp n z :=
 ⟨h.src,fun ad e' _ hm=>by
  subst e'
  have h1:=(World.ownsRow.lt h ad.block rfl).1; have h2:=hX ad.block hm
  omega⟩
theorem j3s {X:List Nat} {w w':World} {base size n:Nat} {e:TypeId} {v:Value} {xs:List Value} (h:w.ownsRow base e size v n xs) (o:Off X w w') (hX:∀ b∈X,v.ownBlock≠some b):w'.ownsRow base e size v n xs:=by
 refine ⟨h.1,?_⟩
 rcases h.2 with h0 | ⟨g,cap,cur,hv,hb,hg,h5,h6,h7,h8⟩
 · exact .inl h0
 refine .inr ⟨g,cap,cur,hv,hb,?_,h5,h6,h7,h8⟩
 have hlt:g<w.heap.size:=by
  rcases Nat.lt_or_ge g w.heap.size with h' | h'
  · exact h'
  rw [Array.getElem?_eq_none h'] at hg; cases hg
 rw [o.blk g hlt (fun hm=>hX g hm (by rw [hv]; rfl))]
 exact hg
section
variable {P:Program}
end
end
theorem Mm.setAll {w0 w:World} {l:List (Nat × List Value)} {b:Nat} {cs:List Value} (h:Mm w0 ((b,cs)::l) w) (ds:List Value) (hd:ds.length=cs.length):Mm w0 ((b,ds)::l) (w.setCells b 0 ds):=by
 have hb:=h.rows _ mS; have hne:=(List.pairwise_cons.1 h.apart).1
 have hall:∀ j,j<ds.length→(w.cell? ⟨b,0+j,none⟩).isSome=true:=fun j hj=>by rw [nZ]; exact h.isSome mS j JK
 refine ⟨fun p hp=>?_,List.pairwise_cons.2 ⟨hne,(List.pairwise_cons.1 h.apart).2⟩,jS h.below b hb.2.1 0 ds⟩
 rcases xc1 hp with rfl | hp
 · refine ⟨fun j hj=>⟨?_,by rw [World.frozen?_setCells]; exact (hb.1 j (by have hj':j<ds.length:=hj; show j<cs.length; omega)).2⟩,hb.2.1,by rw [jN]; exact hb.2.2⟩; simp only at hj ⊢; have e:=World.cell?_setCells_in b ds 0 w hall j hj; rw [nZ] at e; rw [e,gE hj]
 have h2:=h.rows p (mT _ hp)
 refine ⟨fun j hj=>⟨?_,by rw [World.frozen?_setCells]; exact (h2.1 j hj).2⟩,h2.2.1,by rw [jN]; exact h2.2.2⟩
 rw [World.cell?_setCells_out b ds 0 w ⟨p.1,j,none⟩ (fun e _=>absurd e.symm (hne p hp))]
 exact (h2.1 j hj).1
theorem Off.setAll {X:List Nat} {w w1:World} (h:Off X w w1) {b:Nat} (hb:b∈X):∀ (o:Nat) (vs:List Value),Off X w (w1.setCells b o vs)
 | _,[]=>h
 | o,v::vs=>(h.set hb o v).setAll hb (o+1) vs
theorem Src.at {w:World} {ad:Addr} {n:Nat} {z:Nat→Int} (h:Src w (some ad) n z) (j:Nat) (hj:j<n):w.cell? (ad.add j)=some (.int .u8 (z j)):=by
 obtain ⟨ad',e,hc⟩:=h j hj
 injection e with e
 subst e
 exact hc
theorem lC {P:Program} {t:TypeId} (ht:P.underlying t=some (.slice (P.elem t))) (hsz:∀ w,(sizeOf (P.elem t)).run P w=.ok 1 w) (sp:Option Addr) (len cap m:Nat) (hm:m≤len) (hc:len≤cap) (hn:sp=none→cap=0) :
 ∃ sp',(∀ w,(Instr.sliceAt t (.slice sp len cap) (some (.int .i64 (m:Int))) none none).run P w=.ok (.slice sp' (len-m) (cap-m)) w)∧(∀ X w z,SrcA X w sp len z→SrcA X w sp' (len-m) (fun j=>z (m+j)))∧(sp'=none→cap-m=0):=by
 refine ⟨if cap=m then sp else sp.map (·.add (m*1)),fun w=>?_,fun X w z h=>⟨fun j hj=>?_,fun ad e hp=>?_⟩,fun e=>?_⟩
 · exact XU
 · obtain ⟨ad,rfl,hc'⟩:=h.1 (m+j) JK; rw [if_neg JK]; exact ⟨ad.add (m*1),rfl,by rw [Nat.mul_one,Addr.add_add]; exact hc'⟩
 · rw [if_neg JK] at e
   cases sp with
   | none=>cases e
   | some a =>
     exact Xr
 by_cases hm:cap=m
 · omega
 rw [if_neg hm] at e
 cases sp with
 | none=>have:=hn rfl; omega
 | some ad=>cases e
section
theorem jC {P:Program} {o:Oper} {a:Act} {w:World} (cs:List Value) (b off:Nat) (ty:TypeId) (x y:Operand) (ho:o.op=.store ty x y) (hx:a.eval x=.pointer (some ⟨b,off,none⟩)) (hy:a.eval y=.agg cs.toArray) (ht:w.there b off cs.toArray.size) (hz:(P.info? ty).map (·.size)=some cs.toArray.size) (h1:∀ u∈cs,u.oneCell'=true) :
 (execOp a.eval o).run P w=.ok .skip (w.setCells b off cs):=by
 unfold execOp
 simp only [ho,hx,hy]; have e:=run_storeAt_mid (P:=P) w b off ty cs.toArray ht hz (aO h1); simp only [Sem.run_bind,e,xO,Sem.run_pure]
def vR (cs:List Value):Nat→List Value→List Value
 | _,[]=>cs
 | o,v::vs=>vR (cs.set o v) (o+1) vs
section
variable {w0 w:World} {l:List (Nat × List Value)} {b:Nat} {cs:List Value}
theorem Mm.thereP (h:Mm w0 l w) (hp:(b,cs)∈l) (o n:Nat) (hn:o+n≤cs.length):w.there b o n:=fun j hj=>⟨h.isSome hp (o+j) JK,h.free hp (o+j) JK⟩
theorem Mm.setPartG:∀ (ds:List Value) (o:Nat) (cs:List Value) (w:World),o+ds.length≤cs.length→Mm w0 ((b,cs)::l) w→Mm w0 ((b,vR cs o ds)::l) (w.setCells b o ds)
 | [],_,_,_,_,h=>h
 | v::vs,o,cs,w,hl,h=>by
   rw [List.length_cons] at hl
   exact Mm.setPartG vs (o+1) (cs.set o v) _ (by rw [List.length_set]; omega) (h.set o JK v)
theorem Mm.setPart (h:Mm w0 ((b,cs)::l) w) (ds:List Value) (o:Nat) (hl:o+ds.length≤cs.length):Mm w0 ((b,vR cs o ds)::l) (w.setCells b o ds):=Mm.setPartG ds o cs w hl h
theorem Mm.perm {l':List (Nat × List Value)} (h:Mm w0 l w) (hp:l.Perm l'):Mm w0 l' w :=
 ⟨fun p hq=>h.rows p (hp.mem_iff.2 hq),hp.pairwise h.apart (fun e=>Ne.symm e),h.below⟩
theorem Mm.rot3 {p q r:Nat × List Value} (h:Mm w0 (p::q::r::l) w):Mm w0 (r::p::q::l) w :=
 h.perm (((List.Perm.swap r q l).cons p).trans (List.Perm.swap r p (q::l)))
theorem Mm.rot4 {p q r s:Nat × List Value} (h:Mm w0 (p::q::r::s::l) w):Mm w0 (s::p::q::r::l) w :=
 h.perm ((((List.Perm.swap s r l).cons q).trans (List.Perm.swap s q (r::l))).cons p |>.trans (List.Perm.swap s p (q::r::l)))
end
def ob:Option Addr→List Nat
 | some a=>[a.block]
 | none=>[]
theorem Mm.drop2 {w0 w:World} {l:List (Nat × List Value)} {p q:Nat × List Value} (h:Mm w0 (p::q::l) w):Mm w0 (p::l) w:=h.sub _ (List.cons_sublist_cons.2 (List.sublist_cons_self q l))
theorem Off.and1 {X:List Nat} {w w1 w2:World} {b:Nat} (h:Off X w w1) (g:Off [b] w1 w2) (hb:b∈X∨w.heap.size≤b):Off X w w2 :=
 ⟨xnT h.size g.size,fun c hc hX=>(g.blk c (xnL hc h.size) (fun e=>by
  obtain rfl:=xm1 e
  rcases hb with h' | h'
  · exact hX h'
  · omega)).trans (h.blk c hc hX)⟩
theorem Own.off1 {w w':World} {base:Nat} {e:TypeId} {k:IntKind} {n:Nat} {f:Nat→Int} {v:Value} {b:Nat} (h:Own w base e k n f v) (o:Off [b] w w') (hb:b<base):Own w' base e k n f v :=
 j3s h o (fun x hx e=>by
  obtain rfl:=xm1 hx
  have h1:=(World.ownsRow.lt h _ e).1
  omega)
theorem rL {P:Program} {fn:Func} {tmps:Array Value} {w:World} (t:Tmp) (ty:TypeId) (p:Addr) (cs:List Value) (hr:fn.results=#[.cell t ty]) (ha:tmps.getD t undef=.pointer (some p)) (hagg:∀ w,(isAgg ty).run P w=.ok true w) (hz:∀ w,(sizeOf ty).run P w=.ok cs.length w) (hc:∀ j v,cs[j]?=some v→w.cell? (p.add j)=some v) :
 (results fn tmps).run P w=.ok (.agg cs.toArray) w:=by
 have e:(loadVar ty p).run P w=.ok (.agg cs.toArray) w:=by simp [loadVar,Sem.run_bind,hagg,hz,run_loadCells_list w p cs hc]
 rw [Array.getD_eq_getD_getElem?] at ha
 simp [results,hr,ha,asAddr,e]
theorem uU {P:Program} {fn:Func} {tmps:Array Value} {w:World} (t t2:Tmp) (ty:TypeId) (p:Addr) (cs:List Value) (v:Value) (hr:fn.results=#[.cell t ty,.tmp t2]) (ha:tmps.getD t undef=.pointer (some p)) (hb:tmps.getD t2 undef=v) (hagg:∀ w,(isAgg ty).run P w=.ok true w) (hz:∀ w,(sizeOf ty).run P w=.ok cs.length w) (hc:∀ j v,cs[j]?=some v→w.cell? (p.add j)=some v) :
 (results fn tmps).run P w=.ok (.tuple #[.agg cs.toArray,v]) w:=by
 have e:(loadVar ty p).run P w=.ok (.agg cs.toArray) w:=by simp [loadVar,Sem.run_bind,hagg,hz,run_loadCells_list w p cs hc]
 rw [Array.getD_eq_getD_getElem?] at ha hb
 simp [results,hr,ha,hb,asAddr,e]
end
section
variable {P:Program} {ops:Array Oper} {Q:Exit→Act→World→Prop} {o:Oper} {rest:List Oper} {a a':Act} {w0 wz w:World} {z:Nat} {X:List Nat} {l:List (Nat × List Value)} {S:World→Prop} {md:Region.Mode} {id:Nat}
theorem nbO {b:Nat→Act} (c:List Value) (t:TypeId) (M:Mm w0 l w) (hz:z≤w.heap.size) (F:Off X wz w) (h:∀ w' B,z≤B→Mm w0 ((B,c)::l) w'→z≤w'.heap.size→Off X wz w'→wpList P ops Q rest (b B) w') (hw:Region.wanted o (yielded ops a.tmps)=true:=by rfl) (hv:∀ w:World,(execOp a.eval o).run P w=.ok (.value (.pointer (some ⟨w.heap.size,0,none⟩))) (w.alloc (.cells c.toArray t)):=by intro _; kernel_rfl) (he:∀ B:Nat,a.put o.dst (.pointer (some ⟨B,0,none⟩))=b B:=by intro _; simp only [aP,lI,l0,lS] <;> rfl) : wpList P ops Q (o::rest) a w:=by
 have k:Below w.heap.size w (w.alloc (.cells c.toArray t)):=(Below.refl w.heap.size w).alloc (xnR _) _
 unfold wpList
 rw [if_pos hw]
 refine .inl ?_
 unfold Oper.wp
 rw [hv w]
 show wpList P ops Q rest (a.put o.dst _) _
 rw [he]
 exact h _ _ hz (M.box c.toArray t w.heap.size rfl) (xnT hz k.size) (F.below k)
theorem nbN {b:Nat→Act} (c:List Value) (t:TypeId) (M:Mm w0 l w) (hz:z≤w.heap.size) (h:∀ w' B,z≤B→Mm w0 ((B,c)::l) w'→z≤w'.heap.size→wpList P ops Q rest (b B) w') (hw:Region.wanted o (yielded ops a.tmps)=true:=by rfl) (hv:∀ w:World,(execOp a.eval o).run P w=.ok (.value (.pointer (some ⟨w.heap.size,0,none⟩))) (w.alloc (.cells c.toArray t)):=by intro _; kernel_rfl) (he:∀ B:Nat,a.put o.dst (.pointer (some ⟨B,0,none⟩))=b B:=by intro _; simp only [aP,lI,l0,lS] <;> rfl) : wpList P ops Q (o::rest) a w:=by
 have k:Below w.heap.size w (w.alloc (.cells c.toArray t)):=(Below.refl w.heap.size w).alloc (xnR _) _
 unfold wpList
 rw [if_pos hw]
 refine .inl ?_
 unfold Oper.wp
 rw [hv w]
 show wpList P ops Q rest (a.put o.dst _) _
 rw [he]
 exact h _ _ hz (M.box c.toArray t w.heap.size rfl) (xnT hz k.size)
theorem clO {f:FuncId} {args:Array Value} {v:Value} (hc:Calls P f args w fun e w'=>e=.returned v∧Below w.heap.size w w') (M:Mm w0 l w) (hz:z≤w.heap.size) (F:Off X wz w) (h:∀ w',Mm w0 l w'→z≤w'.heap.size→Off X wz w'→wpList P ops Q rest a' w') (hw:Region.wanted o (yielded ops a.tmps)=true:=by rfl) (he:∀ w,(execOp a.eval o).run P w=.ok (.enter f args) w:=by intro _; kernel_rfl) (hp:a.put o.dst v=a':=by simp only [aP,lI,l0,lS] <;> rfl) : wpList P ops Q (o::rest) a w:=
 nD hw he hc fun _ w' ⟨e,k⟩=>⟨v,e,hp ▸ h w' (M.call k) (xnT hz k.size) (F.below k)⟩
theorem clN {f:FuncId} {args:Array Value} {v:Value} (hc:Calls P f args w fun e w'=>e=.returned v∧Below w.heap.size w w') (M:Mm w0 l w) (hz:z≤w.heap.size) (h:∀ w',Mm w0 l w'→z≤w'.heap.size→wpList P ops Q rest a' w') (hw:Region.wanted o (yielded ops a.tmps)=true:=by rfl) (he:∀ w,(execOp a.eval o).run P w=.ok (.enter f args) w:=by intro _; kernel_rfl) (hp:a.put o.dst v=a':=by simp only [aP,lI,l0,lS] <;> rfl) : wpList P ops Q (o::rest) a w:=
 nD hw he hc fun _ w' ⟨e,k⟩=>⟨v,e,hp ▸ h w' (M.call k) (xnT hz k.size)⟩
theorem hdE {B:Nat} {c:List Value} (M:Mm w0 ((B,c)::l) w) (hz:z≤w.heap.size) (F:Off X wz w) (h:∀ w',Mm w0 ((B,c)::l) w'→z≤w'.heap.size→Off X wz w'→wpAnyH P .any ops Q (fun w'=>∃ d,Mm w0 ((B,d)::l) w') ops.size (Array.replicate ops.size false) a w') (hf:P.follows Departure.mixedOrders=true:=by kernel_rfl) : Code.wp P (Code.region id ops true) Q a w:=
 wD hf ⟨_,M.drew⟩ fun _=>h _ M.drew (xnT hz (Below.refl w.heap.size w).drew.size) (F.below (Below.refl w.heap.size w).drew)
theorem hdM (M:Mm w0 l w) (hz:z≤w.heap.size) (F:Off X wz w) (h:∀ w',Mm w0 l w'→z≤w'.heap.size→Off X wz w'→wpAnyH P .any ops Q (fun w'=>Mm w0 l w') ops.size (Array.replicate ops.size false) a w') (hf:P.follows Departure.mixedOrders=true:=by kernel_rfl) : Code.wp P (Code.region id ops true) Q a w:=
 wD hf M.drew fun _=>h _ M.drew (xnT hz (Below.refl w.heap.size w).drew.size) (F.below (Below.refl w.heap.size w).drew)
theorem stO {B:Nat} {c:List Value} {x y:Operand} (d:List Value) (t:TypeId) (M:Mm w0 ((B,c)::l) w) (hz:z≤w.heap.size) (F:Off X wz w) (hb:B∈X∨wz.heap.size≤B) (hd:d.length=c.length) (h1:∀ u∈d,u.oneCell'=true) (hi:(P.info? t).map (·.size)=some d.toArray.size) (h:∀ w',Mm w0 ((B,d)::l) w'→z≤w'.heap.size→Off X wz w'→wpList P ops Q rest a' w') (hw:Region.wanted o (yielded ops a.tmps)=true:=by rfl) (ho:o.op=.store t x y:=by rfl) (hx:a.eval x=.pointer (some ⟨B,0,none⟩):=by rfl) (hy:a.eval y=.agg d.toArray:=by rfl) (he:a.put o.dst undef=a':=by simp only [Act.put] <;> rfl) : wpList P ops Q (o::rest) a w:=by
 have g:=(Off.refl [B] w).setAll (b:=B) mS 0 d
 subst he
 exact jG hw (jC d B 0 t x y ho hx hy (M.thereP mS 0 _ (by rw [xA]; omega)) hi h1) (h _ (M.setAll d hd) (xnT hz g.size) (F.and1 g hb))
end
theorem Mm.boxC {w0 w:World} {l:List (Nat × List Value)} (h:Mm w0 l w) (c:Array Value) (t:TypeId) (f:Nat × Nat) (b:Nat) (hb:b=w.heap.size) (hf:c.size≤f.1):Mm w0 ((b,c.toList)::l) (w.alloc (.cells c t f)):=by
 subst hb; have hc:=h.call ((Below.refl w.heap.size w).alloc (xnR _) (.cells c t f))
 refine ⟨fun p hp=>?_,List.pairwise_cons.2 ⟨fun q hq e=>?_,h.apart⟩,hc.below⟩
 · rcases xc1 hp with rfl | hp
   · have e:(w.alloc (.cells c t f)).heap[w.heap.size]?=some (.cells c t f):=by
      show (w.heap.push _)[w.heap.size]?=_
      simp
     refine ⟨fun j hj=>⟨?_,?_⟩,h.below.size,by simp⟩
     · simp only [World.cell?,e]; simp
     have:j<c.size:=by simpa using hj
     unfold World.frozen?; rw [e]; simp; omega
   exact hc.rows p hp
 have:=(h.rows q hq).2.2
 simp only at e
 omega
theorem Mm.src {w0 w:World} {l:List (Nat × List Value)} (h:Mm w0 l w) {b:Nat} {cs:List Value} (hp:(b,cs)∈l) (bs:List Int) (hc:cs=bs.map (Value.int .u8)):Src w (some ⟨b,0,none⟩) bs.length (bl bs):=fun j hj=>⟨_,rfl,by
 rw [Addr.add_mid,Nat.zero_add]
 refine h.get hp j _ ?_
 rw [hc,List.getElem?_map,List.getElem?_eq_getElem hj]
 show some (Value.int .u8 bs[j])=_
 unfold bl
 rw [List.getD_eq_getElem?_getD,List.getElem?_eq_getElem hj]
 rfl⟩
theorem Mm.srcRow {w0 w:World} {l:List (Nat × List Value)} (h:Mm w0 l w) {b:Nat} {cs:List Value} (hp:(b,cs)∈l) (o n:Nat) (f:Nat→Int) (hd:(cs.drop o).take (row .u8 n f).length=row .u8 n f):Src w (some ⟨b,o,none⟩) n f:=fun j hj=>⟨_,rfl,h.part hp o _ hd j _ (xG .u8 n f j hj)⟩
theorem xY (f:Nat→Int):(row .u8 32 f).length=32:=jX _ _ _
theorem gU:∀ (ds a rest:List Value),ds.length=a.length→vR (a++rest) 0 ds=ds++rest:=by
 have key:∀ (ds pre a rest:List Value),ds.length=a.length→vR (pre++(a++rest)) pre.length ds=pre++(ds++rest):=by
  intro ds
  induction ds with
  | nil =>
    intro pre a rest h; have:a=[]:=List.eq_nil_of_length_eq_zero (by simpa using h.symm); subst this; rfl
  | cons d ds ih =>
    intro pre a rest h
    cases a with
    | nil=>cases h
    | cons x a =>
      have h2:ds.length=a.length:=by simpa using h
      have e:(pre++(x::a++rest)).set pre.length d=(pre++[d])++(a++rest):=by simp
      show vR ((pre++(x::a++rest)).set pre.length d) (pre.length+1) ds=_
      rw [e]; have:=ih (pre++[d]) a rest h2; rw [List.length_append] at this; rw [show pre.length+1=pre.length+[d].length from rfl,this]; simp
 intro ds a rest h
 have:=key ds [] a rest h
 simpa using this
theorem gS (pre:List Value):∀ (ds l:List Value) (o:Nat),vR (pre++l) (pre.length+o) ds=pre++vR l o ds
 | [],_,_=>rfl
 | d::ds,l,o=>by
   show vR ((pre++l).set (pre.length+o) d) (pre.length+o+1) ds=pre++vR (l.set o d) (o+1) ds
   rw [List.set_append_right _ _ JK,Nat.add_sub_cancel_left,Nat.add_assoc,gS pre ds (l.set o d) (o+1)]
theorem qY (ps:List (List Value)) (ls:List Nat) (h:ps.map List.length=ls):ps.flatten.length=ls.sum:=by subst h; exact List.length_flatten
theorem pK:∀ (ps:List (List Value)) (i:Nat) (p:List Value),ps[i]?=some p→∃ pre rest,ps.flatten=pre++(p++rest)∧pre.length=((ps.map List.length).take i).sum∧∀ ds,(ps.set i ds).flatten=pre++(ds++rest)
 | [],i,p,h=>by cases h
 | q::ps,0,p,h=>by
   obtain rfl:q=p:=by simpa using h
   exact ⟨[],ps.flatten,rfl,rfl,fun _=>rfl⟩
 | q::ps,i+1,p,h=>by
   obtain ⟨pre,rest,e1,e2,e3⟩:=pK ps i p (by simpa using h)
   refine ⟨q++pre,rest,?_,?_,fun ds=>?_⟩
   · rw [List.flatten_cons,e1,List.append_assoc]
   · rw [List.length_append,e2]; simp
   · rw [List.set_cons_succ,List.flatten_cons,e3,List.append_assoc]
theorem qU (ps:List (List Value)) (ls:List Nat) (h:ps.map List.length=ls) (i o:Nat) (p:List Value) (hp:ps[i]?=some p) (ho:(ls.take i).sum=o):(ps.flatten.drop o).take p.length=p:=by
 subst h ho
 obtain ⟨pre,rest,e1,e2,_⟩:=pK ps i p hp
 rw [e1,List.drop_left' e2,List.take_left]
theorem xV (ps:List (List Value)) (ls:List Nat) (h:ps.map List.length=ls) (i o:Nat) (v:Value) (hp:ps[i]?=some [v]) (ho:(ls.take i).sum=o):ps.flatten[o]?=some v:=by
 subst h ho
 obtain ⟨pre,rest,e1,e2,_⟩:=pK ps i [v] hp
 rw [e1,← e2,List.getElem?_append_right (xnR _),Nat.sub_self]
 rfl
theorem tY (ps:List (List Value)) (ls:List Nat) (h:ps.map List.length=ls) (i o:Nat) (p ds:List Value) (hp:ps[i]?=some p) (ho:(ls.take i).sum=o) (hd:ds.length=p.length):vR ps.flatten o ds=(ps.set i ds).flatten:=by
 subst h ho
 obtain ⟨pre,rest,e1,e2,e3⟩:=pK ps i p hp
 have:=gS pre ds (p++rest) 0
 rw [Nat.add_zero,e2,gU _ _ _ hd] at this
 rw [e1,this,e3]
theorem uM (ps:List (List Value)) (ls:List Nat) (h:ps.map List.length=ls) (i o:Nat) (u v:Value) (hp:ps[i]?=some [u]) (ho:(ls.take i).sum=o):ps.flatten.set o v=(ps.set i [v]).flatten:=by
 have:=tY ps ls h i o [u] [v] hp ho rfl
 exact this
theorem zF (ps:List (List Value)) (h:∀ p∈ps,∀ u∈p,u.oneCell'=true):∀ u∈ps.flatten,u.oneCell'=true:=fun u hu=>by
 obtain ⟨p,hp,hu⟩:=List.mem_flatten.1 hu
 exact h p hp u hu
theorem Mm.srcA {w0 w:World} {l:List (Nat × List Value)} (h:Mm w0 l w) {b:Nat} {cs:List Value} (hp:(b,cs)∈l) (o n:Nat) (f:Nat→Int) (hd:(cs.drop o).take (row .u8 n f).length=row .u8 n f) (X:List Nat) (hX:b∉X):SrcA X w (some ⟨b,o,none⟩) n f :=
 ⟨h.srcRow hp o n f hd,fun ad e _ hm=>by cases e; exact hX hm⟩
theorem Mm.neq {w0 w:World} {l:List (Nat × List Value)} (h:Mm w0 l w) {i j:Nat} {p q:Nat × List Value} (hi:l[i]?=some p) (hj:l[j]?=some q) (hij:i<j):p.1≠q.1:=by
 obtain ⟨i1,rfl⟩:=List.getElem?_eq_some_iff.1 hi
 obtain ⟨j1,rfl⟩:=List.getElem?_eq_some_iff.1 hj
 exact List.pairwise_iff_getElem.1 h.apart i j i1 j1 hij
end Go.Proofs.YtknodlefhclijaaGreatDoor
