/- Texts of Jp Yp Ka Yq, joined. -/
import Derived.Test.YtklnibmfpcmeeaaGreatDoorP20ShakeTries
set_option maxRecDepth 20000
set_option maxHeartbeats 64000000
namespace Go.Proofs.YtklnibmfpcmeeaaGreatDoor
open Go.RowKit
def knx (ll:Nat) (last:Nat→Int) (il:Nat) (inf:Nat→Int) (c:Int):Nat→Int:=app (app last ll inf) (ll+il) (fun _=>c)
theorem knx_in (ll:Nat) (last:Nat→Int) (il:Nat) (inf:Nat→Int) (c:Int) (hl:In 256 ll last) (hi:In 256 il inf) (hc:0≤c∧c<256):In 256 (ll+il+1) (knx ll last il inf c):=app_in _ _ _ _ (app_in _ _ _ _ hl hi) (fun _ _=>hc)
theorem cat3k (ll:Nat) (last:Nat→Int) (il:Nat) (inf:Nat→Int) (c:Int) (j:Nat):catz (pk3 ll il 1) (pk3 last inf (fun _=>c)) 3 j=knx ll last il inf c j:=by
 show app (app (app (fun _=>0) 0 last) (0+ll) inf) (0+ll+il) (fun _=>c) j=_
 unfold knx
 rw [Nat.zero_add]
 have e:app (fun _=>(0:Int)) 0 last=last:=by
  funext q
  unfold app
  rw [if_neg (xnZ q),Nat.sub_zero]
 rw [e]
theorem knext_any (k:Nat→Int) (hk:In 256 32 k) (lp:Option Addr) (ll lc:Nat) (hll:ll≤32) (hln:lp=none→lc=0) (last:Nat→Int) (hla:In 256 ll last) (ip:Option Addr) (il ic:Nat) (hil:il≤140737488351232) (hin:ip=none→ic=0) (inf:Nat→Int) (hif:In 256 il inf) (c:Int) (hc:0≤c∧c<256) (w:World) (hg:BGlob w) (hsl:Src w lp ll last) (hsi:Src w ip il inf) :
 Calls Tryz.prog 120 #[(.agg (row .u8 32 (k)).toArray),.slice lp ll lc,.slice ip il ic,.int .u8 c] w fun e w'=>e=.returned (.agg (row .u8 32 (bmac 32 k (ll+il+1) (knx ll last il inf c))).toArray)∧Below w.heap.size w w':=by
 have K:=Kr.init w; replace K:=K.box .u8 32 k 23 (w.heap.size) rfl; replace K:=K.make 32 zu8_32 23 (w.heap.size+1) (by simp) (key_zero _ _ _ (by simp)).there
 go_enter Tryz.func120,Tryz.ntmps120
 go_upto_region 1 with fail; generalize ((w.alloc (.cells (row .u8 32 k).toArray 23)).alloc (.cells zu8_32 23))=w0 at K ⊢; refine wp_region_held_drew (S:=fun w'=>Kr w (w.heap.size+1+1) [(w.heap.size,.u8,32,k)] [(w.heap.size+1,32)] w') (by kernel_rfl) K.drew ?_; clear K; intro K; generalize w0.drew=w1 at K ⊢
 refine xqH 0 9 rfl (.slice (some ⟨w.heap.size,0,none⟩) 32 32) (fun w'=>cutAll _ _ _ _ rfl rfl (kcutAll w.heap.size w')) K ?_; refine xpH 1 10 (.slice lp ll lc) K ?_; refine xpH 2 11 (.slice ip il ic) K ?_; refine xpH 3 12 (.int .u8 c) K ?_; have H1:=(Has.new w1 .u8 1 (fun _=>c) 5 w1.heap.size rfl).src0
 replace K:=K.call ((Below.refl w1.heap.size w1).alloc (xnR _) (.cells #[.int .u8 c] 5)); refine actH (i:=4) (w':=w1.alloc (.cells #[.int .u8 c] 5)) (some 13) rfl (.slice (some ⟨w1.heap.size,0,none⟩) 1 1) (by kernel_rfl) rfl rfl (by kernel_rfl) K ?_; simp only [aP,lI,l0,lS]
 have HC:=catIn3 (w1.alloc (.cells #[.int .u8 c] 5)).heap.size lp ip (some ⟨w1.heap.size,0,none⟩) ll il 1 lc ic 1 last inf (fun _=>c) 32 rfl (hsl.below K.below (xnR _)) (hsi.below K.below (xnR _)) H1 hln hin (fun e=>by cases e); generalize w1.alloc (.cells #[.int .u8 c] 5)=w2 at K HC ⊢; clear H1
 replace K:=K.call ((Below.refl w2.heap.size w2).alloc (xnR _) (.cells #[.slice lp ll lc,.slice ip il ic,.slice (some ⟨w1.heap.size,0,none⟩) 1 1] 32)); refine actH (i:=5) (w':=w2.alloc (.cells #[.slice lp ll lc,.slice ip il ic,.slice (some ⟨w1.heap.size,0,none⟩) 1 1] 32)) (some 14) rfl (.slice (some ⟨w2.heap.size,0,none⟩) 3 3) (by kernel_rfl) rfl rfl (by kernel_rfl) K ?_
 simp only [aP,lI,l0,lS]; generalize (w2.alloc (.cells #[.slice lp ll lc,.slice ip il ic,.slice (some ⟨w1.heap.size,0,none⟩) 1 1] 32))=w3 at K HC ⊢; refine callH (i:=6) (some 15) rfl (by kernel_rfl) rfl rfl (fun _=>by kernel_rfl) (concat_any ⟨w2.heap.size,0,none⟩ 3 3 _ _ _ _ (by decide) (by rw [tot3]; omega) _ HC) ?_; rintro e w4 ⟨v,rfl,O,l⟩; replace K:=K.call l; clear l HC
 rw [tot3] at O
 replace O:=O.congr (fun j _=>cat3k ll last il inf c j)
 obtain ⟨p3,c3,rfl,hc3,S3⟩:=O.bytes
 have hn3:=O.nilCap; clear O
 refine ⟨_,rfl,K,?_⟩
 simp only [aP,lI,l0,lS]; refine callH (i:=7) (some 16) rfl (by kernel_rfl) rfl rfl (fun _=>by kernel_rfl) (bmac_any (some ⟨w.heap.size,0,none⟩) 32 32 (by decide) (by decide) (fun e=>by cases e) k hk p3 (ll+il+1) c3 (by omega) hc3 hn3 _ (knx_in ll last il inf c hla hif hc) _ (hg.below K.below hg.size) (K.get _ _ _ _ mS).src0 S3) ?_; rintro e w5 ⟨rfl,l⟩; replace K:=K.call l
 clear l S3
 refine ⟨_,rfl,K,?_⟩
 simp only [aP,lI,l0,lS]
 have hz':=(K.room _ mS).1
 refine storesH (i:=8) none rfl .u8 32 (bmac 32 k (ll+il+1) (knx ll last il inf c)) (w.heap.size+1) 23 _ _ (by kernel_rfl) rfl rfl rfl rfl rfl (room_of hz') (key_info' _) (K.fill _ _ mS _) ?_; simp only [Act.put]
 refine wpAnyH_done (by kernel_rfl) ?_ _
 have hB:=(K.fill _ _ mS (row .u8 32 (bmac 32 k (ll+il+1) (knx ll last il inf c)))).below; clear K; generalize hGe:bmac 32 k (ll+il+1) (knx ll last il inf c)=G at *; go_wp2
 exact bodyPost_ret (v:=(.agg (row .u8 32 (G)).toArray)) (results_row Tryz.results120 rfl (Has.all hz' .u8 G).range Tryz.underlying23 rfl (key_info G)) rfl ⟨by first | rfl | rw [hGe] | (rw [← hGe]; done),hB⟩
theorem kextract_any (kp:Option Addr) (kl kc:Nat) (hkl:kl≤140737488355072) (hkc:kl≤kc) (hkn:kp=none→kc=0) (key:Nat→Int) (hk:In 256 kl key) (sp:Option Addr) (len cap:Nat) (hlen:len≤140737488354816) (hcap:len≤cap) (hn0:sp=none→cap=0) (z:Nat→Int) (hz:In 256 len z) (w:World) (hg:BGlob w) (hks:Src w kp kl key) (hs:Src w sp len z) :
 Calls Tryz.prog 119 #[.slice kp kl kc,.slice sp len cap] w fun e w'=>e=.returned (.agg (row .u8 32 (bmac kl key len z)).toArray)∧Below w.heap.size w w':=by
 have K:=Kr.init w; replace K:=K.make 32 zu8_32 23 (w.heap.size) rfl (key_zero _ _ _ rfl).there
 go_enter Tryz.func119,Tryz.ntmps119
 go_upto_region 1 with fail; generalize (w.alloc (.cells zu8_32 23))=w0 at K ⊢; refine wp_region_list ?_; refine xpL (.slice kp kl kc) ?_; refine xpL (.slice sp len cap) ?_; refine xcL (bmac_any kp kl kc hkl hkc hkn key hk sp len cap hlen hcap hn0 z hz _ (hg.below K.below hg.size) (hks.below K.below (xnR _)) (hs.below K.below (xnR _))) ?_; rintro e w1 ⟨rfl,l⟩; replace K:=K.call l; clear l
 refine xeL ?_
 have hz':=(K.room _ mS).1
 refine storesL .u8 32 (bmac kl key len z) (w.heap.size) 23 _ _ rfl rfl rfl rfl (room_of hz') (key_info' _) ?_; simp only [Act.put]; have hB:=(K.fill _ _ mS (row .u8 32 (bmac kl key len z))).below; clear K; generalize hGe:bmac kl key len z=G at *; show Exit.then _ _ _ _ _; go_wp2
 exact bodyPost_ret (v:=(.agg (row .u8 32 (G)).toArray)) (results_row Tryz.results119 rfl (Has.all hz' .u8 G).range Tryz.underlying23 rfl (key_info G)) rfl ⟨by first | rfl | rw [hGe] | (rw [← hGe]; done),hB⟩
theorem kchain_any (k:Nat→Int) (hk:In 256 32 k) (sp:Option Addr) (len cap:Nat) (hlen:len≤140737488351232) (hcap:len≤cap) (hn0:sp=none→cap=0) (z:Nat→Int) (hz:In 256 len z) (w:World) (hg:BGlob w) (hs:Src w sp len z) :
 Calls Tryz.prog 100 #[(.agg (row .u8 32 (k)).toArray),.slice sp len cap] w fun e w'=>e=.returned (.tuple #[(.agg (row .u8 32 (kA k len z)).toArray),(.agg (row .u8 32 (kB k len z)).toArray)])∧Below w.heap.size w w':=by
 have K:=Kr.init w; replace K:=K.box .u8 32 k 23 (w.heap.size) rfl; replace K:=K.make 32 zu8_32 23 (w.heap.size+1) (by simp) (key_zero _ _ _ (by simp)).there; replace K:=K.make 32 zu8_32 23 (w.heap.size+1+1) (by simp) (key_zero _ _ _ (by simp)).there
 go_enter Tryz.func100,Tryz.ntmps100
 go_upto_region 1 with fail; generalize (((w.alloc (.cells (row .u8 32 k).toArray 23)).alloc (.cells zu8_32 23)).alloc (.cells zu8_32 23))=w0 at K ⊢; refine wp_region_list ?_; refine xqL (.slice (some ⟨w.heap.size,0,none⟩) 32 32) (fun w'=>cutAll _ _ _ _ rfl rfl (kcutAll w.heap.size w')) ?_; refine xpL (.slice sp len cap) ?_
 refine xcL (kextract_any (some ⟨w.heap.size,0,none⟩) 32 32 (by decide) (by decide) (fun e=>by cases e) k hk sp len cap (by omega) hcap hn0 z hz _ (hg.below K.below hg.size) (K.get _ _ _ _ mS).src0 (hs.below K.below (xnR _))) ?_; rintro e w1 ⟨rfl,l⟩; replace K:=K.call l; clear l; refine xeL ?_; refine allocL zu8_32 23 rfl (fun _=>by kernel_rfl) ?_; simp only [aP,lI,l0,lS]
 refine storesL .u8 32 ((bmac 32 k len z)) w1.heap.size 23 _ _ rfl rfl rfl rfl (room_of (key_zero _ _ _ rfl).there) (key_info' _) ?_; simp only [Act.put]; have zT:=K.size; replace K:=K.fresh .u8 32 ((bmac 32 k len z)) zu8_32 23 (key_zero _ _ _ rfl).there; generalize ((w1.alloc (.cells zu8_32 23)).setCells w1.heap.size 0 (row .u8 32 ((bmac 32 k len z))))=w2 at K ⊢
 generalize w1.heap.size=T at *; show Exit.then _ _ _ _ _; go_upto_region 2 with fail; refine wp_region_list ?_; refine rowKL .u8 32 ((bmac 32 k len z)) (T) 0 23 _ _ rfl rfl rfl Tryz.underlying23 rfl (key_info _) ((K.get _ _ _ _ mS).range) ?_; simp only [aP,lI,l0,lS]
 refine xcL (knext_any (bmac 32 k len z) (bmac_in _ _ _ _ _) none 0 0 (by decide) (fun _=>rfl) (fun _=>0) (fun _ hj=>absurd hj (xnZ _)) none 0 0 (by decide) (fun _=>rfl) (fun _=>0) (fun _ hj=>absurd hj (xnZ _)) 1 (by decide) _ (hg.below K.below hg.size) (fun j hj=>absurd hj (xnZ j)) (fun j hj=>absurd hj (xnZ j))) ?_; rintro e w3 ⟨rfl,l⟩; replace K:=K.call l; clear l
 rw [show bmac 32 (bmac 32 k len z) (0+0+1) (knx 0 (fun _=>0) 0 (fun _=>0) 1)=kA k len z from rfl]
 refine xeL ?_; refine allocL zu8_32 23 rfl (fun _=>by kernel_rfl) ?_; simp only [aP,lI,l0,lS]; refine storesL .u8 32 (kA k len z) w3.heap.size 23 _ _ rfl rfl rfl rfl (room_of (key_zero _ _ _ rfl).there) (key_info' _) ?_; simp only [Act.put]; have zA:=K.size; replace K:=K.fresh .u8 32 (kA k len z) zu8_32 23 (key_zero _ _ _ rfl).there
 generalize ((w3.alloc (.cells zu8_32 23)).setCells w3.heap.size 0 (row .u8 32 (kA k len z)))=w4 at K ⊢; generalize w3.heap.size=A at *; show Exit.then _ _ _ _ _; go_upto_region 3 with fail
 refine wp_region_held_drew (S:=fun w'=>Kr w (A+1) [(A,.u8,32,kA k len z),(T,.u8,32,(bmac 32 k len z)),(w.heap.size,.u8,32,k)] [(w.heap.size+1+1,32),(w.heap.size+1,32)] w') (by kernel_rfl) K.drew ?_; clear K; intro K
 refine rowKH (i:=0) (some 13) rfl .u8 32 (kA k len z) (A) 0 23 _ _ rfl rfl rfl rfl (by kernel_rfl) (by kernel_rfl) (by kernel_rfl) (fun _ _ _ h=>h) Tryz.underlying23 rfl (key_info _) K (fun _ h=>(h.get _ _ _ _ mS).range) ?_; simp only [aP,lI,l0,lS]
 refine rowKH (i:=1) (some 14) rfl .u8 32 ((bmac 32 k len z)) (T) 0 23 _ _ rfl rfl rfl rfl (by kernel_rfl) (by kernel_rfl) (by kernel_rfl) (fun _ _ _ h=>h) Tryz.underlying23 rfl (key_info _) K (fun _ h=>(h.get _ _ _ _ (mT _ mS)).range) ?_; simp only [aP,lI,l0,lS]; refine xqH 2 15 rfl (.slice (some ⟨A,0,none⟩) 32 32) (fun w'=>cutAll _ _ _ _ rfl rfl (kcutAll A w')) K ?_
 refine callH (i:=3) (some 16) rfl (by kernel_rfl) rfl rfl (fun _=>by kernel_rfl) (knext_any (bmac 32 k len z) (bmac_in _ _ _ _ _) (some ⟨A,0,none⟩) 32 32 (by decide) (fun e=>by cases e) (kA k len z) (kT_in _ _ _ _ _) none 0 0 (by decide) (fun _=>rfl) (fun _=>0) (fun _ hj=>absurd hj (xnZ _)) 2 (by decide) _ (hg.below K.below hg.size) (K.get _ _ _ _ mS).src0 (fun j hj=>absurd hj (xnZ j))) ?_
 rintro e w5 ⟨rfl,l⟩; replace K:=K.call l; clear l
 rw [show bmac 32 (bmac 32 k len z) (32+0+1) (knx 32 (kA k len z) 0 (fun _=>0) 2)=kB k len z from rfl]
 refine ⟨_,rfl,K,?_⟩
 simp only [aP,lI,l0,lS]; have hz1:=(K.room _ (mT _ mS)).1; refine storesH (i:=4) none rfl .u8 32 (kA k len z) (w.heap.size+1) 23 _ _ (by kernel_rfl) rfl rfl rfl rfl rfl (room_of hz1) (key_info' _) (K.fill _ _ (mT _ mS) _) ?_; simp only [Act.put]; have HA:=Has.all hz1 .u8 (kA k len z); replace K:=K.fill _ _ (mT _ mS) (row .u8 32 (kA k len z))
 generalize w5.setCells (w.heap.size+1) 0 (row .u8 32 (kA k len z))=w6 at K HA ⊢; have hz2:=(K.room _ mS).1; refine storesH (i:=5) none rfl .u8 32 (kB k len z) (w.heap.size+1+1) 23 _ _ (by kernel_rfl) rfl rfl rfl rfl rfl (room_of hz2) (key_info' _) (K.fill _ _ mS _) ?_; simp only [Act.put]
 refine wpAnyH_done (by kernel_rfl) ?_ _
 replace HA:=HA.setAll_other (w.heap.size+1+1) (by omega) 0 (row .u8 32 (kB k len z)); have HB:=Has.all hz2 .u8 (kB k len z); have hB:=(K.fill _ _ mS (row .u8 32 (kB k len z))).below; clear K hz1 hz2; generalize w6.setCells (w.heap.size+1+1) 0 (row .u8 32 (kB k len z))=w7 at HA HB hB ⊢; generalize hAe:kA k len z=fa at *; generalize hBe:kB k len z=fc at *; go_wp2
 exact bodyPost_ret (v:=.tuple #[(.agg (row .u8 32 (fa)).toArray),(.agg (row .u8 32 (fc)).toArray)]) (results_two Tryz.results100 rfl rfl HA.range HB.range Tryz.underlying23 Tryz.underlying23 rfl rfl (key_info fa) (key_info fc)) rfl ⟨by first | rfl | rw [hAe,hBe] | (rw [← hAe,← hBe]; done),hB⟩
def pcs12 (s:Sym):List Value:=row .u8 32 s.h++(row .u8 32 s.c++(row .u8 32 s.k++[.bool s.has,.int .u64 (s.n:Int)]))
theorem pcs12_len (s:Sym):(pcs12 s).length=98:=by unfold pcs12; simp [row_length]
theorem pcs12_h (s:Sym):((pcs12 s).drop 0).take (row .u8 32 s.h).length=row .u8 32 s.h:=by unfold pcs12; rw [List.drop_zero,List.take_left]
theorem pcs12_c (s:Sym):((pcs12 s).drop 32).take (row .u8 32 s.c).length=row .u8 32 s.c:=by unfold pcs12; rw [List.drop_left' (row32 s.h),List.take_left]
theorem pcs12_k (s:Sym):((pcs12 s).drop 64).take (row .u8 32 s.k).length=row .u8 32 s.k:=by
 unfold pcs12
 rw [← List.append_assoc,List.drop_left' (by rw [List.length_append,row32,row32]),List.take_left]
theorem pcs12_rest (s:Sym) (j:Nat):(pcs12 s)[96+j]?=[Value.bool s.has,.int .u64 (s.n:Int)][j]?:=by
 unfold pcs12
 rw [← List.append_assoc,← List.append_assoc,List.getElem?_append_right (by simp [row_length])]
 simp [row_length]
theorem pcs12_setH (s:Sym) (f:Nat→Int):setL (pcs12 s) 0 (row .u8 32 f)=pcs12 { s with h:=f }:=by
 unfold pcs12
 exact setL_left _ _ _ (by rw [row32,row32])
theorem pcs12_setC (s:Sym) (f:Nat→Int):setL (pcs12 s) 32 (row .u8 32 f)=pcs12 { s with c:=f }:=by
 unfold pcs12
 have:=setL_pre (row .u8 32 s.h) (row .u8 32 f) (row .u8 32 s.c++(row .u8 32 s.k++[.bool s.has,.int .u64 (s.n:Int)])) 0
 rw [row32] at this
 rw [show (32:Nat)=32+0 from rfl,this,setL_left _ _ _ (by rw [row32,row32])]
theorem pcs12_setK (s:Sym) (f:Nat→Int):setL (pcs12 s) 64 (row .u8 32 f)=pcs12 { s with k:=f }:=by
 unfold pcs12
 have:=setL_pre (row .u8 32 s.h++row .u8 32 s.c) (row .u8 32 f) (row .u8 32 s.k++[.bool s.has,.int .u64 (s.n:Int)]) 0
 rw [List.length_append,row32,row32,List.append_assoc] at this
 rw [show (64:Nat)=32+32+0 from rfl,this,setL_left _ _ _ (by rw [row32,row32]),List.append_assoc]
theorem pcs12_set96 (s:Sym) (b:Bool):(pcs12 s).set 96 (.bool b)=pcs12 { s with has:=b }:=by
 unfold pcs12
 rw [List.set_append_right _ _ (by rw [row32]; omega),row32,List.set_append_right _ _ (by rw [row32]; omega),row32,List.set_append_right _ _ (by rw [row32]; omega),row32]
 rfl
theorem pcs12_set97 (s:Sym) (n:Nat):(pcs12 s).set 97 (.int .u64 (n:Int))=pcs12 { s with n:=n }:=by
 unfold pcs12
 rw [List.set_append_right _ _ (by rw [row32]; omega),row32,List.set_append_right _ _ (by rw [row32]; omega),row32,List.set_append_right _ _ (by rw [row32]; omega),row32]
 rfl
theorem vmix12_any (w0 w:World) (R:Nat) (l:List (Nat × List Value)) (s:Sym) (hg:SGlob w0) (hsw:SymW s) (sp:Option Addr) (cap:Nat) (b:List Int) (hlen:b.length≤140737488351248) (_:b.length≤cap) (hnil:sp=none→cap=0) (hb:Byts b) (M:Mm w0 ((R,pcs12 s)::l) w) (hs:SrcA [R] w sp b.length (bl b)):Calls Tryz.prog 49 #[.pointer (some ⟨R,0,none⟩),.slice sp b.length cap] w fun e w'=>e=.returned (.tuple #[])∧Mm w0 ((R,pcs12 (smix s b))::l) w'∧Off [R] w w':=by
 have hRw:=M.lt mS; have hR0:=M.below.size; have hwz:=xnR w.heap.size
 have _hML0:∀ p∈l,p.1<w.heap.size:=fun p hp=>(M.rows p (mT _ hp)).2.2
 have OF:=Off.refl [R] w
 go_enter Tryz.func49,Tryz.ntmps49
 go_upto_region 0 with fail; refine wp_region_list ?_; refine xpL (.pointer (some ⟨R,0,none⟩)) ?_; refine xpL (.pointer (some ⟨R,0,none⟩)) ?_; refine xpL (.pointer (some ⟨R,0,none⟩)) ?_; refine xpL (.pointer (some ⟨R,0,none⟩)) ?_; refine xaL (.slice (some ⟨R,0,none⟩) 32 32) (cutAll 23 _ _ _ rfl rfl (by kernel_rfl)) ?_; refine xpL (.slice sp b.length cap) ?_
 have HC:=catIn2 w.heap.size (some ⟨R,0,none⟩) sp 32 b.length 32 cap s.h (bl b) 32 rfl (M.srcRow mS 0 32 _ (pcs12_h s)) (hs.off OF).1 (fun e=>by cases e) hnil; have hlb:=(Below.refl w.heap.size w).alloc (xnR _) (.cells #[.slice (some ⟨R,0,none⟩) 32 32,.slice sp b.length cap] 32)
 refine actL (w':=w.alloc (.cells #[.slice (some ⟨R,0,none⟩) 32 32,.slice sp b.length cap] 32)) (.slice (some ⟨w.heap.size,0,none⟩) 2 2) rfl (by kernel_rfl) ?_; simp only [aP,lI,l0,lS]; replace M:=M.call hlb; replace OF:=OF.below hlb; replace hwz:=xnT hwz hlb.size; clear hlb
 generalize w.alloc (.cells #[.slice (some ⟨R,0,none⟩) 32 32,.slice sp b.length cap] 32)=w1 at M HC hwz OF ⊢; generalize hC:w.heap.size=C at HC ⊢; clear hC; refine xcL (concat_any ⟨C,0,none⟩ 2 2 _ _ _ _ (by decide) (by rw [tot2]; omega) _ HC) ?_; rintro e w2 ⟨v,rfl,hO,l⟩
 rw [tot2] at hO
 have N_2:NewF w2 w.heap.size (32+b.length) (app s.h 32 (bl b)) v:=NewF.of_own ((hO.congr fun j _=>catz2 _ _ _ _ j).lower hwz)
 replace M:=M.call l; replace OF:=OF.below l; replace hwz:=xnT hwz l.size; clear l hO HC
 obtain ⟨p2,c2,rfl,hcc_2,hnn_2,_,_⟩:=id N_2
 refine xeL ?_
 have hzz:In 256 (32+b.length) (app s.h 32 (bl b)):=app_in _ _ _ _ hsw.h hb.bl
 refine xcL (bhash_any p2 _ c2 (by omega) hcc_2 hnn_2 (app s.h 32 (bl b)) hzz _ (hg.mm M).b (NewF.src N_2)) ?_; rintro e w3 ⟨rfl,l1⟩; replace M:=M.call l1; replace OF:=OF.below l1; replace hwz:=xnT hwz l1.size; clear l1 hzz N_2 hcc_2 hnn_2; refine xeL ?_; refine xpL (.pointer (some ⟨R,0,none⟩)) ?_; refine xpL (.pointer (some ⟨R,0,none⟩)) ?_
 refine skipOpL rfl (storeP (row .u8 32 (bhash (32+b.length) (app s.h 32 (bl b)))) R 0 23 _ _ rfl rfl rfl (M.thereP mS 0 32 (by rw [pcs12_len]; decide)) (by kernel_rfl) (row_one .u8 32 (bhash (32+b.length) (app s.h 32 (bl b))))) ?_; simp only [Act.put]; replace M:=M.setPart (row .u8 32 (bhash (32+b.length) (app s.h 32 (bl b)))) 0 (by rw [row32,pcs12_len]; decide)
 rw [pcs12_setH] at M
 replace OF:=OF.and1 ((Off.refl [R] _).setAll (b:=R) mS 0 (row .u8 32 (bhash (32+b.length) (app s.h 32 (bl b))))) (.inl mS); generalize w3.setCells R 0 (row .u8 32 (bhash (32+b.length) (app s.h 32 (bl b))))=w4 at M OF ⊢
 replace M:Mm w0 ((R,pcs12 (⟨bhash (32+b.length) (app s.h 32 (bl b)),s.c,s.k,s.has,s.n⟩:Sym))::l) w4:=M
 exact ⟨rfl,.tuple #[],by kernel_rfl,rfl,M,OF⟩
def pcz (n j i:Nat):Int:=if i<4 then 0 else if i-4<j then dig n (i-4) else 0
def pcl (n j:Nat):List Value:=[.int .u8 (pcz n j 0),.int .u8 (pcz n j 1),.int .u8 (pcz n j 2),.int .u8 (pcz n j 3),.int .u8 (pcz n j 4),.int .u8 (pcz n j 5),.int .u8 (pcz n j 6),.int .u8 (pcz n j 7),.int .u8 (pcz n j 8),.int .u8 (pcz n j 9),.int .u8 (pcz n j 10),.int .u8 (pcz n j 11)]
theorem pcl_set (n j:Nat) (hj:j<8):(pcl n j).set (4+j) (.int .u8 (dig n j))=pcl n (j+1):=by
 have:j=0∨j=1∨j=2∨j=3∨j=4∨j=5∨j=6∨j=7:=by omega
 rcases this with rfl | rfl | rfl | rfl | rfl | rfl | rfl | rfl <;> rfl
theorem vnonce12_any (n:Nat) (w:World) :
 Calls Tryz.prog 82 #[.int .u64 (n:Int)] w fun e w'=>e=.returned (.agg (row .u8 12 (snz n)).toArray)∧Below w.heap.size w w':=by
 have M:=Mm.init w
 go_enter Tryz.func82,Tryz.ntmps82
 go_upto_region 0 with fail; refine wp_region_list ?_; refine actL (w':=w.alloc (.cells zu8_12 100)) (.pointer (some ⟨w.heap.size,0,none⟩)) rfl (by kernel_rfl) ?_; simp only [aP,lI,l0,lS]
 have hB_B1:w.heap.size≤w.heap.size:=M.below.size
 replace M:=M.box zu8_12 100 w.heap.size rfl; generalize w.alloc (.cells zu8_12 100)=w1 at M  ⊢; generalize eB:w.heap.size=B1 at M hB_B1  ⊢
 have hE_B1:w.heap.size≤B1:=Nat.le_of_eq eB
 have hF_B1:B1≤w.heap.size:=Nat.le_of_eq eB.symm
 clear eB
 replace M:Mm w ([(B1,[.int .u8 0,.int .u8 0,.int .u8 0,.int .u8 0,.int .u8 0,.int .u8 0,.int .u8 0,.int .u8 0,.int .u8 0,.int .u8 0,.int .u8 0,.int .u8 0])]) w1:=M
 refine xT ?_; go_upto_region 1 with fail; refine wp_region_list ?_; refine actL (w':=w1.alloc (.cells zu8_12 100)) (.pointer (some ⟨w1.heap.size,0,none⟩)) rfl (by kernel_rfl) ?_; simp only [aP,lI,l0,lS]
 have hB_B2:w.heap.size≤w1.heap.size:=M.below.size
 replace M:=M.box zu8_12 100 w1.heap.size rfl; generalize w1.alloc (.cells zu8_12 100)=w2 at M  ⊢; generalize eB:w1.heap.size=B2 at M hB_B2  ⊢
 have hE_B2:w1.heap.size≤B2:=Nat.le_of_eq eB
 have hF_B2:B2≤w1.heap.size:=Nat.le_of_eq eB.symm
 clear eB
 replace M:Mm w ([(B2,[.int .u8 0,.int .u8 0,.int .u8 0,.int .u8 0,.int .u8 0,.int .u8 0,.int .u8 0,.int .u8 0,.int .u8 0,.int .u8 0,.int .u8 0,.int .u8 0]),(B1,[.int .u8 0,.int .u8 0,.int .u8 0,.int .u8 0,.int .u8 0,.int .u8 0,.int .u8 0,.int .u8 0,.int .u8 0,.int .u8 0,.int .u8 0,.int .u8 0])]) w2:=M
 refine xT ?_; go_upto_region 2 with fail; refine wp_region_list ?_; refine xpL (.int .i64 0) ?_; refine xT ?_; have HI:=show Hid _ from (show Mm w ([(B2,pcl n 0),(B1,[.int .u8 0,.int .u8 0,.int .u8 0,.int .u8 0,.int .u8 0,.int .u8 0,.int .u8 0,.int .u8 0,.int .u8 0,.int .u8 0,.int .u8 0,.int .u8 0])]) w2 from M); clear M; go_wp2
 go_loopw [5] (fun i w'=>∃ j:Nat,j≤8∧i=.int .i64 (j:Int)∧Mm w ([(B2,pcl n j),(B1,[.int .u8 0,.int .u8 0,.int .u8 0,.int .u8 0,.int .u8 0,.int .u8 0,.int .u8 0,.int .u8 0,.int .u8 0,.int .u8 0,.int .u8 0,.int .u8 0])]) w') (fun i _=>8-(intOf i).toNat)
 case atStart=>exact ⟨0,Nat.zero_le _,rfl,HI.out⟩
 case round =>
  clear HI
  obtain ⟨j,hj,rfl,M⟩:=hrel
  by_cases hlt:j<8
  · go_upto_region 3 with fail
    refine wp_region_list ?_; refine xaL (.bool true) (lssI .i64 _ _ _ _ _ _ rfl rfl rfl true (decide_eq_true (by omega)) _) ?_; refine xT ?_; go_upto_region 4 with fail; refine wp_region_list ?_; refine xpL (.int .i64 (j:Int)) ?_; refine xpL (.int .i64 (j:Int)) ?_; refine xT ?_; go_upto_region 5 with fail; refine wp_region_list ?_; refine xpL (.int .i64 (j:Int)) ?_
    refine xaL (.int .i64 ((4+j:Nat):Int)) (addI .i64 _ _ _ _ _ _ _ rfl rfl rfl (by rw [xw6]; omega) _) ?_; refine xpL (.int .u64 (n:Int)) ?_; refine xpL (.int .i64 (j:Int)) ?_; refine xaL (.int .i64 ((8*j:Nat):Int)) (mulI .i64 _ _ _ _ _ _ _ rfl rfl rfl (by rw [xw6]; omega) _) ?_
    refine xaL (.int .u64 ((n/256^j:Nat):Int)) (shrI .u64 .i64 _ _ _ _ _ _ _ rfl rfl rfl (by omega) (dig_shr n j (by omega)) _) ?_; refine xaL (.int .u8 (dig n j)) (convI .u64 .u8 _ _ _ _ _ rfl (by kernel_rfl) Tryz.underlying5 (by kernel_rfl) rfl (by rw [IntKind.wrap_u8]; unfold dig; omega) _) ?_
    refine xaL (.pointer (some ⟨B2,0+(4+j),none⟩)) (idxArr 100 5 12 .i64 B2 0 (4+j) _ _ Tryz.underlying100 (fun _=>by kernel_rfl) (by omega) rfl rfl rfl _) ?_
    have hj12:4+j<(pcl n j).length:=by show 4+j<12; omega
    rw [Nat.zero_add]
    refine skipOpL rfl (storeAny (.int .u8 (dig n j)) B2 (4+j) 5 _ _ rfl rfl rfl rfl rfl (M.isSome mS (4+j) hj12) (M.free mS (4+j) hj12) (by kernel_rfl)) ?_; simp only [Act.put]; replace M:=M.set (4+j) hj12 (.int .u8 (dig n j))
    rw [pcl_set n j hlt] at M
    clear hj12; generalize wr.setCell ⟨B2,4+j,none⟩ (.int .u8 (dig n j))=w3 at M ⊢; refine xT ?_; have HS:=show Hid _ from M; clear M; go_wp2
    go_roundw
    case rel=>first | exact ⟨j+1,by omega,by go_num,HS.out⟩ | ((repeat apply Exists.intro); refine ⟨⟨j+1,by omega,?_,HS.out⟩,rfl⟩ <;> first | rfl | go_num)
    case measure=>simp [intOf]; omega
  · obtain rfl:j=8:=by omega
    go_upto_region 3 with fail; refine wp_region_list ?_; refine xaL (.bool false) (lssI .i64 _ _ _ _ _ _ rfl rfl rfl false (by decide) _) ?_; refine xT ?_
    replace M:Mm w ([(B2,[.int .u8 (pcz n 8 0),.int .u8 (pcz n 8 1),.int .u8 (pcz n 8 2),.int .u8 (pcz n 8 3),.int .u8 (pcz n 8 4),.int .u8 (pcz n 8 5),.int .u8 (pcz n 8 6),.int .u8 (pcz n 8 7),.int .u8 (pcz n 8 8),.int .u8 (pcz n 8 9),.int .u8 (pcz n 8 10),.int .u8 (pcz n 8 11)]),(B1,[.int .u8 0,.int .u8 0,.int .u8 0,.int .u8 0,.int .u8 0,.int .u8 0,.int .u8 0,.int .u8 0,.int .u8 0,.int .u8 0,.int .u8 0,.int .u8 0])]) wr:=M
    go_upto_region 7 with fail; refine wp_region_list ?_
    refine xaL (.agg #[.int .u8 (pcz n 8 0),.int .u8 (pcz n 8 1),.int .u8 (pcz n 8 2),.int .u8 (pcz n 8 3),.int .u8 (pcz n 8 4),.int .u8 (pcz n 8 5),.int .u8 (pcz n 8 6),.int .u8 (pcz n 8 7),.int .u8 (pcz n 8 8),.int .u8 (pcz n 8 9),.int .u8 (pcz n 8 10),.int .u8 (pcz n 8 11)]) (loadN 100 _ ⟨B2,0,none⟩ [.int .u8 (pcz n 8 0),.int .u8 (pcz n 8 1),.int .u8 (pcz n 8 2),.int .u8 (pcz n 8 3),.int .u8 (pcz n 8 4),.int .u8 (pcz n 8 5),.int .u8 (pcz n 8 6),.int .u8 (pcz n 8 7),.int .u8 (pcz n 8 8),.int .u8 (pcz n 8 9),.int .u8 (pcz n 8 10),.int .u8 (pcz n 8 11)] rfl rfl (fun _=>by kernel_rfl) (fun _=>by kernel_rfl) (M.rangeAt mS)) ?_
    replace M:=M.swap
    refine skipOpL rfl (storeP [.int .u8 (pcz n 8 0),.int .u8 (pcz n 8 1),.int .u8 (pcz n 8 2),.int .u8 (pcz n 8 3),.int .u8 (pcz n 8 4),.int .u8 (pcz n 8 5),.int .u8 (pcz n 8 6),.int .u8 (pcz n 8 7),.int .u8 (pcz n 8 8),.int .u8 (pcz n 8 9),.int .u8 (pcz n 8 10),.int .u8 (pcz n 8 11)] B1 0 100 _ _ rfl rfl rfl (M.thereP mS 0 12 (Nat.le_of_ble_eq_true rfl)) (by kernel_rfl) (List.all_eq_true.1 (rfl:([.int .u8 (pcz n 8 0),.int .u8 (pcz n 8 1),.int .u8 (pcz n 8 2),.int .u8 (pcz n 8 3),.int .u8 (pcz n 8 4),.int .u8 (pcz n 8 5),.int .u8 (pcz n 8 6),.int .u8 (pcz n 8 7),.int .u8 (pcz n 8 8),.int .u8 (pcz n 8 9),.int .u8 (pcz n 8 10),.int .u8 (pcz n 8 11)]:List Value).all (fun u=>u.oneCell')=true))) ?_
    simp only [Act.put]; replace M:=M.setPart [.int .u8 (pcz n 8 0),.int .u8 (pcz n 8 1),.int .u8 (pcz n 8 2),.int .u8 (pcz n 8 3),.int .u8 (pcz n 8 4),.int .u8 (pcz n 8 5),.int .u8 (pcz n 8 6),.int .u8 (pcz n 8 7),.int .u8 (pcz n 8 8),.int .u8 (pcz n 8 9),.int .u8 (pcz n 8 10),.int .u8 (pcz n 8 11)] 0 (Nat.le_of_ble_eq_true rfl)
    generalize wr.setCells B1 0 [.int .u8 (pcz n 8 0),.int .u8 (pcz n 8 1),.int .u8 (pcz n 8 2),.int .u8 (pcz n 8 3),.int .u8 (pcz n 8 4),.int .u8 (pcz n 8 5),.int .u8 (pcz n 8 6),.int .u8 (pcz n 8 7),.int .u8 (pcz n 8 8),.int .u8 (pcz n 8 9),.int .u8 (pcz n 8 10),.int .u8 (pcz n 8 11)]=w4 at M  ⊢
    replace M:Mm w ([(B1,[.int .u8 (pcz n 8 0),.int .u8 (pcz n 8 1),.int .u8 (pcz n 8 2),.int .u8 (pcz n 8 3),.int .u8 (pcz n 8 4),.int .u8 (pcz n 8 5),.int .u8 (pcz n 8 6),.int .u8 (pcz n 8 7),.int .u8 (pcz n 8 8),.int .u8 (pcz n 8 9),.int .u8 (pcz n 8 10),.int .u8 (pcz n 8 11)]),(B2,[.int .u8 (pcz n 8 0),.int .u8 (pcz n 8 1),.int .u8 (pcz n 8 2),.int .u8 (pcz n 8 3),.int .u8 (pcz n 8 4),.int .u8 (pcz n 8 5),.int .u8 (pcz n 8 6),.int .u8 (pcz n 8 7),.int .u8 (pcz n 8 8),.int .u8 (pcz n 8 9),.int .u8 (pcz n 8 10),.int .u8 (pcz n 8 11)])]) w4:=M
    refine xT ?_; have c1_:=M.part mS 0 (row .u8 12 (snz n)) rfl; have hbel:=M.below; clear M; go_wp2; refine bodyPost_ret (v:=.agg (row .u8 12 (snz n)).toArray) (retCell 2 100 ⟨B1,0,none⟩ (row .u8 12 (snz n)) rfl rfl (fun _=>by kernel_rfl) (fun _=>by kernel_rfl) c1_) rfl ?_
    exact ⟨rfl,hbel⟩
def pcx (v0:Value) (ps:List (List Value)) (s:Sym):List Value:=([v0]::pcs12 s::ps).flatten
theorem pcx_eq (v0:Value) (ps:List (List Value)) (s:Sym):pcx v0 ps s=v0::(pcs12 s++ps.flatten):=rfl
theorem pcx_len (v0:Value) (ps:List (List Value)) (s:Sym):(pcx v0 ps s).length=99+ps.flatten.length:=by rw [pcx_eq,List.length_cons,List.length_append,pcs12_len]; omega
theorem pcx_part (v0:Value) (ps:List (List Value)) (s:Sym) (o:Nat) (r:List Value) (h:((pcs12 s).drop o).take r.length=r) (hl:o+r.length≤98):((pcx v0 ps s).drop (o+1)).take r.length=r:=by
 rw [pcx_eq,List.drop_succ_cons,List.drop_append_of_le_length (by rw [pcs12_len]; omega),List.take_append_of_le_length (by rw [List.length_drop,pcs12_len]; omega)]
 exact h
theorem pcx_h (v0:Value) (ps:List (List Value)) (s:Sym):((pcx v0 ps s).drop 1).take (row .u8 32 s.h).length=row .u8 32 s.h:=pcx_part v0 ps s 0 _ (pcs12_h s) (by rw [row32]; decide)
theorem pcx_c (v0:Value) (ps:List (List Value)) (s:Sym):((pcx v0 ps s).drop 33).take (row .u8 32 s.c).length=row .u8 32 s.c:=pcx_part v0 ps s 32 _ (pcs12_c s) (by rw [row32]; decide)
theorem pcx_k (v0:Value) (ps:List (List Value)) (s:Sym):((pcx v0 ps s).drop 65).take (row .u8 32 s.k).length=row .u8 32 s.k:=pcx_part v0 ps s 64 _ (pcs12_k s) (by rw [row32]; decide)
theorem pcx_all (v0:Value) (ps:List (List Value)) (s:Sym):((pcx v0 ps s).drop 1).take (pcs12 s).length=pcs12 s:=pcx_part v0 ps s 0 _ (by rw [List.drop_zero,List.take_length]) (by rw [pcs12_len]; decide)
theorem pcx_rest (v0:Value) (ps:List (List Value)) (s:Sym) (j:Nat) (hj:j<2:=by decide):(pcx v0 ps s)[97+j]?=[Value.bool s.has,.int .u64 (s.n:Int)][j]?:=by
 rw [pcx_eq,show 97+j=(96+j)+1 by omega,List.getElem?_cons_succ,List.getElem?_append_left (by rw [pcs12_len]; omega),pcs12_rest]
theorem setL_app:∀ (ds x z:List Value) (o:Nat),o+ds.length≤x.length→setL (x++z) o ds=setL x o ds++z
 | [],_,_,_,_=>rfl
 | d::ds,x,z,o,h=>by
   rw [List.length_cons] at h
   show setL ((x++z).set o d) (o+1) ds=setL (x.set o d) (o+1) ds++z
   rw [List.set_append_left _ _ (by omega),setL_app ds (x.set o d) z (o+1) (by rw [List.length_set]; omega)]
theorem pcx_setL (v0:Value) (ps:List (List Value)) (s t:Sym) (o:Nat) (ds:List Value) (h:setL (pcs12 s) o ds=pcs12 t) (hl:o+ds.length≤98):setL (pcx v0 ps s) (o+1) ds=pcx v0 ps t:=by
 have:=setL_pre [v0] ds (pcs12 s++ps.flatten) o
 rw [setL_app ds (pcs12 s) ps.flatten o (by rw [pcs12_len]; exact hl),h] at this
 rw [Nat.add_comm o 1]
 exact this
theorem pcx_setH (v0:Value) (ps:List (List Value)) (s:Sym) (f:Nat→Int):setL (pcx v0 ps s) 1 (row .u8 32 f)=pcx v0 ps { s with h:=f }:=pcx_setL v0 ps s _ 0 _ (pcs12_setH s f) (by rw [row32]; decide)
theorem pcx_setC (v0:Value) (ps:List (List Value)) (s:Sym) (f:Nat→Int):setL (pcx v0 ps s) 33 (row .u8 32 f)=pcx v0 ps { s with c:=f }:=pcx_setL v0 ps s _ 32 _ (pcs12_setC s f) (by rw [row32]; decide)
theorem pcx_setK (v0:Value) (ps:List (List Value)) (s:Sym) (f:Nat→Int):setL (pcx v0 ps s) 65 (row .u8 32 f)=pcx v0 ps { s with k:=f }:=pcx_setL v0 ps s _ 64 _ (pcs12_setK s f) (by rw [row32]; decide)
theorem pcx_set97 (v0:Value) (ps:List (List Value)) (s:Sym) (b:Bool):(pcx v0 ps s).set 97 (.bool b)=pcx v0 ps { s with has:=b }:=pcx_setL v0 ps s _ 96 [.bool b] (pcs12_set96 s b) (Nat.le_of_ble_eq_true rfl)
theorem pcx_set98 (v0:Value) (ps:List (List Value)) (s:Sym) (n:Nat):(pcx v0 ps s).set 98 (.int .u64 (n:Int))=pcx v0 ps { s with n:=n }:=pcx_setL v0 ps s _ 97 [.int .u64 (n:Int)] (pcs12_set97 s n) (Nat.le_of_ble_eq_true rfl)
theorem vmix13_any (w0 w:World) (R:Nat) (l:List (Nat × List Value)) (v0:Value) (ps:List (List Value)) (s:Sym) (hg:SGlob w0) (hsw:SymW s) (sp:Option Addr) (cap:Nat) (b:List Int) (hlen:b.length≤140737488351248) (_:b.length≤cap) (hnil:sp=none→cap=0) (hb:Byts b) (M:Mm w0 ((R,pcx v0 ps s)::l) w) (hs:Src w sp b.length (bl b)):Calls Tryz.prog 49 #[.pointer (some ⟨R,1,none⟩),.slice sp b.length cap] w fun e w'=>e=.returned (.tuple #[])∧Mm w0 ((R,pcx v0 ps (smix s b))::l) w'∧Off [R] w w':=by
 have hRw:=M.lt mS; have hR0:=M.below.size; have hwz:=xnR w.heap.size; have OF:=Off.refl [R] w
 go_enter Tryz.func49,Tryz.ntmps49
 go_upto_region 0 with fail; refine wp_region_list ?_; refine xpL (.pointer (some ⟨R,1,none⟩)) ?_; refine xpL (.pointer (some ⟨R,1,none⟩)) ?_; refine xpL (.pointer (some ⟨R,1,none⟩)) ?_; refine xpL (.pointer (some ⟨R,1,none⟩)) ?_; refine xaL (.slice (some ⟨R,1,none⟩) 32 32) (cutAll 23 _ _ _ rfl rfl (by kernel_rfl)) ?_; refine xpL (.slice sp b.length cap) ?_
 have HC:=catIn2 w.heap.size (some ⟨R,1,none⟩) sp 32 b.length 32 cap s.h (bl b) 32 rfl (M.srcRow mS 1 32 _ (pcx_h v0 ps s)) hs (fun e=>by cases e) hnil; have hlb:=(Below.refl w.heap.size w).alloc (xnR _) (.cells #[.slice (some ⟨R,1,none⟩) 32 32,.slice sp b.length cap] 32)
 refine actL (w':=w.alloc (.cells #[.slice (some ⟨R,1,none⟩) 32 32,.slice sp b.length cap] 32)) (.slice (some ⟨w.heap.size,0,none⟩) 2 2) rfl (by kernel_rfl) ?_; simp only [aP,lI,l0,lS]; replace M:=M.call hlb; replace hs:=hs.below hlb (xnR _); replace OF:=OF.below hlb; replace hwz:=xnT hwz hlb.size; clear hlb
 generalize w.alloc (.cells #[.slice (some ⟨R,1,none⟩) 32 32,.slice sp b.length cap] 32)=w1 at M HC hwz OF hs ⊢; generalize hC:w.heap.size=C at HC ⊢; clear hC; refine xcL (concat_any ⟨C,0,none⟩ 2 2 _ _ _ _ (by decide) (by rw [tot2]; omega) _ HC) ?_; rintro e w2 ⟨v,rfl,hO,l⟩
 rw [tot2] at hO
 have N_2:NewF w2 w.heap.size (32+b.length) (app s.h 32 (bl b)) v:=NewF.of_own ((hO.congr fun j _=>catz2 _ _ _ _ j).lower hwz)
 replace M:=M.call l; replace hs:=hs.below l (xnR _); replace OF:=OF.below l; replace hwz:=xnT hwz l.size; clear l hO HC
 obtain ⟨p2,c2,rfl,hcc_2,hnn_2,_,_⟩:=id N_2
 refine xeL ?_
 have hzz:In 256 (32+b.length) (app s.h 32 (bl b)):=app_in _ _ _ _ hsw.h hb.bl
 refine xcL (bhash_any p2 _ c2 (by omega) hcc_2 hnn_2 (app s.h 32 (bl b)) hzz _ (hg.mm M).b (NewF.src N_2)) ?_; rintro e w3 ⟨rfl,l1⟩; replace M:=M.call l1; replace hs:=hs.below l1 (xnR _); replace OF:=OF.below l1; replace hwz:=xnT hwz l1.size; clear l1 hzz N_2 hcc_2 hnn_2; refine xeL ?_; refine xpL (.pointer (some ⟨R,1,none⟩)) ?_; refine xpL (.pointer (some ⟨R,1,none⟩)) ?_
 refine skipOpL rfl (storeP (row .u8 32 (bhash (32+b.length) (app s.h 32 (bl b)))) R 1 23 _ _ rfl rfl rfl (M.thereP mS 1 32 (by rw [pcx_len]; omega)) (by kernel_rfl) (row_one .u8 32 (bhash (32+b.length) (app s.h 32 (bl b))))) ?_; simp only [Act.put]; replace M:=M.setPart (row .u8 32 (bhash (32+b.length) (app s.h 32 (bl b)))) 1 (by rw [row32,pcx_len]; omega)
 rw [pcx_setH] at M
 clear hs; replace OF:=OF.and1 ((Off.refl [R] _).setAll (b:=R) mS 1 (row .u8 32 (bhash (32+b.length) (app s.h 32 (bl b))))) (.inl mS); generalize w3.setCells R 1 (row .u8 32 (bhash (32+b.length) (app s.h 32 (bl b))))=w4 at M OF ⊢
 replace M:Mm w0 ((R,pcx v0 ps (⟨bhash (32+b.length) (app s.h 32 (bl b)),s.c,s.k,s.has,s.n⟩:Sym))::l) w4:=M
 exact ⟨rfl,.tuple #[],by kernel_rfl,rfl,M,OF⟩
theorem vkey13_any (w0 w:World) (R:Nat) (l:List (Nat × List Value)) (v0:Value) (ps:List (List Value)) (s:Sym) (hg:SGlob w0) (hsw:SymW s) (sp:Option Addr) (cap:Nat) (b:List Int) (hlen:b.length≤140737488351232) (hcap:b.length≤cap) (hnil:sp=none→cap=0) (hb:Byts b) (M:Mm w0 ((R,pcx v0 ps s)::l) w) (hs:Src w sp b.length (bl b)):Calls Tryz.prog 79 #[.pointer (some ⟨R,1,none⟩),.slice sp b.length cap] w fun e w'=>e=.returned (.tuple #[])∧Mm w0 ((R,pcx v0 ps (skey s b))::l) w'∧Off [R] w w':=by
 have hRw:=M.lt mS; have hR0:=M.below.size; have hwz:=xnR w.heap.size; have OF:=Off.refl [R] w
 go_enter Tryz.func79,Tryz.ntmps79
 go_upto_region 0 with fail; refine wp_region_list ?_; refine xpL (.pointer (some ⟨R,1,none⟩)) ?_; refine xpL (.pointer (some ⟨R,1,none⟩)) ?_; refine xpL (.pointer (some ⟨R,1,none⟩)) ?_; refine xpL (.pointer (some ⟨R,1,none⟩)) ?_; refine xpL (.pointer (some ⟨R,33,none⟩)) ?_
 refine xaL (.agg (row .u8 32 s.c).toArray) (loadN 23 _ ⟨R,33,none⟩ (row .u8 32 s.c) rfl rfl (fun _=>by kernel_rfl) (fun _=>by rw [row32]; kernel_rfl) (M.part mS 33 _ (pcx_c v0 ps s))) ?_; refine xpL (.slice sp b.length cap) ?_; refine xcL (kchain_any s.c hsw.c sp b.length cap hlen hcap hnil (bl b) hb.bl _ (hg.mm M).b hs) ?_; rintro e w1 ⟨rfl,l1⟩; replace M:=M.call l1
 replace hs:=hs.below l1 (xnR _); replace OF:=OF.below l1; replace hwz:=xnT hwz l1.size; clear l1; refine xeL ?_; refine xpL (.tuple #[.agg (row .u8 32 (kA s.c b.length (bl b))).toArray,.agg (row .u8 32 (kB s.c b.length (bl b))).toArray]) ?_; refine xpL (.agg (row .u8 32 (kA s.c b.length (bl b))).toArray) ?_; refine xpL (.agg (row .u8 32 (kB s.c b.length (bl b))).toArray) ?_
 refine xpL (.pointer (some ⟨R,1,none⟩)) ?_; refine xpL (.pointer (some ⟨R,33,none⟩)) ?_; refine skipOpL rfl (storeP (row .u8 32 (kA s.c b.length (bl b))) R 33 23 _ _ rfl rfl rfl (M.thereP mS 33 32 (by rw [pcx_len]; omega)) (by kernel_rfl) (row_one .u8 32 (kA s.c b.length (bl b)))) ?_; simp only [Act.put]
 replace M:=M.setPart (row .u8 32 (kA s.c b.length (bl b))) 33 (by rw [row32,pcx_len]; omega)
 rw [pcx_setC] at M
 clear hs; replace OF:=OF.and1 ((Off.refl [R] _).setAll (b:=R) mS 33 (row .u8 32 (kA s.c b.length (bl b)))) (.inl mS); generalize w1.setCells R 33 (row .u8 32 (kA s.c b.length (bl b)))=w2 at M OF ⊢
 replace M:Mm w0 ((R,pcx v0 ps (⟨s.h,kA s.c b.length (bl b),s.k,s.has,s.n⟩:Sym))::l) w2:=M
 refine xpL (.pointer (some ⟨R,1,none⟩)) ?_; refine xpL (.pointer (some ⟨R,65,none⟩)) ?_; refine skipOpL rfl (storeP (row .u8 32 (kB s.c b.length (bl b))) R 65 23 _ _ rfl rfl rfl (M.thereP mS 65 32 (by rw [pcx_len]; omega)) (by kernel_rfl) (row_one .u8 32 (kB s.c b.length (bl b)))) ?_; simp only [Act.put]
 replace M:=M.setPart (row .u8 32 (kB s.c b.length (bl b))) 65 (by rw [row32,pcx_len]; omega)
 rw [pcx_setK] at M
 replace OF:=OF.and1 ((Off.refl [R] _).setAll (b:=R) mS 65 (row .u8 32 (kB s.c b.length (bl b)))) (.inl mS); generalize w2.setCells R 65 (row .u8 32 (kB s.c b.length (bl b)))=w3 at M OF ⊢
 replace M:Mm w0 ((R,pcx v0 ps (⟨s.h,kA s.c b.length (bl b),kB s.c b.length (bl b),s.has,s.n⟩:Sym))::l) w3:=M
 refine xT ?_; go_upto_region 1 with fail; refine wp_region_list ?_; refine xpL (.pointer (some ⟨R,1,none⟩)) ?_; refine xpL (.pointer (some ⟨R,1,none⟩)) ?_; refine xpL (.pointer (some ⟨R,1,none⟩)) ?_; refine xpL (.pointer (some ⟨R,97,none⟩)) ?_
 refine skipOpL rfl (storeAny (.bool true) R 97 4 _ _ rfl rfl rfl rfl rfl (M.isSome mS 97 (by rw [pcx_len]; omega)) (M.free mS 97 (by rw [pcx_len]; omega)) (by kernel_rfl)) ?_; simp only [Act.put]; replace M:=M.set 97 (by rw [pcx_len]; omega) (.bool true)
 rw [pcx_set97] at M
 replace OF:=OF.and1 ((Off.refl [R] _).set (b:=R) mS 97 (.bool true)) (.inl mS); generalize w3.setCell ⟨R,97,none⟩ (.bool true)=w4 at M OF ⊢
 replace M:Mm w0 ((R,pcx v0 ps (⟨s.h,kA s.c b.length (bl b),kB s.c b.length (bl b),true,s.n⟩:Sym))::l) w4:=M
 refine xpL (.pointer (some ⟨R,1,none⟩)) ?_; refine xpL (.pointer (some ⟨R,98,none⟩)) ?_; refine skipOpL rfl (storeAny (.int .u64 0) R 98 58 _ _ rfl rfl rfl rfl rfl (M.isSome mS 98 (by rw [pcx_len]; omega)) (M.free mS 98 (by rw [pcx_len]; omega)) (by kernel_rfl)) ?_; simp only [Act.put]; replace M:=M.set 98 (by rw [pcx_len]; omega) (.int .u64 0)
 rw [show (.int .u64 0:Value)=.int .u64 ((0:Nat):Int) from rfl,pcx_set98] at M
 replace OF:=OF.and1 ((Off.refl [R] _).set (b:=R) mS 98 (.int .u64 0)) (.inl mS); generalize w4.setCell ⟨R,98,none⟩ (.int .u64 0)=w5 at M OF ⊢
 replace M:Mm w0 ((R,pcx v0 ps (⟨s.h,kA s.c b.length (bl b),kB s.c b.length (bl b),true,0⟩:Sym))::l) w5:=M
 exact ⟨rfl,.tuple #[],by kernel_rfl,rfl,M,OF⟩
theorem vsplit13_any (w0 w:World) (R:Nat) (l:List (Nat × List Value)) (v0:Value) (ps:List (List Value)) (s:Sym) (hg:SGlob w0) (hsw:SymW s) (M:Mm w0 ((R,pcx v0 ps s)::l) w) :
 Calls Tryz.prog 77 #[.pointer (some ⟨R,1,none⟩)] w fun e w'=>e=.returned (.tuple #[(.agg (row .u8 32 (kA s.c 0 (bl []))).toArray),(.agg (row .u8 32 (kB s.c 0 (bl []))).toArray)])∧Below w.heap.size w w':=by
 have OF:=Off.refl [] w; have hb0:=M.below
 go_enter Tryz.func77,Tryz.ntmps77
 go_upto_region 0 with fail; refine wp_region_list ?_; have hz0_:=OF.size; refine actL (w':=w.alloc (.cells zu8_32 23)) (.pointer (some ⟨w.heap.size,0,none⟩)) rfl (by kernel_rfl) ?_; simp only [aP,lI,l0,lS]; have hlb:=(Below.refl w.heap.size w).alloc (xnR _) (.cells zu8_32 23); replace OF:=OF.below hlb; clear hlb
 have hB_B1:w0.heap.size≤w.heap.size:=M.below.size
 replace M:=M.box zu8_32 23 w.heap.size rfl; generalize w.alloc (.cells zu8_32 23)=w1 at M OF ⊢; generalize eB:w.heap.size=B1 at M hB_B1  ⊢
 have hE_B1:w.heap.size≤B1:=Nat.le_of_eq eB
 have hF_B1:B1≤w.heap.size:=Nat.le_of_eq eB.symm
 clear eB
 replace M:Mm w0 ((B1,[.int .u8 0,.int .u8 0,.int .u8 0,.int .u8 0,.int .u8 0,.int .u8 0,.int .u8 0,.int .u8 0,.int .u8 0,.int .u8 0,.int .u8 0,.int .u8 0,.int .u8 0,.int .u8 0,.int .u8 0,.int .u8 0,.int .u8 0,.int .u8 0,.int .u8 0,.int .u8 0,.int .u8 0,.int .u8 0,.int .u8 0,.int .u8 0,.int .u8 0,.int .u8 0,.int .u8 0,.int .u8 0,.int .u8 0,.int .u8 0,.int .u8 0,.int .u8 0])::(R,pcx v0 ps s)::l) w1:=M
 have hW_B1:w.heap.size≤B1:=by omega
 clear hz0_; have hz0_:=OF.size; refine actL (w':=w1.alloc (.cells zu8_32 23)) (.pointer (some ⟨w1.heap.size,0,none⟩)) rfl (by kernel_rfl) ?_; simp only [aP,lI,l0,lS]; have hlb:=(Below.refl w1.heap.size w1).alloc (xnR _) (.cells zu8_32 23); replace OF:=OF.below hlb; clear hlb
 have hB_B2:w0.heap.size≤w1.heap.size:=M.below.size
 replace M:=M.box zu8_32 23 w1.heap.size rfl; generalize w1.alloc (.cells zu8_32 23)=w2 at M OF ⊢; generalize eB:w1.heap.size=B2 at M hB_B2  ⊢
 have hE_B2:w1.heap.size≤B2:=Nat.le_of_eq eB
 have hF_B2:B2≤w1.heap.size:=Nat.le_of_eq eB.symm
 clear eB
 replace M:Mm w0 ((B2,[.int .u8 0,.int .u8 0,.int .u8 0,.int .u8 0,.int .u8 0,.int .u8 0,.int .u8 0,.int .u8 0,.int .u8 0,.int .u8 0,.int .u8 0,.int .u8 0,.int .u8 0,.int .u8 0,.int .u8 0,.int .u8 0,.int .u8 0,.int .u8 0,.int .u8 0,.int .u8 0,.int .u8 0,.int .u8 0,.int .u8 0,.int .u8 0,.int .u8 0,.int .u8 0,.int .u8 0,.int .u8 0,.int .u8 0,.int .u8 0,.int .u8 0,.int .u8 0])::(B1,[.int .u8 0,.int .u8 0,.int .u8 0,.int .u8 0,.int .u8 0,.int .u8 0,.int .u8 0,.int .u8 0,.int .u8 0,.int .u8 0,.int .u8 0,.int .u8 0,.int .u8 0,.int .u8 0,.int .u8 0,.int .u8 0,.int .u8 0,.int .u8 0,.int .u8 0,.int .u8 0,.int .u8 0,.int .u8 0,.int .u8 0,.int .u8 0,.int .u8 0,.int .u8 0,.int .u8 0,.int .u8 0,.int .u8 0,.int .u8 0,.int .u8 0,.int .u8 0])::(R,pcx v0 ps s)::l) w2:=M
 have hW_B2:w.heap.size≤B2:=by omega
 clear hz0_; refine xT ?_; go_upto_region 1 with fail; refine wp_region_list ?_; refine xpL (.pointer (some ⟨R,1,none⟩)) ?_; refine xpL (.pointer (some ⟨R,1,none⟩)) ?_; refine xpL (.pointer (some ⟨R,33,none⟩)) ?_
 refine xaL (.agg (row .u8 32 s.c).toArray) (loadN 23 _ ⟨R,33,none⟩ (row .u8 32 s.c) rfl rfl (fun _=>by kernel_rfl) (fun _=>by rw [row32]; kernel_rfl) (M.part (mI 2 rfl) 33 _ (pcx_c v0 ps s))) ?_; refine xcL (kchain_any s.c hsw.c none 0 0 (by decide) (xnR 0) (fun _=>rfl) (bl []) (fun j hj=>absurd hj (xnZ j)) _ (hg.mm M).b (fun j hj=>absurd hj (xnZ j))) ?_; rintro e w3 ⟨rfl,l1⟩
 replace M:=M.call l1; replace OF:=OF.below l1; clear l1; refine xeL ?_; refine xpL (.agg (row .u8 32 (kA s.c 0 (bl []))).toArray) ?_; refine xpL (.agg (row .u8 32 (kB s.c 0 (bl []))).toArray) ?_; replace M:=M.swap
 refine skipOpL rfl (storeP (row .u8 32 (kA s.c 0 (bl []))) B1 0 23 _ _ rfl rfl rfl (M.thereP mS 0 32 (Nat.le_of_ble_eq_true rfl)) (by kernel_rfl) (row_one .u8 32 (kA s.c 0 (bl [])))) ?_; simp only [Act.put]; replace M:=M.setAll (row .u8 32 (kA s.c 0 (bl []))) (by rw [row32]; rfl); replace OF:=OF.and1 ((Off.refl [B1] _).setAll (b:=B1) mS 0 (row .u8 32 (kA s.c 0 (bl [])))) (.inr (by omega))
 generalize w3.setCells B1 0 (row .u8 32 (kA s.c 0 (bl [])))=w4 at M OF ⊢; replace M:=M.swap; refine skipOpL rfl (storeP (row .u8 32 (kB s.c 0 (bl []))) B2 0 23 _ _ rfl rfl rfl (M.thereP mS 0 32 (Nat.le_of_ble_eq_true rfl)) (by kernel_rfl) (row_one .u8 32 (kB s.c 0 (bl [])))) ?_; simp only [Act.put]; replace M:=M.setAll (row .u8 32 (kB s.c 0 (bl []))) (by rw [row32]; rfl)
 replace OF:=OF.and1 ((Off.refl [B2] _).setAll (b:=B2) mS 0 (row .u8 32 (kB s.c 0 (bl [])))) (.inr (by omega)); generalize w4.setCells B2 0 (row .u8 32 (kB s.c 0 (bl [])))=w5 at M OF ⊢; refine xT ?_
 have c1:w5.rangeAt B1 0 (row .u8 32 (kA s.c 0 (bl []))):=fun j v hv=>by rw [Nat.zero_add]; exact M.get (mT _ mS) j v hv
 have c2:w5.rangeAt B2 0 (row .u8 32 (kB s.c 0 (bl []))):=fun j v hv=>by rw [Nat.zero_add]; exact M.get mS j v hv
 have hbel:Below w.heap.size w w5:=⟨M.below.os.trans hb0.os.symm,M.below.tape.trans hb0.tape.symm,M.below.output.trans hb0.output.symm,OF.size,fun b hb=>OF.blk b hb (fun h=>by cases h)⟩
 clear M OF; go_wp2; refine bodyPost_ret (results_two (a:=2) (b:=3) (ty:=23) (ty':=23) rfl rfl rfl c1 c2 Tryz.underlying23 Tryz.underlying23 rfl rfl (by kernel_rfl) (by kernel_rfl)) rfl ?_
 exact ⟨rfl,hbel⟩
theorem pcs12_one (s:Sym):∀ u∈pcs12 s,u.oneCell'=true:=fun u hu=>by
 unfold pcs12 at hu
 rcases List.mem_append.1 hu with h | h
 · exact row_one .u8 32 s.h u h
 rcases List.mem_append.1 h with h | h
 · exact row_one .u8 32 s.c u h
 rcases List.mem_append.1 h with h | h
 · exact row_one .u8 32 s.k u h
 rcases xc1 h with rfl | h
 · rfl
 obtain rfl:=xm1 h
 rfl
theorem vnew12_any (w0 w:World) (l:List (Nat × List Value)) (hg:SGlob w0) (M:Mm w0 l w) :
 Calls Tryz.prog 60 #[] w fun e w'=>∃ Q,e=.returned (.pointer (some ⟨Q,0,none⟩))∧w.heap.size≤Q∧Mm w0 ((Q,pcs12 snew)::l) w'∧Below w.heap.size w w':=by
 obtain ⟨f,hf⟩:∃ f,f=bhash 33 (bl snoise):=⟨_,rfl⟩
 rw [show snew=sbeg f by rw [hf]; rfl]
 have OF:=Off.refl [] w; have hb0:=M.below
 go_enter Tryz.func60,Tryz.ntmps60
 go_upto_region 0 with fail; refine wp_region_list ?_; refine xpL (.pointer none) ?_; refine xT ?_; go_upto_region 1 with fail; refine wp_region_list ?_; refine actL (w':=w.alloc (.cells (row .u8 33 (bl snoise)).toArray 5)) (.slice (some ⟨w.heap.size,0,none⟩) 33 33) rfl (by kernel_rfl) ?_; simp only [aP,lI,l0,lS]
 refine xaL (.slice (some ⟨w.heap.size,0,none⟩) 33 33) (conv_const 32 5 (row .u8 33 (bl snoise)).toArray 33 33 _ rfl rfl Tryz.underlying32 Tryz.underlying5) ?_; have hsrc:=(has_marked w .u8 33 (bl snoise) 5).src0; have hlb:=(Below.refl w.heap.size w).alloc (xnR _) (.cells (row .u8 33 (bl snoise)).toArray 5 ((row .u8 33 (bl snoise)).toArray.size,(row .u8 33 (bl snoise)).toArray.size+1))
 replace M:=M.call hlb; replace OF:=OF.below hlb; clear hlb; generalize w.alloc (.cells (row .u8 33 (bl snoise)).toArray 5 ((row .u8 33 (bl snoise)).toArray.size,(row .u8 33 (bl snoise)).toArray.size+1))=w1 at M hsrc OF ⊢; refine xcL (bhash_any (some ⟨w.heap.size,0,none⟩) 33 33 (by decide) (by decide) (fun e=>by cases e) (bl snoise) snoise_in.bl _ (hg.mm M).b hsrc) ?_
 rintro e w2 ⟨rfl,l1⟩; replace M:=M.call l1; replace OF:=OF.below l1; clear l1 hsrc
 rw [← hf]
 refine xeL ?_; have hz0_:=OF.size; refine actL (w':=w2.alloc (.cells zu8_32 23)) (.pointer (some ⟨w2.heap.size,0,none⟩)) rfl (by kernel_rfl) ?_; simp only [aP,lI,l0,lS]; have hlb:=(Below.refl w2.heap.size w2).alloc (xnR _) (.cells zu8_32 23); replace OF:=OF.below hlb; clear hlb
 have hB_B3:w0.heap.size≤w2.heap.size:=M.below.size
 replace M:=M.box zu8_32 23 w2.heap.size rfl; generalize w2.alloc (.cells zu8_32 23)=w3 at M OF ⊢; generalize eB:w2.heap.size=B3 at M hB_B3  ⊢
 have hE_B3:w2.heap.size≤B3:=Nat.le_of_eq eB
 have hF_B3:B3≤w2.heap.size:=Nat.le_of_eq eB.symm
 clear eB
 replace M:Mm w0 ((B3,[.int .u8 0,.int .u8 0,.int .u8 0,.int .u8 0,.int .u8 0,.int .u8 0,.int .u8 0,.int .u8 0,.int .u8 0,.int .u8 0,.int .u8 0,.int .u8 0,.int .u8 0,.int .u8 0,.int .u8 0,.int .u8 0,.int .u8 0,.int .u8 0,.int .u8 0,.int .u8 0,.int .u8 0,.int .u8 0,.int .u8 0,.int .u8 0,.int .u8 0,.int .u8 0,.int .u8 0,.int .u8 0,.int .u8 0,.int .u8 0,.int .u8 0,.int .u8 0])::l) w3:=M
 have hW_B3:w.heap.size≤B3:=by omega
 clear hz0_; refine skipOpL rfl (storeP (row .u8 32 f) B3 0 23 _ _ rfl rfl rfl (M.thereP mS 0 32 (Nat.le_of_ble_eq_true rfl)) (by rw [List.size_toArray,row32]; kernel_rfl) (row_one .u8 32 _)) ?_; simp only [Act.put]; replace M:=M.setAll (row .u8 32 f) (by rw [row32]; rfl); replace OF:=OF.and1 ((Off.refl [B3] _).setAll mS 0 (row .u8 32 f)) (.inr (by omega))
 generalize w3.setCells B3 0 (row .u8 32 f)=w4 at M OF ⊢; refine xT ?_; go_upto_region 2 with fail; refine wp_region_list ?_; refine xaL (.agg (row .u8 32 f).toArray) (loadN 23 _ ⟨B3,0,none⟩ (row .u8 32 f) rfl rfl (fun _=>by kernel_rfl) (fun _=>by rw [row32]; kernel_rfl) (M.part mS 0 _ (by rw [List.drop_zero,List.take_length]))) ?_
 refine xaL (.agg (row .u8 32 f).toArray) (loadN 23 _ ⟨B3,0,none⟩ (row .u8 32 f) rfl rfl (fun _=>by kernel_rfl) (fun _=>by rw [row32]; kernel_rfl) (M.part mS 0 _ (by rw [List.drop_zero,List.take_length]))) ?_; refine xpL (.agg (pcs12 (sbeg f)).toArray) ?_; refine actL (w':=w4.alloc (.cells (pcs12 (sbeg f)).toArray 60)) (.pointer (some ⟨w4.heap.size,0,none⟩)) rfl (by kernel_rfl) ?_
 simp only [aP,lI,l0,lS]
 have hW_B5:w.heap.size≤w4.heap.size:=OF.size
 replace OF:=OF.below ((Below.refl w4.heap.size w4).alloc (xnR _) (.cells (pcs12 (sbeg f)).toArray 60)); replace M:=M.box (pcs12 (sbeg f)).toArray 60 w4.heap.size rfl; generalize w4.alloc (.cells (pcs12 (sbeg f)).toArray 60)=w5 at M OF ⊢; generalize w4.heap.size=B5 at M hW_B5 ⊢
 replace M:Mm w0 ((B5,pcs12 (sbeg f))::(B3,row .u8 32 f)::l) w5:=M
 refine xpL (.pointer (some ⟨B5,0,none⟩)) ?_; refine xT ?_; replace M:=M.drop2
 have hbel:Below w.heap.size w w5:=⟨M.below.os.trans hb0.os.symm,M.below.tape.trans hb0.tape.symm,M.below.output.trans hb0.output.symm,OF.size,fun b hb=>OF.blk b hb (fun h=>by cases h)⟩
 have HS:=show Hid _ from (And.intro hW_B5 (And.intro M hbel)); clear M OF hbel hW_B5; go_wp2; go_ret
 exact ⟨_,rfl,HS.out⟩
end Go.Proofs.YtklnibmfpcmeeaaGreatDoor
