/- Texts of Bh Bz Zr Gw Gx Jp El, joined. -/
import Derived.Test.YtknodedhcdpbiaaGreatDoorP8GuardNonces
import Derived.Lib.AppendZerosOnto
import Derived.Deep.DeepAppendWide
set_option maxRecDepth 20000
set_option maxHeartbeats 64000000
namespace Go.Proofs.YtknodedhcdpbiaaGreatDoor
open Go.RowKit
theorem bfinish_any (h0:Nat→Int) (hh:In V 8 h0) (n:Nat) (f:Nat→Int) (c:Nat) (sp:Option Addr) (len cap:Nat) (hn:n≤64*c+len) (hn':64*c+len≤n) (hc:c=0∨0<len) (hlen:n≤281474976710656) (hcap:len≤cap) (z:Nat→Int) (hz:In 256 len z) (hf:∀ j,f (64*c+j)=padz len z j) (w:World) (hg:BGlob w) (hs:Src w sp len z) :
 Calls Tryz.prog 112 #[(.agg (row .u32 8 (tH h0 n f c)).toArray),.int .u64 ((64*c:Nat):Int),.slice sp len cap] w fun e w'=>e=.returned (.agg (row .u32 8 (tH h0 n f (nbt n))).toArray)∧Below w.heap.size w w':=by
 have K:=Kr.init w; replace K:=K.box .u32 8 (tH h0 n f c) 171 (w.heap.size) rfl; replace K:=K.make 8 zu32_8 171 (w.heap.size+1) (by simp) (bst_zero _ _ _ (by simp)).there
 go_enter Tryz.func112,Tryz.ntmps112
 go_upto_region 1 with fail; generalize ((w.alloc (.cells (row .u32 8 (tH h0 n f c)).toArray 171)).alloc (.cells zu32_8 171))=w0 at K ⊢
 go_loopw [1,2] (fun d b w'=>∃ (i L:Nat) (sq:Option Addr) (cq:Nat),64*i+L=len∧(c+i=0∨0<L)∧L≤cq∧d=.int .u64 ((64*(c+i):Nat):Int)∧b=.slice sq L cq∧Src w sq L (fun j=>z (64*i+j))∧Kr w (w.heap.size+1+1) [(w.heap.size,.u32,8,tH h0 n f (c+i))] [(w.heap.size+1,8)] w') (fun _ b _=>slen b)
 case atStart=>exact ⟨0,len,sp,cap,by omega,by omega,hcap,rfl,rfl,by simpa using hs,K⟩
 case round =>
  clear K hs
  obtain ⟨i,L,sq,cq,hL,hp,hLc,rfl,rfl,hs,K⟩:=hrel
  by_cases hlt:64<L
  · have g1:(64:Int)<(L:Int):=by omega
    obtain ⟨sh,hh1,hh2⟩:=cut_hi (P:=Tryz.prog) (t:=29) (by kernel_rfl) (fun _=>by kernel_rfl) sq L cq 64 (by omega) hLc
    obtain ⟨sl,hl1,hl2⟩:=cut_lo (P:=Tryz.prog) (t:=29) (by kernel_rfl) (fun _=>by kernel_rfl) sq L cq 64 (by omega) hLc
    have HP:=show Hid _ from (show bpr (tH h0 n f (c+i)) (padz 64 (fun j=>z (64*i+j))) ((64*(c+i)+64:Nat):Int) false=tH h0 n f (c+i+1) from by
     have e1:min (64*(c+i)+64) n=64*(c+i)+64:=by omega
     have e2:decide (c+i+1=nbt n)=false:=decide_eq_false (by unfold nbt; rw [if_neg (by omega)]; omega)
     conv=>rhs; unfold tH; rw [e1,e2]
     refine bpr_congr _ _ _ _ _ (fun j hj=>?_)
     have e3:=hf (64*i+j)
     rw [show 64*c+(64*i+j)=64*(c+i)+j by omega] at e3
     rw [e3]
     unfold padz
     rw [if_pos hj,if_pos (by omega)])
    go_upto_region 2 with fail; refine wp_region_list ?_; refine xpL (.int .u64 ((64*(c+i):Nat):Int)) ?_; refine xqL (.int .u64 ((64*(c+i)+64:Nat):Int)) (fun w=>addI .u64 _ _ _ _ _ _ _ rfl rfl rfl (by rw [IntKind.wrap_u64]; omega) w) ?_; refine xpL (.int .u64 ((64*(c+i)+64:Nat):Int)) ?_; show Exit.then _ _ _ _ _; go_upto_region 3 with fail
    refine wp_region_C (S:=fun w'=>Kr w (w.heap.size+1+1) [(w.heap.size,.u32,8,tH h0 n f (c+i))] [(w.heap.size+1,8)] w') 6 (by kernel_rfl) K.drew ?_; clear K; intro K
    refine rowC (i:=0) (some 12) rfl .u32 8 (tH h0 n f (c+i)) (w.heap.size) 0 171 _ _ rfl rfl (by kernel_rfl) rfl rfl rfl (by kernel_rfl) (by kernel_rfl) (by kernel_rfl) (by kernel_rfl) (fun _ _ _ h=>h) Tryz.underlying171 rfl (bst_info _) K (fun _ h=>(h.get _ _ _ _ mS).range) ?_; simp only [aP,lI,l0,lS]; refine xpC 1 13 (.slice sq L cq) K ?_
    refine xqC 2 14 rfl (.slice sh 64 cq) (fun w=>cutHi _ _ _ _ _ _ rfl rfl rfl (hh1 w)) K ?_; refine xpC 4 16 (.int .u64 ((64*(c+i)+64:Nat):Int)) K ?_; refine callMC (i:=3) (some 15) rfl (by kernel_rfl) rfl rfl (fun _=>by kernel_rfl) (bload_any sh 64 cq (xnR _) (fun j=>z (64*i+j)) (fun j hj=>hz _ (by omega)) _ ((hh2 _ _ hs).below K.below (xnR _))) ?_; rintro e w2 ⟨rfl,l⟩
    replace K:=K.call l; clear l
    refine ⟨_,rfl,K,?_⟩
    simp only [aP,lI,l0,lS]; refine callMC (i:=5) (some 17) rfl (by kernel_rfl) rfl rfl (fun _=>by kernel_rfl) (bpress_any (tH h0 n f (c+i)) (tH_in h0 n f hh _) (padz 64 (fun j=>z (64*i+j))) ((64*(c+i)+64:Nat):Int) false _ (hg.below K.below hg.size)) ?_; rintro e w3 ⟨rfl,l⟩; replace K:=K.call l; clear l
    refine ⟨_,rfl,K,?_⟩
    simp only [aP,lI,l0,lS]
    rw [HP.out]
    refine storesC (S2:=fun _=>True) none rfl .u32 8 (tH h0 n f (c+i+1)) (w.heap.size) 171 _ _ (by kernel_rfl) rfl rfl rfl rfl rfl (bst_there (K.get _ _ _ _ mS)) (bst_info' _) (by kernel_rfl) ?_; simp only [Act.put]
    refine wpAnyH_done (by kernel_rfl) ?_ _
    replace K:=K.set [] (w.heap.size) .u32 8 (tH h0 n f (c+i)) (tH h0 n f (c+i+1)) mS (fun _ hp=>by cases hp) (fun _ hp=>by cases hp) (xnR _); generalize w3.setCells (w.heap.size) 0 (row .u32 8 (tH h0 n f (c+i+1)))=w4 at K ⊢; clear HP hh1 hh2; go_upto_region 4 with fail; refine wp_region_list ?_; refine xpL (.slice sq L cq) ?_
    refine xqL (.slice sl (L-64) (cq-64)) (fun w=>cutOp _ _ _ _ _ _ rfl rfl rfl (hl1 w)) ?_; refine xpL (.slice sl (L-64) (cq-64)) ?_
    have HS:=show Hid _ from (And.intro (show Src w sl (L-64) (fun j=>z (64*(i+1)+j)) from (hl2 _ _ hs).congr (fun j hj=>by show z (64*i+(64+j))=_; congr 1; omega)) (show Kr w (w.heap.size+1+1) [(w.heap.size,.u32,8,tH h0 n f (c+(i+1)))] [(w.heap.size+1,8)] w4 from K)); clear K hs hl1 hl2
    show Exit.inBlock _ _ _ _ _
    go_wp2
    go_roundw
    case rel=>first | exact ⟨i+1,L-64,sl,cq-64,by omega,by omega,by omega,by congr 1,rfl,HS.out⟩ | ((repeat apply Exists.intro); refine ⟨⟨i+1,L-64,sl,cq-64,by omega,by omega,by omega,by congr 1,rfl,HS.out⟩,rfl⟩)
    case measure=>simp [slen]; omega
  · have g1:(L:Int)≤64:=by omega
    have HP:=show Hid _ from (show bpr (tH h0 n f (c+i)) (padz L (fun j=>z (64*i+j))) ((64*(c+i)+L:Nat):Int) true=tH h0 n f (nbt n) from by
     have e0:nbt n=c+i+1:=by
      unfold nbt
      split
      · omega
      · omega
     have e1:min (64*(c+i)+64) n=64*(c+i)+L:=by omega
     have e2:decide (c+i+1=c+i+1)=true:=decide_eq_true rfl
     rw [e0]
     conv=>rhs; unfold tH; rw [e1,e0,e2]
     refine bpr_congr _ _ _ _ _ (fun j hj=>?_)
     have e3:=hf (64*i+j)
     rw [show 64*c+(64*i+j)=64*(c+i)+j by omega] at e3
     rw [e3]
     unfold padz
     by_cases e:j<L
     · rw [if_pos e,if_pos (by omega)]
     · rw [if_neg e,if_neg (by omega)])
    go_upto_region 5 with fail; refine wp_region_C (S:=fun w'=>Kr w (w.heap.size+1+1) [(w.heap.size,.u32,8,tH h0 n f (c+i))] [(w.heap.size+1,8)] w') 9 (by kernel_rfl) K.drew ?_; clear K; intro K
    refine rowC (i:=0) (some 20) rfl .u32 8 (tH h0 n f (c+i)) (w.heap.size) 0 171 _ _ rfl rfl (by kernel_rfl) rfl rfl rfl (by kernel_rfl) (by kernel_rfl) (by kernel_rfl) (by kernel_rfl) (fun _ _ _ h=>h) Tryz.underlying171 rfl (bst_info _) K (fun _ h=>(h.get _ _ _ _ mS).range) ?_; simp only [aP,lI,l0,lS]; refine xpC 1 21 (.slice sq L cq) K ?_
    refine xpC 3 23 (.int .u64 ((64*(c+i):Nat):Int)) K ?_; refine xpC 4 24 (.slice sq L cq) K ?_; refine xqC 5 25 rfl (.int .i64 (L:Int)) (fun w=>lenS _ 29 5 sq L cq rfl Tryz.underlying29 rfl w) K ?_; refine xqC 6 26 rfl (.int .u64 (L:Int)) (fun w=>convI .i64 .u64 _ _ _ _ _ rfl (by kernel_rfl) Tryz.underlying107 (by kernel_rfl) rfl (by rw [IntKind.wrap_u64]; omega) w) K ?_
    refine xqC 7 27 rfl (.int .u64 ((64*(c+i)+L:Nat):Int)) (fun w=>addI .u64 _ _ _ _ _ _ _ rfl rfl rfl (by rw [IntKind.wrap_u64]; omega) w) K ?_; refine callMC (i:=2) (some 22) rfl (by kernel_rfl) rfl rfl (fun _=>by kernel_rfl) (bload_any sq L cq (by omega) (fun j=>z (64*i+j)) (fun j hj=>hz _ (by omega)) _ (hs.below K.below (xnR _))) ?_; rintro e w2 ⟨rfl,l⟩
    replace K:=K.call l; clear l
    refine ⟨_,rfl,K,?_⟩
    simp only [aP,lI,l0,lS]; refine callMC (i:=8) (some 28) rfl (by kernel_rfl) rfl rfl (fun _=>by kernel_rfl) (bpress_any (tH h0 n f (c+i)) (tH_in h0 n f hh _) (padz L (fun j=>z (64*i+j))) ((64*(c+i)+L:Nat):Int) true _ (hg.below K.below hg.size)) ?_; rintro e w3 ⟨rfl,l⟩; replace K:=K.call l; clear l
    refine ⟨_,rfl,K,?_⟩
    simp only [aP,lI,l0,lS]
    rw [HP.out]
    have hz':=(K.room _ mS).1
    refine storesC (S2:=fun _=>True) none rfl .u32 8 (tH h0 n f (nbt n)) (w.heap.size+1) 171 _ _ (by kernel_rfl) rfl rfl rfl rfl rfl (room_of hz') (bst_info' _) (by kernel_rfl) ?_; simp only [Act.put]
    refine wpAnyH_done (by kernel_rfl) ?_ _
    have hB:=(K.fill _ _ mS (row .u32 8 (tH h0 n f (nbt n)))).below; clear K HP hs hp; generalize hGe:tH h0 n f (nbt n)=G at *; go_wp2
    exact bodyPost_ret (v:=(.agg (row .u32 8 (G)).toArray)) (results_row Tryz.results112 rfl (Has.all hz' .u32 G).range Tryz.underlying171 rfl (bst_info G)) rfl ⟨by first | rfl | rw [hGe] | (rw [← hGe]; done) | (rw [← hGe,Nat.zero_add]; done) | (rw [← hGe,Nat.add_zero]; done),hB⟩
theorem brun_any (h0:Nat→Int) (hh:In V 8 h0) (fp:Option Addr) (fl fc:Nat) (hfl:fl=0∨fl=64) (hfc:fl≤fc) (y:Nat→Int) (hy:In 256 fl y) (sp:Option Addr) (len cap:Nat) (hlen:len≤140737488355072) (hcap:len≤cap) (z:Nat→Int) (hz:In 256 len z) (w:World) (hg:BGlob w) (hf:Src w fp fl y) (hs:Src w sp len z) :
 Calls Tryz.prog 108 #[(.agg (row .u32 8 (h0)).toArray),.slice fp fl fc,.slice sp len cap] w fun e w'=>e=.returned (.agg (row .u32 8 (tH h0 (fl+len) (tx2 fl y len z) (nbt (fl+len)))).toArray)∧Below w.heap.size w w':=by
 have K:=Kr.init w; replace K:=K.box .u32 8 h0 171 (w.heap.size) rfl; replace K:=K.make 8 zu32_8 171 (w.heap.size+1) (by simp) (bst_zero _ _ _ (by simp)).there
 go_enter Tryz.func108,Tryz.ntmps108
 go_upto_region 1 with fail; generalize ((w.alloc (.cells (row .u32 8 h0).toArray 171)).alloc (.cells zu32_8 171))=w0 at K ⊢
 rcases hfl with rfl | rfl
 · go_upto_region 2 with fail
   refine wp_region_list ?_; refine rowKL .u32 8 (h0) (w.heap.size) 0 171 _ _ rfl rfl rfl Tryz.underlying171 rfl (bst_info _) ((K.get _ _ _ _ mS).range) ?_; simp only [aP,lI,l0,lS]; refine xpL (.slice sp len cap) ?_
   refine xcL (bfinish_any h0 hh (0+len) (tx2 0 y len z) 0 sp len cap (by omega) (by omega) (.inl rfl) (by omega) hcap z hz (fun j=>by unfold tx2; rw [if_neg (xnZ _),Nat.sub_zero,Nat.mul_zero,Nat.zero_add]) _ (hg.below K.below hg.size) (hs.below K.below (xnR _))) ?_
   rintro e w1 ⟨rfl,l⟩; replace K:=K.call l; clear l; refine xeL ?_
   have hz':=(K.room _ mS).1
   refine storesL .u32 8 (tH h0 (0+len) (tx2 0 y len z) (nbt (0+len))) (w.heap.size+1) 171 _ _ rfl rfl rfl rfl (room_of hz') (bst_info' _) ?_; simp only [Act.put]; have hB:=(K.fill _ _ mS (row .u32 8 (tH h0 (0+len) (tx2 0 y len z) (nbt (0+len))))).below; clear K; generalize hGe:(tH h0 (0+len) (tx2 0 y len z) (nbt (0+len)))=G at *; show Exit.then _ _ _ _ _; go_wp2
   exact bodyPost_ret (v:=(.agg (row .u32 8 (G)).toArray)) (results_row Tryz.results108 rfl (Has.all hz' .u32 G).range Tryz.underlying171 rfl (bst_info G)) rfl ⟨by first | rfl | rw [hGe] | (rw [← hGe]; done) | (rw [← hGe,Nat.zero_add]; done) | (rw [← hGe,Nat.add_zero]; done),hB⟩
 · by_cases hl0:len=0
   · subst hl0
     go_upto_region 4 with fail; refine wp_region_list ?_; refine rowKL .u32 8 (h0) (w.heap.size) 0 171 _ _ rfl rfl rfl Tryz.underlying171 rfl (bst_info _) ((K.get _ _ _ _ mS).range) ?_; simp only [aP,lI,l0,lS]; refine xpL (.slice fp 64 fc) ?_
     refine xcL (bfinish_any h0 hh (64+0) (tx2 64 y 0 z) 0 fp 64 fc (by omega) (by omega) (.inl rfl) (by omega) hfc y hy (tx2_none y z) _ (hg.below K.below hg.size) (hf.below K.below (xnR _))) ?_; rintro e w1 ⟨rfl,l⟩; replace K:=K.call l; clear l; refine xeL ?_
     have hz':=(K.room _ mS).1
     refine storesL .u32 8 (tH h0 (64+0) (tx2 64 y 0 z) (nbt (64+0))) (w.heap.size+1) 171 _ _ rfl rfl rfl rfl (room_of hz') (bst_info' _) ?_; simp only [Act.put]; have hB:=(K.fill _ _ mS (row .u32 8 (tH h0 (64+0) (tx2 64 y 0 z) (nbt (64+0))))).below; clear K; generalize hGe:(tH h0 (64+0) (tx2 64 y 0 z) (nbt (64+0)))=G at *; show Exit.then _ _ _ _ _; go_wp2
     exact bodyPost_ret (v:=(.agg (row .u32 8 (G)).toArray)) (results_row Tryz.results108 rfl (Has.all hz' .u32 G).range Tryz.underlying171 rfl (bst_info G)) rfl ⟨by first | rfl | rw [hGe] | (rw [← hGe]; done) | (rw [← hGe,Nat.zero_add]; done) | (rw [← hGe,Nat.add_zero]; done),hB⟩
   · have g1:(len:Int)≠0:=by omega
     have HP:=show Hid _ from (show bpr h0 (padz 64 y) ((64:Nat):Int) false=tH h0 (64+len) (tx2 64 y len z) 1 from by
      have e1:min (64*0+64) (64+len)=64:=by omega
      have e2:decide (0+1=nbt (64+len))=false:=decide_eq_false (by unfold nbt; rw [if_neg (by omega)]; omega)
      conv=>rhs; unfold tH; rw [e1,e2]
      refine bpr_congr _ _ _ _ _ (fun j hj=>?_)
      unfold padz tx2
      rw [if_pos hj,if_pos (show 64*0+j<64 by omega),Nat.mul_zero,Nat.zero_add])
     go_upto_region 5 with fail; refine wp_region_C (S:=fun w'=>Kr w (w.heap.size+1+1) [(w.heap.size,.u32,8,h0)] [(w.heap.size+1,8)] w') 6 (by kernel_rfl) K.drew ?_; clear K; intro K
     refine rowC (i:=0) (some 19) rfl .u32 8 (h0) (w.heap.size) 0 171 _ _ rfl rfl (by kernel_rfl) rfl rfl rfl (by kernel_rfl) (by kernel_rfl) (by kernel_rfl) (by kernel_rfl) (fun _ _ _ h=>h) Tryz.underlying171 rfl (bst_info _) K (fun _ h=>(h.get _ _ _ _ mS).range) ?_; simp only [aP,lI,l0,lS]; refine xpC 1 20 (.slice fp 64 fc) K ?_; refine xpC 4 23 (.slice sp len cap) K ?_
     refine callMC (i:=2) (some 21) rfl (by kernel_rfl) rfl rfl (fun _=>by kernel_rfl) (bload_any fp 64 fc (xnR _) y hy _ (hf.below K.below (xnR _))) ?_; rintro e w2 ⟨rfl,l⟩; replace K:=K.call l; clear l
     refine ⟨_,rfl,K,?_⟩
     simp only [aP,lI,l0,lS]; refine callMC (i:=3) (some 22) rfl (by kernel_rfl) rfl rfl (fun _=>by kernel_rfl) (bpress_any h0 hh (padz 64 y) ((64:Nat):Int) false _ (hg.below K.below hg.size)) ?_; rintro e w3 ⟨rfl,l⟩; replace K:=K.call l; clear l
     refine ⟨_,rfl,K,?_⟩
     simp only [aP,lI,l0,lS]
     rw [HP.out]
     refine callMC (i:=5) (some 24) rfl (by kernel_rfl) rfl rfl (fun _=>by kernel_rfl) (bfinish_any h0 hh (64+len) (tx2 64 y len z) 1 sp len cap (by omega) (by omega) (.inr (by omega)) (by omega) hcap z hz (fun j=>by unfold tx2; rw [if_neg (show ¬ 64*1+j<64 by omega),show 64*1+j-64=j by omega]) _ (hg.below K.below hg.size) (hs.below K.below (xnR _))) ?_
     rintro e w4 ⟨rfl,l⟩; replace K:=K.call l; clear l
     refine ⟨_,rfl,K,?_⟩
     simp only [aP,lI,l0,lS]
     have hz':=(K.room _ mS).1
     refine storesC (S2:=fun _=>True) none rfl .u32 8 (tH h0 (64+len) (tx2 64 y len z) (nbt (64+len))) (w.heap.size+1) 171 _ _ (by kernel_rfl) rfl rfl rfl rfl rfl (room_of hz') (bst_info' _) (by kernel_rfl) ?_; simp only [Act.put]
     refine wpAnyH_done (by kernel_rfl) ?_ _
     have hB:=(K.fill _ _ mS (row .u32 8 (tH h0 (64+len) (tx2 64 y len z) (nbt (64+len))))).below; clear K HP hs; generalize hGe:(tH h0 (64+len) (tx2 64 y len z) (nbt (64+len)))=G at *; go_wp2
     exact bodyPost_ret (v:=(.agg (row .u32 8 (G)).toArray)) (results_row Tryz.results108 rfl (Has.all hz' .u32 G).range Tryz.underlying171 rfl (bst_info G)) rfl ⟨by first | rfl | rw [hGe] | (rw [← hGe]; done) | (rw [← hGe,Nat.zero_add]; done) | (rw [← hGe,Nat.add_zero]; done),hB⟩
theorem bbehind_any (fp:Option Addr) (fl fc:Nat) (hfl:fl=0∨fl=64) (hfc:fl≤fc) (y:Nat→Int) (hy:In 256 fl y) (sp:Option Addr) (len cap:Nat) (hlen:len≤140737488355072) (hcap:len≤cap) (z:Nat→Int) (hz:In 256 len z) (w:World) (hg:BGlob w) (hf:Src w fp fl y) (hs:Src w sp len z) :
 Calls Tryz.prog 99 #[.slice fp fl fc,.slice sp len cap] w fun e w'=>e=.returned (.agg (row .u8 32 (bhash (fl+len) (app y fl z))).toArray)∧Below w.heap.size w w':=by
 have HE:=show Hid _ from bhash_tx2 fl y len z; have K:=Kr.init w; replace K:=K.make 32 zu8_32 23 (w.heap.size) rfl (key_zero _ _ _ rfl).there
 go_enter Tryz.func99,Tryz.ntmps99
 go_upto_region 1 with fail; generalize (w.alloc (.cells zu8_32 23))=w0 at K ⊢; refine wp_region_list ?_; refine xcL (bbegin_any 0 32 (by decide) (by decide) _ (hg.below K.below hg.size)) ?_; rintro e w1 ⟨rfl,l⟩; replace K:=K.call l; clear l; refine xeL ?_; refine xpL (.slice fp fl fc) ?_; refine xpL (.slice sp len cap) ?_
 refine xcL (brun_any (bh0 0 32) (bh0_in 0 32 (by decide) (by decide)) fp fl fc hfl hfc y hy sp len cap hlen hcap z hz _ (hg.below K.below hg.size) (hf.below K.below (xnR _)) (hs.below K.below (xnR _))) ?_; rintro e w2 ⟨rfl,l⟩; replace K:=K.call l; clear l; refine xeL ?_; refine xcL (bbytes_any (tH (bh0 0 32) (fl+len) (tx2 fl y len z) (nbt (fl+len))) _) ?_; rintro e w3 ⟨rfl,l⟩
 replace K:=K.call l; clear l; refine xeL ?_
 rw [← HE.out]
 have hz':=(K.room _ mS).1
 refine storesL .u8 32 (bhash (fl+len) (app y fl z)) (w.heap.size) 23 _ _ rfl rfl rfl rfl (room_of hz') (key_info' _) ?_; simp only [Act.put]; have hB:=(K.fill _ _ mS (row .u8 32 (bhash (fl+len) (app y fl z)))).below; clear K HE; generalize hGe:bhash (fl+len) (app y fl z)=G at *; show Exit.then _ _ _ _ _; go_wp2
 exact bodyPost_ret (v:=(.agg (row .u8 32 (G)).toArray)) (results_row Tryz.results99 rfl (Has.all hz' .u8 G).range Tryz.underlying23 rfl (key_info G)) rfl ⟨by first | rfl | rw [hGe] | (rw [← hGe]; done) | (rw [← hGe,Nat.zero_add]; done) | (rw [← hGe,Nat.add_zero]; done),hB⟩
theorem bpad_any (kp:Option Addr) (kl kc:Nat) (hkl:kl≤64) (key:Nat→Int) (c:Int) (w:World) (hk:Src w kp kl key) :
 Calls Tryz.prog 100 #[.slice kp kl kc,.int .u8 c] w fun e w'=>∃ g,e=.returned (.slice (some ⟨g,0,none⟩) 64 64)∧Has w' g .u8 64 (bxx c (padz kl key))∧(w.heap.size≤g∧g<w'.heap.size)∧Below w.heap.size w w':=by
 go_enter Tryz.func100,Tryz.ntmps100
 go_upto_region 1 with fail; have K:=(Kr.init w).box .u8 64 (fun _=>0) 5 (w.heap.size) rfl; refine wp_region_list ?_; refine actL (w':=w.alloc (.cells (row .u8 64 (fun _=>0)).toArray 5)) (.slice (some ⟨w.heap.size,0,none⟩) 64 64) rfl (makeOp 29 _ _ _ _ _ rfl rfl rfl (made8 64 (by decide) w)) ?_; simp only [aP,lI,l0,lS]; refine xpL (.slice (some ⟨w.heap.size,0,none⟩) 64 64) ?_
 show Exit.then _ _ _ _ _; go_upto_region 2 with fail; generalize w.alloc (.cells (row .u8 64 (fun _=>0)).toArray 5)=w0 at K ⊢; have HR:=K.get _ _ _ _ mS; replace K:=K.loose [] (w.heap.size) .u8 64 (fun _=>0) mS (fun _ hp=>by cases hp) (fun _ hp=>by cases hp) (xnR _); refine wp_region_list ?_; refine xpL (.slice (some ⟨w.heap.size,0,none⟩) 64 64) ?_; refine xpL (.slice kp kl kc) ?_
 refine xaL (.int .i64 (kl:Int)) (run_copy_src _ _ 29 29 5 rfl Tryz.underlying29 (by kernel_rfl) (w.heap.size) 64 64 kl kc 64 kp key rfl rfl hkl hkl HR.there (hk.below K.below (xnR _))) ?_; replace K:=K.fill (w.heap.size) 64 mS (row .u8 kl key)
 replace HR:=(HR.part 0 kl (by omega) key).congr (g:=padz kl key) (fun j hj=>by
  unfold over padz
  by_cases e:j<kl
  · rw [if_pos (by omega),if_pos e,Nat.sub_zero]
  · rw [if_neg (by omega),if_neg e])
 replace K:=K.settle [] (w.heap.size) .u8 64 (padz kl key) mS (fun _ hq=>by cases hq) (fun _ hq=>by cases hq) HR; generalize w0.setCells (w.heap.size) 0 (row .u8 kl key)=w1 at K ⊢; clear HR w0 hk hkl; show Exit.then _ _ _ _ _; generalize hpe:padz kl key=p at K; go_wp2
 go_loopw [13] (fun i w'=>∃ (n:Nat) (f:Nat→Int),n≤64∧i=.int .i64 n∧Kr w (w.heap.size+1) [(w.heap.size,.u8,64,f)] [] w'∧(∀ j,j<n→f j=bxx c p j)∧∀ j,n≤j→f j=p j) (fun i _=>64-(intOf i).toNat)
 case atStart=>exact ⟨0,p,by omega,rfl,K,fun j hj=>by omega,fun _ _=>rfl⟩
 case round =>
  clear K
  obtain ⟨n,f,hn,rfl,K,hd,hk⟩:=hrel
  have g1:(0:Int)≤(n:Int):=by omega
  by_cases hlt:n<64
  · have g2:(n:Int)<64:=by omega
    have HX:bits .xor .u8 (f n) c=bxx c p n:=by rw [hk n (xnR _)]; rfl
    go_upto_region 6 with fail; refine wp_region_list ?_; refine xpL (.slice (some ⟨w.heap.size,0,none⟩) 64 64) ?_; refine xpL (.int .i64 (n:Int)) ?_; refine xqL (.pointer (some ⟨w.heap.size,n,none⟩)) (fun w'=>idxO (w.heap.size) 64 64 n hlt w' _ _ rfl rfl rfl) ?_; refine cellL .u8 (.int .u8 (f n)) (w.heap.size) n 5 _ rfl rfl rfl Tryz.underlying5 ((K.get _ _ _ _ mS).cell n hlt) ?_
    simp only [aP,lI,l0,lS]; refine xpL (.int .u8 c) ?_; refine xqL (.int .u8 (bxx c p n)) (fun w=>xorI .u8 _ _ _ _ _ _ _ rfl rfl rfl HX w) ?_; refine xqL (.pointer (some ⟨w.heap.size,n,none⟩)) (fun w'=>idxO (w.heap.size) 64 64 n hlt w' _ _ rfl rfl rfl) ?_
    refine storeL .u8 (bxx c p n) (w.heap.size) n 5 _ _ rfl rfl rfl rfl (by rw [(K.get _ _ _ _ mS).cell n hlt]; rfl) ((K.get _ _ _ _ mS).free n hlt) (by kernel_rfl) ?_
    simp only [Act.put]; replace K:=K.setCell [] (w.heap.size) .u8 64 f n hlt (bxx c p n) mS (fun _ hp=>by cases hp) (fun _ hp=>by cases hp) (xnR _)
    have HS:=show Hid _ from (And.intro K (And.intro (show ∀ j,j<n+1→upd f n (bxx c p n) j=bxx c p j from fun j hj=>by
     by_cases e:j=n
     · subst e; rw [upd_same]
     · rw [upd_other _ _ _ _ e]; exact hd j (by omega)) (show ∀ j,n+1≤j→upd f n (bxx c p n) j=p j from fun j hj=>by rw [upd_other _ _ _ _ (show j≠n by omega)]; exact hk j (by omega))))
    clear K hd hk HX; generalize wr.setCell ⟨w.heap.size,n,none⟩ (.int .u8 (bxx c p n))=w5 at HS ⊢; generalize upd f n (bxx c p n)=f' at HS
    show Exit.inBlock _ _ _ _ _
    go_wp2
    go_roundw
    case rel=>first | exact ⟨n+1,f',by omega,by go_num,HS.out⟩ | ((repeat apply Exists.intro); refine ⟨⟨n+1,f',by omega,by go_num,HS.out⟩,rfl⟩)
    case measure=>simp [intOf]; omega
  · obtain rfl:n=64:=by omega
    have HR:=(K.get _ _ _ _ mS).congr (g:=bxx c p) (fun j hj=>hd j hj); have hB:=K.below; have hz:=K.size; clear K hd hk hlt hn g1; go_wp2; go_ret
    exact ⟨w.heap.size,rfl,by rw [hpe]; exact HR,⟨xnR _,by omega⟩,hB⟩
theorem bcutAll_key (b:Nat) (w:World):(Instr.sliceAt 23 (.pointer (some ⟨b,0,none⟩)) none none none).run Tryz.prog w=.ok (.slice (some ⟨b,0,none⟩) 32 32) w:=by kernel_rfl
theorem app_none (y z:Nat→Int):app y 0 z=z:=by
 funext j
 unfold app
 rw [if_neg (xnZ j),Nat.sub_zero]
theorem bhash_any:BHashOK:=by
 intro sp len cap hlen hcap _ z hz w hg hs; have K:=Kr.init w; replace K:=K.make 32 zu8_32 23 (w.heap.size) rfl (key_zero _ _ _ rfl).there
 go_enter Tryz.func98,Tryz.ntmps98
 go_upto_region 1 with fail; generalize (w.alloc (.cells zu8_32 23))=w0 at K ⊢; refine wp_region_list ?_; refine xpL (.slice sp len cap) ?_; refine xcL (bbehind_any none 0 0 (.inl rfl) (xnR _) (fun _=>0) (fun j hj=>absurd hj (xnZ j)) sp len cap hlen hcap z hz _ (hg.below K.below hg.size) (fun j hj=>absurd hj (xnZ j)) (hs.below K.below (xnR _))) ?_; rintro e w1 ⟨rfl,l⟩
 replace K:=K.call l; clear l; refine xeL ?_
 rw [app_none,Nat.zero_add]
 have hz':=(K.room _ mS).1
 refine storesL .u8 32 (bhash len z) (w.heap.size) 23 _ _ rfl rfl rfl rfl (room_of hz') (key_info' _) ?_; simp only [Act.put]; have hB:=(K.fill _ _ mS (row .u8 32 (bhash len z))).below; clear K; generalize hGe:bhash len z=G at *; show Exit.then _ _ _ _ _; go_wp2
 exact bodyPost_ret (v:=(.agg (row .u8 32 (G)).toArray)) (results_row Tryz.results98 rfl (Has.all hz' .u8 G).range Tryz.underlying23 rfl (key_info G)) rfl ⟨by first | rfl | rw [hGe] | (rw [← hGe]; done),hB⟩
theorem bkk_short (kl:Nat) (key:Nat→Int) (h:kl≤64):bkk kl key=padz kl key:=by
 funext j
 unfold bkk padz
 rw [if_pos h]
theorem bkk_long (kl:Nat) (key:Nat→Int) (h:¬ kl≤64):bkk kl key=padz 32 (bhash kl key):=by
 funext j
 unfold bkk padz
 rw [if_neg h]
theorem bmac_any:BMacOK:=by
 intro kp kl kc hkl hkc _ key hkk sp len cap hlen hcap _ z hz w hg hk hs; have K:=Kr.init w; replace K:=K.make 32 zu8_32 23 (w.heap.size) rfl (key_zero _ _ _ rfl).there
 go_enter Tryz.func83,Tryz.ntmps83
 go_upto_region 1 with fail; generalize (w.alloc (.cells zu8_32 23))=w0 at K ⊢
 by_cases hl:kl≤64
 · have g1:(kl:Int)≤64:=by omega
   have HE:=show Hid _ from (show (bhash (64+32) (app (bxx 92 (padz (kl) key)) 64 (bhash (64+len) (app (bxx 54 (padz (kl) key)) 64 z))))=bmac kl key len z from by unfold bmac; rw [bkk_short kl key hl]); have hp54:=bxx_in 54 (by decide) (padz (kl) key) 64 (padz_in (kl) key hkk 64); have hp92:=bxx_in 92 (by decide) (padz (kl) key) 64 (padz_in (kl) key hkk 64); go_upto_region 4 with fail
   refine wp_region_list ?_; refine xpL (.slice kp kl kc) ?_; refine xcL (bpad_any kp (kl) kc hl key 54 _ (hk.below K.below (xnR _))) ?_; rintro e wa ⟨g,rfl,hG,⟨_,hgl⟩,l⟩; replace K:=K.call l; clear l; refine xeL ?_; refine xpL (.slice sp len cap) ?_
   refine xcL (bbehind_any (some ⟨g,0,none⟩) 64 64 (.inr rfl) (xnR _) (bxx 54 (padz (kl) key)) hp54 sp len cap (by omega) hcap z hz _ (hg.below K.below hg.size) hG.src0 (hs.below K.below (xnR _))) ?_; rintro e wb ⟨rfl,l⟩; replace K:=K.call l; clear l; refine xeL ?_; clear hG hgl; refine allocL zu8_32 23 rfl (fun _=>by kernel_rfl) ?_; simp only [aP,lI,l0,lS]
   refine storesL .u8 32 ((bhash (64+len) (app (bxx 54 (padz (kl) key)) 64 z))) wb.heap.size 23 _ _ rfl rfl rfl rfl (room_of (key_zero _ _ _ rfl).there) (key_info' _) ?_; simp only [Act.put]; have zJ:=K.size; replace K:=K.fresh .u8 32 ((bhash (64+len) (app (bxx 54 (padz (kl) key)) 64 z))) zu8_32 23 (key_zero _ _ _ rfl).there
   generalize ((wb.alloc (.cells zu8_32 23)).setCells wb.heap.size 0 (row .u8 32 ((bhash (64+len) (app (bxx 54 (padz (kl) key)) 64 z)))))=wc at K ⊢; generalize wb.heap.size=J at *; show Exit.then _ _ _ _ _; go_upto_region 5 with fail
   refine wp_region_C (S:=fun w'=>Kr w (J+1) [(J,.u8,32,(bhash (64+len) (app (bxx 54 (padz (kl) key)) 64 z)))] [(w.heap.size,32)] w') 4 (by kernel_rfl) K.drew ?_; clear K; intro K; refine xpC 0 17 (.slice kp kl kc) K ?_; refine xqC 2 19 rfl (.slice (some ⟨J,0,none⟩) 32 32) (fun w'=>cutAll _ _ _ _ rfl rfl (bcutAll_key J w')) K ?_
   refine callMC (i:=1) (some 18) rfl (by kernel_rfl) rfl rfl (fun _=>by kernel_rfl) (bpad_any kp (kl) kc hl key 92 _ (hk.below K.below (xnR _))) ?_; rintro e wd ⟨g2,rfl,hG,⟨_,hgl⟩,l⟩; replace K:=K.call l; clear l
   refine ⟨_,rfl,K,?_⟩
   simp only [aP,lI,l0,lS]; refine callMC (i:=3) (some 20) rfl (by kernel_rfl) rfl rfl (fun _=>by kernel_rfl) (bbehind_any (some ⟨g2,0,none⟩) 64 64 (.inr rfl) (xnR _) (bxx 92 (padz (kl) key)) hp92 (some ⟨J,0,none⟩) 32 32 (by decide) (xnR _) (bhash (64+len) (app (bxx 54 (padz (kl) key)) 64 z)) (bhash_in _ _ 32) _ (hg.below K.below hg.size) hG.src0 (K.get _ _ _ _ mS).src0) ?_
   rintro e we ⟨rfl,l⟩; replace K:=K.call l; clear l
   refine ⟨_,rfl,K,?_⟩
   simp only [aP,lI,l0,lS]
   rw [HE.out]
   have hz':=(K.room _ mS).1
   refine storesC (S2:=fun _=>True) none rfl .u8 32 (bmac kl key len z) (w.heap.size) 23 _ _ (by kernel_rfl) rfl rfl rfl rfl rfl (room_of hz') (key_info' _) (by kernel_rfl) ?_; simp only [Act.put]
   refine wpAnyH_done (by kernel_rfl) ?_ _
   have hB:=(K.fill _ _ mS (row .u8 32 (bmac kl key len z))).below; clear K HE hG hgl; generalize hGe:bmac kl key len z=G at *; go_wp2
   exact bodyPost_ret (v:=(.agg (row .u8 32 (G)).toArray)) (results_row Tryz.results83 rfl (Has.all hz' .u8 G).range Tryz.underlying23 rfl (key_info G)) rfl ⟨by first | rfl | rw [hGe] | (rw [← hGe]; done),hB⟩
 · have g1:(64:Int)<(kl:Int):=by omega
   go_upto_region 2 with fail; refine wp_region_list ?_; refine xpL (.slice kp kl kc) ?_; refine xcL (bhash_any kp kl kc hkl hkc (fun e=>by have h0:=hk.none e; omega) key hkk _ (hg.below K.below hg.size) (hk.below K.below (xnR _))) ?_; rintro e w1 ⟨rfl,l⟩; replace K:=K.call l; clear l; refine xeL ?_; refine allocL zu8_32 23 rfl (fun _=>by kernel_rfl) ?_; simp only [aP,lI,l0,lS]
   refine storesL .u8 32 (bhash kl key) w1.heap.size 23 _ _ rfl rfl rfl rfl (room_of (key_zero _ _ _ rfl).there) (key_info' _) ?_; simp only [Act.put]; have zX:=K.size; replace K:=K.fresh .u8 32 (bhash kl key) zu8_32 23 (key_zero _ _ _ rfl).there; generalize ((w1.alloc (.cells zu8_32 23)).setCells w1.heap.size 0 (row .u8 32 (bhash kl key)))=w2 at K ⊢; generalize w1.heap.size=X at *
   show Exit.then _ _ _ _ _; go_upto_region 3 with fail; refine wp_region_list ?_; refine xqL (.slice (some ⟨X,0,none⟩) 32 32) (fun w'=>cutAll _ _ _ _ rfl rfl (bcutAll_key X w')) ?_; refine xpL (.slice (some ⟨X,0,none⟩) 32 32) ?_; show Exit.then _ _ _ _ _
   have HE:=show Hid _ from (show (bhash (64+32) (app (bxx 92 (padz (32) (bhash kl key))) 64 (bhash (64+len) (app (bxx 54 (padz (32) (bhash kl key))) 64 z))))=bmac kl key len z from by unfold bmac; rw [bkk_long kl key hl]); have hp54:=bxx_in 54 (by decide) (padz (32) (bhash kl key)) 64 (padz_in (32) (bhash kl key) (bhash_in kl key 32) 64)
   have hp92:=bxx_in 92 (by decide) (padz (32) (bhash kl key)) 64 (padz_in (32) (bhash kl key) (bhash_in kl key 32) 64); go_upto_region 4 with fail; refine wp_region_list ?_; refine xpL (.slice (some ⟨X,0,none⟩) 32 32) ?_; refine xcL (bpad_any (some ⟨X,0,none⟩) (32) 32 (by decide) (bhash kl key) 54 _ (K.get _ _ _ _ mS).src0) ?_; rintro e wa ⟨g,rfl,hG,⟨_,hgl⟩,l⟩; replace K:=K.call l
   clear l; refine xeL ?_; refine xpL (.slice sp len cap) ?_; refine xcL (bbehind_any (some ⟨g,0,none⟩) 64 64 (.inr rfl) (xnR _) (bxx 54 (padz (32) (bhash kl key))) hp54 sp len cap (by omega) hcap z hz _ (hg.below K.below hg.size) hG.src0 (hs.below K.below (xnR _))) ?_; rintro e wb ⟨rfl,l⟩; replace K:=K.call l; clear l; refine xeL ?_; clear hG hgl
   refine allocL zu8_32 23 rfl (fun _=>by kernel_rfl) ?_; simp only [aP,lI,l0,lS]; refine storesL .u8 32 ((bhash (64+len) (app (bxx 54 (padz (32) (bhash kl key))) 64 z))) wb.heap.size 23 _ _ rfl rfl rfl rfl (room_of (key_zero _ _ _ rfl).there) (key_info' _) ?_; simp only [Act.put]; have zJ:=K.size
   replace K:=K.fresh .u8 32 ((bhash (64+len) (app (bxx 54 (padz (32) (bhash kl key))) 64 z))) zu8_32 23 (key_zero _ _ _ rfl).there; generalize ((wb.alloc (.cells zu8_32 23)).setCells wb.heap.size 0 (row .u8 32 ((bhash (64+len) (app (bxx 54 (padz (32) (bhash kl key))) 64 z)))))=wc at K ⊢; generalize wb.heap.size=J at *; show Exit.then _ _ _ _ _; go_upto_region 5 with fail
   refine wp_region_C (S:=fun w'=>Kr w (J+1) [(J,.u8,32,(bhash (64+len) (app (bxx 54 (padz (32) (bhash kl key))) 64 z))),(X,.u8,32,bhash kl key)] [(w.heap.size,32)] w') 4 (by kernel_rfl) K.drew ?_; clear K; intro K; refine xpC 0 17 (.slice (some ⟨X,0,none⟩) 32 32) K ?_
   refine xqC 2 19 rfl (.slice (some ⟨J,0,none⟩) 32 32) (fun w'=>cutAll _ _ _ _ rfl rfl (bcutAll_key J w')) K ?_; refine callMC (i:=1) (some 18) rfl (by kernel_rfl) rfl rfl (fun _=>by kernel_rfl) (bpad_any (some ⟨X,0,none⟩) (32) 32 (by decide) (bhash kl key) 92 _ (K.get _ _ _ _ (mT _ mS)).src0) ?_; rintro e wd ⟨g2,rfl,hG,⟨_,hgl⟩,l⟩; replace K:=K.call l; clear l
   refine ⟨_,rfl,K,?_⟩
   simp only [aP,lI,l0,lS]
   refine callMC (i:=3) (some 20) rfl (by kernel_rfl) rfl rfl (fun _=>by kernel_rfl) (bbehind_any (some ⟨g2,0,none⟩) 64 64 (.inr rfl) (xnR _) (bxx 92 (padz (32) (bhash kl key))) hp92 (some ⟨J,0,none⟩) 32 32 (by decide) (xnR _) (bhash (64+len) (app (bxx 54 (padz (32) (bhash kl key))) 64 z)) (bhash_in _ _ 32) _ (hg.below K.below hg.size) hG.src0 (K.get _ _ _ _ mS).src0) ?_
   rintro e we ⟨rfl,l⟩; replace K:=K.call l; clear l
   refine ⟨_,rfl,K,?_⟩
   simp only [aP,lI,l0,lS]
   rw [HE.out]
   have hz':=(K.room _ mS).1
   refine storesC (S2:=fun _=>True) none rfl .u8 32 (bmac kl key len z) (w.heap.size) 23 _ _ (by kernel_rfl) rfl rfl rfl rfl rfl (room_of hz') (key_info' _) (by kernel_rfl) ?_; simp only [Act.put]
   refine wpAnyH_done (by kernel_rfl) ?_ _
   have hB:=(K.fill _ _ mS (row .u8 32 (bmac kl key len z))).below; clear K HE hG hgl; generalize hGe:bmac kl key len z=G at *; go_wp2
   exact bodyPost_ret (v:=(.agg (row .u8 32 (G)).toArray)) (results_row Tryz.results83 rfl (Has.all hz' .u8 G).range Tryz.underlying23 rfl (key_info G)) rfl ⟨by first | rfl | rw [hGe] | (rw [← hGe]; done),hB⟩
section
def vcap:Value→Nat
 | .slice _ _ c=>c
 | _=>0
section
variable {P:Program}
theorem run_append_Room {w:World} {base:Nat} {t ty e:TypeId} {k:IntKind} {bytes n:Nat} {f:Nat→Int} {v:Value} (ht:P.underlying t=some (.slice e)) (he:One P e k bytes) (h:Own w base e k n f v)
 (sp:Option Addr) (m c:Nat) (hv:Nat→Int) (hs:∀ j,j<m→∃ ad,sp=some ad∧w.cell? (ad.add j)=some (.int k (hv j))) (hz:sp=none→c=0) (hroom:n+m≤vcap v) :
 ∃ v' w',(Builtin.append_ #[t,t] ty #[v,.slice sp m c]).run P w=.ok v' w'∧Own w' base e k (n+m) (app f n hv) v'∧w.grownBy w' v.ownBlock∧vcap v'=vcap v∧v'.ownBlock=v.ownBlock:=by
 obtain ⟨i,hi,hq⟩:=Option.map_eq_some_iff.1 he.info
 simp only [Prod.mk.injEq] at hq
 obtain ⟨_,_,h3⟩:=hq
 cases sp with
 | none =>
   have hm:m=0:=by
    rcases Nat.eq_zero_or_pos m with h0 | h0
    · exact h0
    · obtain ⟨ad,e,_⟩:=hs 0 h0; cases e
   subst hm
   obtain rfl:=hz rfl
   exact ⟨v,w,run_append_owned_none (P:=P) (w:=w) base t ty e i 1 ht hi v n _ h,h.congr fun j hj=>by unfold app; rw [if_pos hj],⟨rfl,rfl,rfl,xnR _,fun _ _ _=>rfl⟩,rfl,rfl⟩
 | some ad =>
   have hnews:∀ j u,(row k m hv)[j]?=some u→w.cell? (ad.add j)=some u:=fun j u hu=>by
    obtain ⟨hj,rfl⟩:=row_get_some hu
    obtain ⟨ad',e',hc⟩:=hs j hj
    injection e' with e'
    subst e'
    exact hc
   have hml:(row k m hv).length=m*i.size:=by rw [row_length,h3,Nat.mul_one]
   have hlen:(row k n f++row k m hv).length=(n+m)*1:=by rw [List.length_append,row_length,row_length,Nat.mul_one]
   rcases h.2 with ⟨rfl,rfl⟩ | ⟨g,cap,cur,rfl,hbg,hgg,hnc,hcm,hcs,htake⟩
   · have hm:m=0:=by simp only [vcap] at hroom; omega
     subst hm
     refine ⟨.slice none 0 0,w,?_,h.congr fun j hj=>absurd hj (xnZ j),⟨rfl,rfl,rfl,xnR _,fun _ _ _=>rfl⟩,rfl,rfl⟩
     simp [Builtin.append_,run_underlying ht,sizeOf,typeInfo,hi,Builtin.lenOf,Builtin.firstCells,loadCells,loadCellsFrom]
   · have hroom':n+m≤cap:=hroom
     have hr2:=run_append_room (P:=P) w t ty e i ht hi g n cap cur hgg ad m c (row k m hv) hml hnews (row_one k m hv) hroom' (by rw [hml,hcs,h3]; omega)
     refine ⟨_,_,hr2,?_,⟨rfl,rfl,rfl,by simp,fun q _ hq=>setRow_other w g q _ (fun e=>hq (by simp [Value.ownBlock,e]))⟩,rfl,rfl⟩
     unfold Own
     rw [← row_app]
     rw [Nat.mul_one] at htake hcs
     refine ⟨hlen,.inr ⟨g,cap,_,rfl,hbg,setRow_heap w g cur _ e _ hgg,hroom',hcm,?_,?_⟩⟩
     · simp only [List.size_toArray,List.length_append,List.length_take,List.length_drop,Array.length_toList,row_length,h3,Nat.mul_one]
       omega
     · simp only [h3,Nat.mul_one,htake]
       have e2:n+m=(row k n f++row k m hv).length:=by rw [hlen,Nat.mul_one]
       rw [e2]
       exact List.take_left
theorem run_append_full {w:World} {t u ty e:TypeId} (ht:P.underlying t=some (.slice e)) (hu:P.underlying u=some (.int .i64)) (he:One P e .u8 1) (sp:Option Addr) (len:Nat) (z:Nat→Int) (hs:Src w sp len z) (m:Nat) (hm:m≤281474976710656) (hl:len+m+(len+m)/4+192≤281474976710656) :
 ∃ sp' cap' w',(Builtin.append_ #[t,u] ty #[.slice sp len len,.int .i64 (m:Int)]).run P w=.ok (.slice sp' (len+m) cap') w'∧len+m≤cap'∧Src w' sp' (len+m) (padz len z)∧Below w.heap.size w w'∧(sp'=none→cap'=0):=by
 obtain ⟨i,hi,hq⟩:=Option.map_eq_some_iff.1 he.info
 simp only [Prod.mk.injEq] at hq
 obtain ⟨h1,h2,h3⟩:=hq
 rcases Nat.eq_zero_or_pos m with h0 | h0
 · subst h0
   refine ⟨sp,len,w,?_,xnR _,hs.congr (fun j hj=>by unfold padz; rw [if_pos hj]),Below.refl _ _,fun e=>hs.none e⟩
   have hasI':∀ w,(asInt (.int .i64 0)).run P w=.ok 0 w:=fun w=>by simp [asInt,asIntOf]
   cases sp with
   | none=>simp [Builtin.append_,run_underlying ht,run_underlying hu,sizeOf,typeInfo,hi,h2,hasI',xw6]
   | some ad=>simp [Builtin.append_,run_underlying ht,run_underlying hu,sizeOf,typeInfo,hi,h2,hasI',xw6,storeCells]
 · have hold:(Builtin.firstCells i.size len (.slice sp len len)).run P w.drew=.ok (row .u8 len z).toArray w.drew:=by
    cases sp with
    | none =>
      obtain rfl:=hs.none rfl
      rfl
    | some ad =>
      rw [h3]
      exact run_firstCells_some (P:=P) w.drew 1 len ad len len (row .u8 len z) (by rw [row_length,Nat.mul_one]) (fun j u hj=>by
       obtain ⟨hjl,rfl⟩:=row_get_some hj
       obtain ⟨ad',he',hc⟩:=hs j hjl
       injection he' with he'
       subst he'
       exact hc)
   have hr:=Lib.run_append_grow_zeros (P:=P) w t u ty e i (.int .u8 0) .i64 .i64 ht hu hi h1 sp len len (row .u8 len z) hold m h0 (by rw [h3]; decide) (by omega) (by omega) (by rw [h2]; omega) (by rw [h2]; exact growslice_fits_wide (by omega) (by omega)); have hge:=grownCap_ge w (len+m) len e
   refine ⟨_,_,_,hr,hge,fun j hj=>⟨_,rfl,?_⟩,(Below.refl _ _).drew.alloc (xnR _) _,fun e=>by cases e⟩
   rw [Addr.add_mid,Nat.zero_add]
   show (w.drew.alloc _).cell? ⟨w.drew.heap.size,j,none⟩=_
   rw [World.cell?_alloc_at _ _ _ _ rfl,zeros_row]
   unfold padz
   by_cases ej:j<len
   · rw [if_pos ej]
     rw [Array.append_assoc,Array.getElem?_append_left (by rw [List.size_toArray,row_length]; exact ej)]
     simpa using row_get .u8 len z j ej
   · rw [if_neg ej]
     rw [Array.getElem?_append_left (by rw [Array.size_append,List.size_toArray,List.size_toArray,row_length,row_length]; exact hj),Array.getElem?_append_right (by rw [List.size_toArray,row_length]; omega),List.size_toArray,row_length]
     simpa using row_get .u8 m (fun _=>0) (j-len) (by omega)
end
section
variable {P:Program} {o:Oper} {a:Act}
theorem cut_full {t:TypeId} (ht:P.underlying t=some (.slice (P.elem t))) (hsz:∀ w,(sizeOf (P.elem t)).run P w=.ok 1 w) (sp:Option Addr) (len cap:Nat) (hc:len≤cap) :
 ∃ sp',(∀ w,(Instr.sliceAt t (.slice sp len cap) none (some (.int .i64 (len:Int))) (some (.int .i64 (len:Int)))).run P w=.ok (.slice sp' len len) w)∧∀ w z,Src w sp len z→Src w sp' len z:=by
 refine ⟨if len=0 then sp else sp.map (·.add (0*1)),fun w=>?_,fun w z h j hj=>?_⟩
 · rw [run_sliceAt_slice w t _ _ _ _ ht,run_slice_hm w t sp len cap ht .i64 .i64 (len:Int) (len:Int) (by omega) (by omega) (by omega),hsz]
   simp only [Result.andThen,sliced,Int.toNat_natCast,Nat.sub_zero]
 · obtain ⟨ad,rfl,hc'⟩:=h j (by omega)
   rw [if_neg (by omega)]
   exact ⟨ad.add (0*1),rfl,by rw [Nat.zero_mul,Addr.add_add,Nat.zero_add]; exact hc'⟩
theorem cutHMop {w:World} (t:TypeId) (x y z:Operand) (p q r v:Value) (ho:o.op=.slice t x none (some y) (some z)) (hx:a.eval x=p) (hy:a.eval y=q) (hz:a.eval z=r) (hr:(Instr.sliceAt t p none (some q) (some r)).run P w=.ok v w) :
 (execOp a.eval o).run P w=.ok (.value v) w:=by
 unfold execOp
 simp only [ho,hx,hy,hz,Option.map_some,Option.map_none,Sem.run_bind,hr,Result.andThen_ok,Sem.run_pure]
theorem appendNOp {w w':World} (s x:Operand) (t u:TypeId) (v n r:Value) (ho:o.op=.call { callee:=.builtin .append,args:=#[s,x],argTypes:=#[t,u] }) (hs:a.eval s=v) (hx:a.eval x=n) (hr:(Builtin.append_ #[t,u] o.type #[v,n]).run P w=.ok r w') :
 (execOp a.eval o).run P w=.ok (.value r) w':=by
 unfold execOp
 simp only [ho,resolve,invoke,builtin,Sem.run_bind,Sem.run_pure,Result.andThen_ok,List.map_toArray,List.map_cons,List.map_nil,hs,hx,hr]
end
end
def tot (ln:Nat→Nat):Nat→Nat
 | 0=>0
 | j+1=>tot ln j+ln j
def catz (ln:Nat→Nat) (zz:Nat→Nat→Int):Nat→Nat→Int
 | 0=>fun _=>0
 | j+1=>app (catz ln zz j) (tot ln j) (zz j)
theorem tot_mono (ln : Nat → Nat) {i : Nat} : ∀ {j : Nat}, i ≤ j → tot ln i ≤ tot ln j
  | 0, h => by obtain rfl : i = 0 := by omega
               exact xnR _
  | j + 1, h => by
    rcases Nat.lt_or_ge j i with h' | h'
    · obtain rfl : i = j + 1 := by omega
      exact xnR _
    · have := tot_mono ln h'
      show _ ≤ tot ln j + ln j
      omega
theorem loadSl {P:Program} {o:Oper} {a:Act} {w:World} (ty e:TypeId) (x:Operand) (p:Addr) (v:Value) (ho:o.op=.load ty x) (hx:a.eval x=.pointer (some p)) (hu:P.underlying ty=some (.slice e)) (hc:w.cell? p=some v):(execOp a.eval o).run P w=.ok (.value v) w:=by
 have hagg:(isAgg ty).run P w=.ok false w:=by
  unfold isAgg
  rw [Sem.run_bind,run_underlying hu w]
  rfl
 have e:(loadVar ty p).run P w=.ok v w:=by simp [loadVar,Sem.run_bind,hagg,hc]
 unfold execOp
 simp only [ho,hx,Instr.loadAt,Instr.sureAddr,Sem.run_bind,Sem.run_pure,Result.andThen_ok,e]
theorem cut_none (g n cap:Nat) (w:World):(Instr.sliceAt 29 (.slice (some ⟨g,0,none⟩) n cap) none (some (.int .i64 0)) none).run Tryz.prog w=.ok (.slice (some ⟨g,0,none⟩) 0 cap) w:=by
 rw [run_sliceAt_slice w 29 _ _ _ _ (by kernel_rfl),run_slice_h w 29 _ n cap (by kernel_rfl) .i64 0 (by omega) (by omega),show (sizeOf (Tryz.prog.elem 29)).run Tryz.prog w=.ok 1 w by kernel_rfl]
 simp [Result.andThen,sliced,Addr.add_mid]
theorem grow_any (n:Nat) (hn:n≤281474976710656) (w:World) :
 Calls Tryz.prog 61 #[.slice none 0 0,.int .i64 (n:Int)] w fun e w'=>∃ v,e=.returned v∧Own w' w.heap.size 5 .u8 0 (fun _=>0) v∧n≤vcap v∧Below w.heap.size w w':=by
 have h0:¬ (n:Int)<0:=by omega
 go_enter Tryz.func61,Tryz.ntmps61
 go_upto_region 3 with fail; clear h0; refine wp_region_list ?_; refine xpL (.int .i64 (n:Int)) ?_; refine xpL (.slice none 0 0) ?_; refine xpL (.int .i64 0) ?_; refine xpL (.slice none 0 0) ?_; refine xpL (.int .i64 0) ?_; refine xpL (.int .i64 0) ?_; refine xqL (.int .i64 (n:Int)) (fun w=>subI .i64 _ _ _ _ _ _ _ rfl rfl rfl (by rw [xw6]; omega) w) ?_; refine xpL (.int .i64 (n:Int)) ?_
 show Exit.then _ _ _ _ _
 rcases Nat.eq_zero_or_pos n with hz | hz
 · subst hz
   go_wp2; go_ret
   exact ⟨.slice none 0 0,rfl,World.ownsRow_nil w _ _ 1,xnR _,Below.refl _ _⟩
 · have g1:(0:Int)<(n:Int):=by omega
   go_upto_region 5 with fail; refine wp_region_list ?_; refine xpL (.slice none 0 0) ?_; refine xpL (.slice none 0 0) ?_; refine xpL (.int .i64 0) ?_; refine xpL (.slice none 0 0) ?_; refine xpL (.int .i64 (n:Int)) ?_
   have h1:(Tryz.prog.info? 5).map (fun i=>(i.zero,i.bytes,i.size))=some (some (.int .u8 0),1,1):=by kernel_rfl
   obtain ⟨i,hi,he⟩:=Option.map_eq_some_iff.1 h1
   simp only [Prod.mk.injEq] at he
   obtain ⟨e1,e2,e3⟩:=he
   have hr:∀ ty,_:=fun ty=>Lib.run_append_nil_zeros (P:=Tryz.prog) w 29 3 ty 5 i (.int .u8 0) .i64 .i64 Tryz.underlying29 Tryz.underlying3 hi e1 n (by omega) (by rw [e3]; decide) (by omega) (by rw [e2]; omega)
   refine actL _ rfl (appendNOp _ _ 29 3 _ _ _ rfl rfl rfl (hr _)) ?_; clear hr; have hge:=grownCap_ge w n 0 5; have hle:=grownCap_le_maxLen w n 0 5 (by unfold maxLen; omega)
   have hz1:(Value.int .u8 0).cells.size=1:=rfl
   have hsz:(Builtin.zeroCells (Value.int .u8 0).cells n++Builtin.zeroCells (Value.int .u8 0).cells (grownCap w n 0 5-n)).size=grownCap w n 0 5*1:=by
    rw [Array.size_append,size_zeroCells,size_zeroCells,hz1]
    omega
   have O:Own (w.drew.alloc (.cells (Builtin.zeroCells (Value.int .u8 0).cells n++Builtin.zeroCells (Value.int .u8 0).cells (grownCap w n 0 5-n)) 5)) w.heap.size 5 .u8 0 (fun _=>0) (.slice (some ⟨w.heap.size,0,none⟩) 0 (grownCap w n 0 5)) :=
    ⟨rfl,.inr ⟨w.heap.size,_,_,rfl,xnR _,heap_alloc_new w.drew _,Nat.zero_le _,hle,hsz,by rw [Nat.zero_mul,List.take_zero]; rfl⟩⟩
   have hB:Below w.heap.size w (w.drew.alloc (.cells (Builtin.zeroCells (Value.int .u8 0).cells n++Builtin.zeroCells (Value.int .u8 0).cells (grownCap w n 0 5-n)) 5)):=(Below.refl _ _).drew.alloc (xnR _) _
   generalize (w.drew.alloc (.cells (Builtin.zeroCells (Value.int .u8 0).cells n++Builtin.zeroCells (Value.int .u8 0).cells (grownCap w n 0 5-n)) 5))=w1 at O hB ⊢; clear hle hsz hz1 h1 hi e1 e2 e3; generalize grownCap w n 0 5=cp at O hge ⊢; generalize hg:w.heap.size=g at O hB ⊢; simp only [aP,lI,l0,lS]; refine xpL (.slice none 0 0) ?_; refine xpL (.int .i64 0) ?_
   refine xqL (.slice (some ⟨g,0,none⟩) 0 cp) (fun w'=>cutHi _ _ _ _ _ _ rfl rfl rfl (cut_none g n cp w')) ?_; refine xpL (.slice (some ⟨g,0,none⟩) 0 cp) ?_; subst hg; show Exit.then _ _ _ _ _; go_wp2; go_ret
   exact ⟨_,rfl,O,hge,hB⟩
structure CatIn (w:World) (p:Addr) (c:Nat) (sp:Nat→Option Addr) (ln cp:Nat→Nat) (zz:Nat→Nat→Int):Prop where
 cell:∀ j,j<c→w.cell? (p.add j)=some (.slice (sp j) (ln j) (cp j))
 src:∀ j,j<c→Src w (sp j) (ln j) (zz j)
 nil:∀ j,j<c→sp j=none→cp j=0
theorem CatIn.below {w w':World} {p:Addr} {c:Nat} {sp:Nat→Option Addr} {ln cp:Nat→Nat} {zz:Nat→Nat→Int} (h:CatIn w p c sp ln cp zz) (l:Below w.heap.size w w'):CatIn w' p c sp ln cp zz :=
 ⟨fun j hj=>by rw [l.cell (World.block_lt_of_cell? w _ (h.cell j hj))]; exact h.cell j hj,fun j hj=>(h.src j hj).below l (xnR _),h.nil⟩
structure CatI (w:World) (ln:Nat→Nat) (zz:Nat→Nat→Int) (c j:Nat) (s:Value) (w':World):Prop where
 own:Own w' w.heap.size 5 .u8 (tot ln j) (catz ln zz j) s
 room:tot ln c≤vcap s
 below:Below w.heap.size w w'
theorem concat_any (p:Addr) (c c':Nat) (sp:Nat→Option Addr) (ln cp:Nat→Nat) (zz:Nat→Nat→Int) (hc:c<1000000) (ht:tot ln c≤281474976710656) (w:World) (hin:CatIn w p c sp ln cp zz) :
 Calls Tryz.prog 41 #[.slice (some p) c c'] w fun e w'=>∃ v,e=.returned v∧Own w' w.heap.size 5 .u8 (tot ln c) (catz ln zz c) v∧Below w.heap.size w w':=by
 go_enter Tryz.func41,Tryz.ntmps41
 go_wp2
 go_loopw [3,11] (fun s i w'=>∃ j:Nat,j≤c∧s=.int .i64 ((tot ln j:Nat):Int)∧i=.int .i64 (j:Int)∧w=w') (fun _ i _=>c-(intOf i).toNat)
 case atStart=>exact ⟨0,Nat.zero_le _,rfl,rfl,rfl⟩
 case round =>
  obtain ⟨j,hj,rfl,rfl,rfl⟩:=hrel
  by_cases hlt:j<c
  · have g1:(j:Int)<(c:Int):=by omega
    have hm:tot ln j+ln j≤tot ln c:=tot_mono ln (show j+1≤c by omega)
    go_upto_region 4 with fail; refine wp_region_list ?_; refine xqL (.pointer (some (p.add j))) (fun w=>idxSl 43 29 c c' .i64 p j _ _ Tryz.underlying43 (fun _=>by kernel_rfl) hlt rfl rfl rfl w) ?_; refine xaL (.slice (sp j) (ln j) (cp j)) (loadSl 29 5 _ (p.add j) _ rfl rfl Tryz.underlying29 (hin.cell j hlt)) ?_; refine xpL (.slice (sp j) (ln j) (cp j)) ?_; show Exit.then _ _ _ _ _
    go_upto_region 5 with fail; refine wp_region_list ?_; refine xpL (.int .i64 ((tot ln j:Nat):Int)) ?_; refine xpL (.slice (sp j) (ln j) (cp j)) ?_; refine xqL (.int .i64 ((ln j:Nat):Int)) (fun w=>lenS _ 29 5 (sp j) (ln j) (cp j) rfl Tryz.underlying29 rfl w) ?_
    refine xqL (.int .i64 ((tot ln (j+1):Nat):Int)) (fun w=>addI .i64 _ _ _ _ _ _ _ rfl rfl rfl (by rw [xw6]; show _=((tot ln j+ln j:Nat):Int); omega) w) ?_
    refine xpL (.int .i64 ((tot ln (j+1):Nat):Int)) ?_; show Exit.then _ _ _ _ _
    have g2:¬ ((tot ln (j+1):Nat):Int)<0:=by omega
    clear hm; go_wp2
    go_roundw
    case rel=>exact ⟨j+1,by omega,rfl,by go_num,trivial⟩
    case measure=>simp [intOf]; omega
  · obtain rfl:j=c:=by omega
    have g1:¬ (j:Int)<(j:Int):=by omega
    clear hlt hj; go_upto_region 9 with fail; refine wp_region_list ?_; refine xpL (.int .i64 ((tot ln j:Nat):Int)) ?_; refine xcL (grow_any (tot ln j) ht _) ?_; rintro e w1 ⟨v,rfl,O,hro,hB⟩; refine xeL ?_; refine xpL v ?_
    have HI:CatI w ln zz j 0 v w1:=⟨O,hro,hB⟩
    clear O hro hB; show Exit.then _ _ _ _ _; go_wp2
    go_loopw [6,27] (fun s i w'=>∃ q:Nat,q≤j∧i=.int .i64 (q:Int)∧CatI w ln zz j q s w') (fun _ i _=>j-(intOf i).toNat)
    case atStart=>exact ⟨0,Nat.zero_le _,rfl,HI⟩
    case round =>
     clear HI
     obtain ⟨q,hq,rfl,HI⟩:=hrel
     by_cases hlt:q<j
     · have g2:(q:Int)<(j:Int):=by omega
       have hm:tot ln q+ln q≤tot ln j:=tot_mono ln (show q+1≤j by omega)
       go_upto_region 12 with fail; refine wp_region_list ?_; refine xqL (.pointer (some (p.add q))) (fun w=>idxSl 43 29 j c' .i64 p q _ _ Tryz.underlying43 (fun _=>by kernel_rfl) hlt rfl rfl rfl w) ?_; refine xaL (.slice (sp q) (ln q) (cp q)) (loadSl 29 5 _ (p.add q) _ rfl rfl Tryz.underlying29 ((hin.below HI.below).cell q hlt)) ?_; refine xpL (.slice (sp q) (ln q) (cp q)) ?_
       show Exit.then _ _ _ _ _; go_upto_region 13 with fail; refine wp_region_list ?_; refine xpL u6 ?_; refine xpL (.slice (sp q) (ln q) (cp q)) ?_
       obtain ⟨v',w2,hr,O,hg,hv,_⟩:=run_append_Room (P:=Tryz.prog) (ty:=29) Tryz.underlying29 one8 HI.own (sp q) (ln q) (cp q) (zz q) ((hin.below HI.below).src q hlt) (hin.nil q hlt) (xnT hm HI.room)
       refine xaL _ (appendOp _ _ 29 _ _ _ rfl rfl rfl hr) ?_; refine xpL v' ?_; have HS:=show Hid _ from (show CatI w ln zz j (q+1) v' w2 from ⟨O,by rw [hv]; exact HI.room,Below.grown HI.below hg HI.below.size (fun b hb=>(World.ownsRow.lt HI.own b hb).1)⟩); clear O hg hv hr HI hm
       show Exit.inBlock _ _ _ _ _
       go_wp2
       go_roundw
       case rel=>first | exact ⟨q+1,by omega,by go_num,HS.out⟩ | ((repeat apply Exists.intro); refine ⟨⟨q+1,by omega,?_,HS.out⟩,rfl⟩ <;> first | rfl | go_num)
       case measure=>simp [intOf]; omega
     · obtain rfl:q=j:=by omega
       have g2:¬ (q:Int)<(q:Int):=by omega
       have HS:=show Hid _ from HI; clear HI hlt hq; go_wp2; go_ret
       exact ⟨_,rfl,HS.out.own,HS.out.below⟩
theorem Has.head {w:World} {b:Nat} {k:IntKind} {n:Nat} {f:Nat→Int} (h:Has w b k n f) (m:Nat) (hm:m≤n):w.rangeAt b 0 (row k m f):=fun j v hv=>by
 obtain ⟨hj,rfl⟩:=row_get_some hv
 rw [Nat.zero_add]
 exact h.cell j (by omega)
theorem Kr.part {w w':World} {m:Nat} {l:List (Nat × IntKind × Nat × (Nat→Int))} {R:List (Nat × Nat)} (h:Kr w m l R w') (l':List (Nat × IntKind × Nat × (Nat→Int))) (b:Nat) (k:IntKind) (n:Nat) (f:Nat→Int) (o q:Nat) (ho:o+q≤n) (g:Nat→Int) (hp:(b,k,n,f)∈l) (hl:∀ p∈l',p∈l) (hne:∀ p∈l',p.1≠b) (hlo:w.heap.size≤b) :
 Kr w m ((b,k,n,over f o q g)::l') R (w'.setCells b o (row k q g)) :=
 ((h.loose l' b k n f hp hl hne hlo).poke b n mS o _).settle R b k n _ mS (fun _ hq=>mT _ hq) (fun q hq=>(h.apart _ hp q hq).symm) ((h.get _ _ _ _ hp).part o q ho g)
theorem Kr.headC {w w':World} {m:Nat} {l:List (Nat × IntKind × Nat × (Nat→Int))} {R:List (Nat × Nat)} {b:Nat} {k:IntKind} {n:Nat} {f:Nat→Int} (h:Kr w m ((b,k,n,f)::l) R w') (g:Nat→Int) (e:∀ j,j<n→f j=g j):Kr w m ((b,k,n,g)::l) R w' :=
 ⟨fun p hp=>by
  rcases xc1 hp with rfl | hp
  · exact ⟨(h.rows _ mS).1.congr e,(h.rows _ mS).2⟩
  · exact h.rows p (mT _ hp),h.room,fun p hp q hq=>by
  rcases xc1 hp with rfl | hp
  · exact h.apart _ mS q hq
  · exact h.apart p (mT _ hp) q hq,h.size,h.base,h.below⟩
def pk3 {α:Type} (a b c:α):Nat→α
 | 0=>a
 | 1=>b
 | _=>c
theorem tot3 (a b c:Nat):tot (pk3 a b c) 3=a+b+c:=by show 0+a+b+c=_; omega
theorem catIn3 {w:World} (C:Nat) (p1 p2 p3:Option Addr) (l1 l2 l3 c1 c2 c3:Nat) (z1 z2 z3:Nat→Int) (t:TypeId) (hC:C=w.heap.size) (h1:Src w p1 l1 z1) (h2:Src w p2 l2 z2) (h3:Src w p3 l3 z3) (n1:p1=none→c1=0) (n2:p2=none→c2=0) (n3:p3=none→c3=0) :
 CatIn (w.alloc (.cells #[.slice p1 l1 c1,.slice p2 l2 c2,.slice p3 l3 c3] t)) ⟨C,0,none⟩ 3 (pk3 p1 p2 p3) (pk3 l1 l2 l3) (pk3 c1 c2 c3) (pk3 z1 z2 z3):=by
 have hb:=(Below.refl w.heap.size w).alloc (xnR _) (.cells #[.slice p1 l1 c1,.slice p2 l2 c2,.slice p3 l3 c3] t)
 refine ⟨fun j hj=>?_,fun j hj=>?_,fun j hj=>?_⟩
 · rw [Addr.add_mid,World.cell?_alloc_at _ _ _ _ hC]
   match j,hj with
   | 0,_ | 1,_ | 2,_=>rfl
   | _+3,h=>omega
 · match j,hj with
   | 0,_=>exact h1.below hb (xnR _)
   | 1,_=>exact h2.below hb (xnR _)
   | 2,_=>exact h3.below hb (xnR _)
   | _+3,h=>omega
 · match j,hj with
   | 0,_=>exact n1
   | 1,_=>exact n2
   | 2,_=>exact n3
   | _+3,h=>omega
def knx (ll:Nat) (last:Nat→Int) (il:Nat) (inf:Nat→Int) (c:Int):Nat→Int:=app (app last ll inf) (ll+il) (fun _=>c)
theorem knx_in (ll:Nat) (last:Nat→Int) (il:Nat) (inf:Nat→Int) (c:Int) (hl:In 256 ll last) (hi:In 256 il inf) (hc:0≤c∧c<256):In 256 (ll+il+1) (knx ll last il inf c):=app_in _ _ _ _ (app_in _ _ _ _ hl hi) (fun _ _=>hc)
theorem cat3k (ll:Nat) (last:Nat→Int) (il:Nat) (inf:Nat→Int) (c:Int) (j:Nat):catz (pk3 ll il 1) (pk3 last inf (fun _=>c)) 3 j=knx ll last il inf c j:=by
 show app (app (app (fun _=>0) 0 last) (0+ll) inf) (0+ll+il) (fun _=>c) j=_
 unfold knx
 rw [Nat.zero_add]
 have e:app (fun _=>(0:Int)) 0 last=last:=by
  funext q
  unfold app
  rw [if_neg (xnZ q),Nat.sub_zero]
 rw [e]
theorem knext_any (k:Nat→Int) (hk:In 256 32 k) (lp:Option Addr) (ll lc:Nat) (hll:ll≤32) (hln:lp=none→lc=0) (last:Nat→Int) (hla:In 256 ll last) (ip:Option Addr) (il ic:Nat) (hil:il≤140737488351232) (hin:ip=none→ic=0) (inf:Nat→Int) (hif:In 256 il inf) (c:Int) (hc:0≤c∧c<256) (w:World) (hg:BGlob w) (hsl:Src w lp ll last) (hsi:Src w ip il inf) :
 Calls Tryz.prog 70 #[(.agg (row .u8 32 (k)).toArray),.slice lp ll lc,.slice ip il ic,.int .u8 c] w fun e w'=>e=.returned (.agg (row .u8 32 (bmac 32 k (ll+il+1) (knx ll last il inf c))).toArray)∧Below w.heap.size w w':=by
 have K:=Kr.init w; replace K:=K.box .u8 32 k 23 (w.heap.size) rfl; replace K:=K.make 32 zu8_32 23 (w.heap.size+1) (by simp) (key_zero _ _ _ (by simp)).there
 go_enter Tryz.func70,Tryz.ntmps70
 go_upto_region 1 with fail; generalize ((w.alloc (.cells (row .u8 32 k).toArray 23)).alloc (.cells zu8_32 23))=w0 at K ⊢; refine wp_region_held_drew (S:=fun w'=>Kr w (w.heap.size+1+1) [(w.heap.size,.u8,32,k)] [(w.heap.size+1,32)] w') (by kernel_rfl) K.drew ?_; clear K; intro K; generalize w0.drew=w1 at K ⊢
 refine xqH 0 9 rfl (.slice (some ⟨w.heap.size,0,none⟩) 32 32) (fun w'=>cutAll _ _ _ _ rfl rfl (kcutAll w.heap.size w')) K ?_; refine xpH 1 10 (.slice lp ll lc) K ?_; refine xpH 2 11 (.slice ip il ic) K ?_; refine xpH 3 12 (.int .u8 c) K ?_; have H1:=(Has.new w1 .u8 1 (fun _=>c) 5 w1.heap.size rfl).src0
 replace K:=K.call ((Below.refl w1.heap.size w1).alloc (xnR _) (.cells #[.int .u8 c] 5)); refine actH (i:=4) (w':=w1.alloc (.cells #[.int .u8 c] 5)) (some 13) rfl (.slice (some ⟨w1.heap.size,0,none⟩) 1 1) (by kernel_rfl) rfl rfl (by kernel_rfl) K ?_; simp only [aP,lI,l0,lS]
 have HC:=catIn3 (w1.alloc (.cells #[.int .u8 c] 5)).heap.size lp ip (some ⟨w1.heap.size,0,none⟩) ll il 1 lc ic 1 last inf (fun _=>c) 29 rfl (hsl.below K.below (xnR _)) (hsi.below K.below (xnR _)) H1 hln hin (fun e=>by cases e); generalize w1.alloc (.cells #[.int .u8 c] 5)=w2 at K HC ⊢; clear H1
 replace K:=K.call ((Below.refl w2.heap.size w2).alloc (xnR _) (.cells #[.slice lp ll lc,.slice ip il ic,.slice (some ⟨w1.heap.size,0,none⟩) 1 1] 29)); refine actH (i:=5) (w':=w2.alloc (.cells #[.slice lp ll lc,.slice ip il ic,.slice (some ⟨w1.heap.size,0,none⟩) 1 1] 29)) (some 14) rfl (.slice (some ⟨w2.heap.size,0,none⟩) 3 3) (by kernel_rfl) rfl rfl (by kernel_rfl) K ?_
 simp only [aP,lI,l0,lS]; generalize (w2.alloc (.cells #[.slice lp ll lc,.slice ip il ic,.slice (some ⟨w1.heap.size,0,none⟩) 1 1] 29))=w3 at K HC ⊢; refine callH (i:=6) (some 15) rfl (by kernel_rfl) rfl rfl (fun _=>by kernel_rfl) (concat_any ⟨w2.heap.size,0,none⟩ 3 3 _ _ _ _ (by decide) (by rw [tot3]; omega) _ HC) ?_; rintro e w4 ⟨v,rfl,O,l⟩; replace K:=K.call l; clear l HC
 rw [tot3] at O
 replace O:=O.congr (fun j _=>cat3k ll last il inf c j)
 obtain ⟨p3,c3,rfl,hc3,S3⟩:=O.bytes
 have hn3:=O.nilCap; clear O
 refine ⟨_,rfl,K,?_⟩
 simp only [aP,lI,l0,lS]; refine callH (i:=7) (some 16) rfl (by kernel_rfl) rfl rfl (fun _=>by kernel_rfl) (bmac_any (some ⟨w.heap.size,0,none⟩) 32 32 (by decide) (by decide) (fun e=>by cases e) k hk p3 (ll+il+1) c3 (by omega) hc3 hn3 _ (knx_in ll last il inf c hla hif hc) _ (hg.below K.below hg.size) (K.get _ _ _ _ mS).src0 S3) ?_; rintro e w5 ⟨rfl,l⟩; replace K:=K.call l
 clear l S3
 refine ⟨_,rfl,K,?_⟩
 simp only [aP,lI,l0,lS]
 have hz':=(K.room _ mS).1
 refine storesH (i:=8) none rfl .u8 32 (bmac 32 k (ll+il+1) (knx ll last il inf c)) (w.heap.size+1) 23 _ _ (by kernel_rfl) rfl rfl rfl rfl rfl (room_of hz') (key_info' _) (K.fill _ _ mS _) ?_; simp only [Act.put]
 refine wpAnyH_done (by kernel_rfl) ?_ _
 have hB:=(K.fill _ _ mS (row .u8 32 (bmac 32 k (ll+il+1) (knx ll last il inf c)))).below; clear K; generalize hGe:bmac 32 k (ll+il+1) (knx ll last il inf c)=G at *; go_wp2
 exact bodyPost_ret (v:=(.agg (row .u8 32 (G)).toArray)) (results_row Tryz.results70 rfl (Has.all hz' .u8 G).range Tryz.underlying23 rfl (key_info G)) rfl ⟨by first | rfl | rw [hGe] | (rw [← hGe]; done),hB⟩
theorem kfirst_any (k:Nat→Int) (hk:In 256 32 k) (s:ByteArray) (hsz:s.size≤1000) (w:World) (hg:BGlob w) :
 Calls Tryz.prog 53 #[(.agg (row .u8 32 (k)).toArray),.string s] w fun e w'=>e=.returned (.agg (row .u8 32 (kT k s.size (zs s) 1)).toArray)∧Below w.heap.size w w':=by
 have K:=Kr.init w; replace K:=K.box .u8 32 k 23 (w.heap.size) rfl; replace K:=K.make 32 zu8_32 23 (w.heap.size+1) (by simp) (key_zero _ _ _ (by simp)).there
 go_enter Tryz.func53,Tryz.ntmps53
 go_upto_region 1 with fail; generalize ((w.alloc (.cells (row .u8 32 k).toArray 23)).alloc (.cells zu8_32 23))=w0 at K ⊢; refine wp_region_list ?_; refine rowKL .u8 32 (k) (w.heap.size) 0 23 _ _ rfl rfl rfl Tryz.underlying23 rfl (key_info _) ((K.get _ _ _ _ mS).range) ?_; simp only [aP,lI,l0,lS]; refine xpL (.string s) ?_
 refine actL (w':=Lib.bytesWorld w0 5 s) (.slice (some ⟨w0.heap.size,0,none⟩) s.size (grownCap w0 s.size 0 5)) rfl (convStr 9 29 5 _ s rfl rfl Tryz.underlying9 Tryz.underlying29 Tryz.underlying5) ?_; simp only [aP,lI,l0,lS]; have hs:=bytes_src w0 5 s; replace K:=K.call (bytes_below w0 5 s); generalize Lib.bytesWorld w0 5 s=w1 at K hs ⊢; generalize grownCap w0 s.size 0 5=sc
 refine xcL (knext_any k hk none 0 0 (by decide) (fun _=>rfl) (fun _=>0) (fun _ hj=>absurd hj (xnZ _)) (some ⟨w0.heap.size,0,none⟩) s.size sc (by omega) (fun e=>by cases e) (zs s) (zs_in s _) 1 (by decide) _ (hg.below K.below hg.size) (fun j hj=>absurd hj (xnZ j)) hs) ?_; rintro e w2 ⟨rfl,l⟩; replace K:=K.call l; clear l hs
 rw [show bmac 32 k (0+s.size+1) (knx 0 (fun _=>0) s.size (zs s) 1)=kT k s.size (zs s) 1 from rfl]
 refine xeL ?_
 have hz':=(K.room _ mS).1
 refine storesL .u8 32 (kT k s.size (zs s) 1) (w.heap.size+1) 23 _ _ rfl rfl rfl rfl (room_of hz') (key_info' _) ?_; simp only [Act.put]; have hB:=(K.fill _ _ mS (row .u8 32 (kT k s.size (zs s) 1))).below; clear K; generalize hGe:kT k s.size (zs s) 1=G at *; show Exit.then _ _ _ _ _; go_wp2
 exact bodyPost_ret (v:=(.agg (row .u8 32 (G)).toArray)) (results_row Tryz.results53 rfl (Has.all hz' .u8 G).range Tryz.underlying23 rfl (key_info G)) rfl ⟨by first | rfl | rw [hGe] | (rw [← hGe]; done),hB⟩
theorem klater_any (k:Nat→Int) (hk:In 256 32 k) (w:World) (hg:BGlob w) :
 Calls Tryz.prog 35 #[(.agg (row .u8 32 (k)).toArray)] w fun e w'=>e=.returned (.agg (row .u8 32 (kT k 12 (zs sLater) 1)).toArray)∧Below w.heap.size w w':=by
 have K:=Kr.init w; replace K:=K.box .u8 32 k 23 (w.heap.size) rfl; replace K:=K.make 32 zu8_32 23 (w.heap.size+1) (by simp) (key_zero _ _ _ (by simp)).there
 go_enter Tryz.func35,Tryz.ntmps35
 go_upto_region 1 with fail; generalize ((w.alloc (.cells (row .u8 32 k).toArray 23)).alloc (.cells zu8_32 23))=w0 at K ⊢; refine wp_region_list ?_; refine rowKL .u8 32 (k) (w.heap.size) 0 23 _ _ rfl rfl rfl Tryz.underlying23 rfl (key_info _) ((K.get _ _ _ _ mS).range) ?_; simp only [aP,lI,l0,lS]; refine xcL (kfirst_any k hk sLater (by decide) _ (hg.below K.below hg.size)) ?_
 rintro e w1 ⟨rfl,l⟩; replace K:=K.call l; clear l
 refine ⟨_,rfl,?_⟩
 rw [show sLater.size=12 from rfl]
 simp only [aP,lI,l0,lS]
 have hz':=(K.room _ mS).1
 refine storesL .u8 32 (kT k 12 (zs sLater) 1) (w.heap.size+1) 23 _ _ rfl rfl rfl rfl (room_of hz') (key_info' _) ?_; simp only [Act.put]; have hB:=(K.fill _ _ mS (row .u8 32 (kT k 12 (zs sLater) 1))).below; clear K; generalize hGe:kT k 12 (zs sLater) 1=G at *; show Exit.then _ _ _ _ _; go_wp2
 exact bodyPost_ret (v:=(.agg (row .u8 32 (G)).toArray)) (results_row Tryz.results35 rfl (Has.all hz' .u8 G).range Tryz.underlying23 rfl (key_info G)) rfl ⟨by first | rfl | rw [hGe] | (rw [← hGe]; done),hB⟩
theorem kof_any (k:Nat→Int) (hk:In 256 32 k) (w:World) (hg:BGlob w) :
 Calls Tryz.prog 52 #[(.agg (row .u8 32 (k)).toArray)] w fun e w'=>e=.returned (.agg (row .u8 32 (kT k 10 (zs sKey) 1)).toArray)∧Below w.heap.size w w':=by
 have K:=Kr.init w; replace K:=K.box .u8 32 k 23 (w.heap.size) rfl; replace K:=K.make 32 zu8_32 23 (w.heap.size+1) (by simp) (key_zero _ _ _ (by simp)).there
 go_enter Tryz.func52,Tryz.ntmps52
 go_upto_region 1 with fail; generalize ((w.alloc (.cells (row .u8 32 k).toArray 23)).alloc (.cells zu8_32 23))=w0 at K ⊢; refine wp_region_list ?_; refine rowKL .u8 32 (k) (w.heap.size) 0 23 _ _ rfl rfl rfl Tryz.underlying23 rfl (key_info _) ((K.get _ _ _ _ mS).range) ?_; simp only [aP,lI,l0,lS]; refine xcL (kfirst_any k hk sKey (by decide) _ (hg.below K.below hg.size)) ?_
 rintro e w1 ⟨rfl,l⟩; replace K:=K.call l; clear l
 refine ⟨_,rfl,?_⟩
 rw [show sKey.size=10 from rfl]
 simp only [aP,lI,l0,lS]
 have hz':=(K.room _ mS).1
 refine storesL .u8 32 (kT k 10 (zs sKey) 1) (w.heap.size+1) 23 _ _ rfl rfl rfl rfl (room_of hz') (key_info' _) ?_; simp only [Act.put]; have hB:=(K.fill _ _ mS (row .u8 32 (kT k 10 (zs sKey) 1))).below; clear K; generalize hGe:kT k 10 (zs sKey) 1=G at *; show Exit.then _ _ _ _ _; go_wp2
 exact bodyPost_ret (v:=(.agg (row .u8 32 (G)).toArray)) (results_row Tryz.results52 rfl (Has.all hz' .u8 G).range Tryz.underlying23 rfl (key_info G)) rfl ⟨by first | rfl | rw [hGe] | (rw [← hGe]; done),hB⟩
def pkf (e:Int) (s a b:Nat→Int) (m:Int):List Value:=[[Value.int .i64 e],row .u8 32 s,row .u8 32 a,row .u8 32 b,[Value.int .i64 m]].flatten
theorem two_one (a b:Nat→Int):∀ u∈row .u8 32 a++row .u8 32 b,u.oneCell'=true:=fun u hu=>(List.mem_append.1 hu).elim (row_one .u8 32 a u) (row_one .u8 32 b u)
theorem two_len (a b:Nat→Int):(row .u8 32 a++row .u8 32 b).length=64:=by rw [List.length_append,row32,row32]
theorem pk_two (x y:Value) (s a b c d:List Value) (hs:s.length=32) (ha:a.length=32) (hb:b.length=32) (hc:c.length=32) (hd:d.length=32):setL [[x],s,a,b,[y]].flatten 33 (c++d)=[[x],s,c,d,[y]].flatten:=by
 have h5:∀ a b:List Value,[[x],s,a,b,[y]].flatten=[[x],s,a++b,[y]].flatten:=fun a b=>by simp
 rw [h5,h5,flat_set [[x],s,a++b,[y]] [1,32,64,1] (by simp [hs,ha,hb]) 2 33 (a++b) (c++d) rfl rfl (by simp [ha,hb,hc,hd])]
 rfl
theorem pk_twoR (e m:Int) (s a b c d:Nat→Int):setL [[Value.int .i64 e],row .u8 32 s,row .u8 32 a,row .u8 32 b,[Value.int .i64 m]].flatten 33 (row .u8 32 c++row .u8 32 d)=[[Value.int .i64 e],row .u8 32 s,row .u8 32 c,row .u8 32 d,[Value.int .i64 m]].flatten:=pk_two _ _ _ _ _ _ _ (row32 _) (row32 _) (row32 _) (row32 _) (row32 _)
def kyK (e m:Int) (a b:Nat→Int) (n:Int):Nat→Int:=if n=e then a else if n=e-1∧m=2 then b else fun _=>0
def kyE (e m n:Int):Int:=if n=e then 0 else if n=e-1∧m=2 then 0 else 150
theorem kyK_now {e m n:Int} {a b:Nat→Int} (h:n=e):kyK e m a b n=a:=if_pos h
theorem kyE_now {e m n:Int} (h:n=e):kyE e m n=0:=if_pos h
theorem kyK_last {e m n:Int} {a b:Nat→Int} (h:n=e-1) (h2:m=2):kyK e m a b n=b:=by unfold kyK; rw [if_neg (by omega),if_pos ⟨h,h2⟩]
theorem kyE_last {e m n:Int} (h:n=e-1) (h2:m=2):kyE e m n=0:=by unfold kyE; rw [if_neg (by omega),if_pos ⟨h,h2⟩]
theorem kyK_none {e m n:Int} {a b:Nat→Int} (h:¬ n=e) (h2:¬ (n=e-1∧m=2)):kyK e m a b n=fun _=>0:=by unfold kyK; rw [if_neg h,if_neg h2]
theorem kyE_none {e m n:Int} (h:¬ n=e) (h2:¬ (n=e-1∧m=2)):kyE e m n=150:=by unfold kyE; rw [if_neg h,if_neg h2]
theorem ktake_any (w0 w:World) (R:Nat) (l:List (Nat × List Value)) (e m m2:Int) (s a b:Nat→Int) (r:Nat→Int) (hr:In 256 32 r) (hm:0≤m∧m≤2∧m2=min (m+1) 2) (hg:BGlob w0) (M:Mm w0 ((R,pkf e s a b m)::l) w) :
 Calls Tryz.prog 34 #[.pointer (some ⟨R,0,none⟩),.agg (row .u8 32 r).toArray] w fun e' w'=>e'=.returned (.tuple #[])∧Mm w0 ((R,pkf e r (yof r) a m2)::l) w'∧Off [R] w w':=by
 replace M:Mm w0 ((R,[[Value.int .i64 e],row .u8 32 s,row .u8 32 a,row .u8 32 b,[Value.int .i64 m]].flatten)::l) w:=M
 have hb0:=M.below; have hwz:=xnR w.heap.size; have OF:=Off.refl [R] w
 go_enter Tryz.func34,Tryz.ntmps34
 obtain ⟨hm0,hm1,hm2⟩:=hm
 go_upto_region 0 with fail; refine wp_region_list ?_; have hlb:=(Below.refl w.heap.size w).alloc (xnR _) (.cells (row .u8 32 r).toArray 23); refine actL (w':=w.alloc (.cells (row .u8 32 r).toArray 23)) (.pointer (some ⟨w.heap.size,0,none⟩)) rfl (by kernel_rfl) ?_; simp only [aP,lI,l0,lS]; have hB_:=hwz; replace hwz:=xnT hwz hlb.size; replace OF:=OF.below hlb
 replace M:=M.box (row .u8 32 r).toArray 23 w.heap.size rfl; clear hlb; generalize w.alloc (.cells (row .u8 32 r).toArray 23)=w1 at M hwz OF ⊢; generalize eB_:w.heap.size=B1 at M ⊢
 have hB_B1:w.heap.size≤B1:=by rw [← eB_]; exact hB_
 clear hB_ eB_
 replace M:Mm w0 ((B1,row .u8 32 r)::(R,[[Value.int .i64 e],row .u8 32 s,row .u8 32 a,row .u8 32 b,[Value.int .i64 m]].flatten)::l) w1:=M
 refine xT ?_; go_upto_region 1 with fail; refine wp_region_list ?_; refine xpL (.pointer (some ⟨R,0,none⟩)) ?_; refine xaL (.agg (row .u8 32 r).toArray) (loadN 23 _ ⟨B1,0,none⟩ (row .u8 32 r) rfl rfl (fun _=>by kernel_rfl) (fun _=>by rw [row32]; kernel_rfl) (M.part mS 0 _ (by rw [List.drop_zero,List.take_length]))) ?_; refine xpL (.pointer (some ⟨R,0,none⟩)) ?_
 refine xpL (.pointer (some ⟨R,1,none⟩)) ?_; replace M:=M.swap
 refine skipOpL rfl (storeP (row .u8 32 r) R 1 23 _ _ rfl rfl rfl (M.thereP mS 1 32 (by rw [flat_len _ [1,32,32,32,1] (by simp [row_length])]; decide)) (by kernel_rfl) (row_one .u8 32 r)) ?_
 simp only [Act.put]; replace M:=M.setPart (row .u8 32 r) 1 (by rw [row32,flat_len _ [1,32,32,32,1] (by simp [row_length])]; decide)
 rw [flat_set _ [1,32,32,32,1] (by simp [row_length]) 1 1 _ (row .u8 32 r) rfl rfl (by rw [row32,row32])] at M
 replace hwz:=xnT hwz (Off.size ((Off.refl [R] _).setAll (b:=R) mS 1 (row .u8 32 r))); replace OF:=OF.and1 ((Off.refl [R] _).setAll (b:=R) mS 1 (row .u8 32 r)) (.inl (by simp)); generalize w1.setCells R 1 (row .u8 32 r)=w2 at M hwz OF ⊢
 replace M:Mm w0 ((R,[[Value.int .i64 e],row .u8 32 r,row .u8 32 a,row .u8 32 b,[Value.int .i64 m]].flatten)::(B1,row .u8 32 r)::l) w2:=M
 refine xT ?_; go_upto_region 2 with fail; refine wp_region_C (S:=fun w'=>Mm w0 ((R,[[Value.int .i64 e],row .u8 32 r,row .u8 32 a,row .u8 32 b,[Value.int .i64 m]].flatten)::(B1,row .u8 32 r)::l) w') 11 (by kernel_rfl) M.drew ?_; clear M; intro M; have hdr:=(Below.refl w2.heap.size w2).drew; replace hwz:=xnT hwz hdr.size; replace OF:=OF.below hdr; clear hdr
 generalize w2.drew=w3 at M hwz OF ⊢; refine readC (i:=0) (some 8) rfl (.pointer (some ⟨R,0,none⟩)) rfl rfl (by kernel_rfl) rfl (fun _ M=>(by kernel_rfl)) (by kernel_rfl) (by kernel_rfl) (by kernel_rfl) (by kernel_rfl) (fun _ _ _ h=>h) M ?_; simp only [aP,lI,l0,lS]
 refine readC (i:=1) (some 9) rfl (.agg (row .u8 32 r).toArray) rfl rfl (by kernel_rfl) rfl (fun _ M=>loadN 23 _ ⟨B1,0,none⟩ (row .u8 32 r) rfl rfl (fun _=>by kernel_rfl) (fun _=>by rw [row32]; kernel_rfl) (M.part (mT _ mS) 0 _ (by rw [List.drop_zero,List.take_length]))) (by kernel_rfl) (by kernel_rfl) (by kernel_rfl) (by kernel_rfl) (fun _ _ _ h=>h) M ?_; simp only [aP,lI,l0,lS]
 refine readC (i:=3) (some 11) rfl (.pointer (some ⟨R,0,none⟩)) rfl rfl (by kernel_rfl) rfl (fun _ M=>(by kernel_rfl)) (by kernel_rfl) (by kernel_rfl) (by kernel_rfl) (by kernel_rfl) (fun _ _ _ h=>h) M ?_; simp only [aP,lI,l0,lS]
 refine readC (i:=4) (some 12) rfl (.pointer (some ⟨R,0,none⟩)) rfl rfl (by kernel_rfl) rfl (fun _ M=>(by kernel_rfl)) (by kernel_rfl) (by kernel_rfl) (by kernel_rfl) (by kernel_rfl) (fun _ _ _ h=>h) M ?_; simp only [aP,lI,l0,lS]
 refine readC (i:=5) (some 13) rfl (.pointer (some ⟨R,33,none⟩)) rfl rfl (by kernel_rfl) rfl (fun _ M=>(by kernel_rfl)) (by kernel_rfl) (by kernel_rfl) (by kernel_rfl) (by kernel_rfl) (fun _ _ _ h=>h) M ?_; simp only [aP,lI,l0,lS]
 refine readC (i:=6) (some 14) rfl (.pointer (some ⟨R,33,none⟩)) rfl rfl (by kernel_rfl) rfl (fun _ M=>(by kernel_rfl)) (by kernel_rfl) (by kernel_rfl) (by kernel_rfl) (by kernel_rfl) (fun _ _ _ h=>h) M ?_; simp only [aP,lI,l0,lS]
 refine readC (i:=7) (some 15) rfl (.agg (row .u8 32 a).toArray) rfl rfl (by kernel_rfl) rfl (fun _ M=>loadN 23 _ ⟨R,33,none⟩ (row .u8 32 a) rfl rfl (fun _=>by kernel_rfl) (fun _=>by rw [row32]; kernel_rfl) (M.part mS 33 _ (flat_part _ [1,32,32,32,1] (by simp [row_length]) 2 33 _ rfl rfl))) (by kernel_rfl) (by kernel_rfl) (by kernel_rfl) (by kernel_rfl) (fun _ _ _ h=>h) M ?_
 simp only [aP,lI,l0,lS]; refine callMC (i:=2) (some 10) rfl (by kernel_rfl) rfl rfl (fun _=>by kernel_rfl) (kof_any r hr _ (hg.below M.below hg.size)) ?_; rintro e w4 ⟨rfl,l⟩; replace M:=M.call l; replace hwz:=xnT hwz l.size; replace OF:=OF.below l; clear l
 refine ⟨_,rfl,M,?_⟩
 simp only [aP,lI,l0,lS]; refine readC (i:=8) (some 16) rfl (.agg (row .u8 32 (yof r)++row .u8 32 a).toArray) rfl rfl (by kernel_rfl) rfl (fun _ M=>(by kernel_rfl)) (by kernel_rfl) (by kernel_rfl) (by kernel_rfl) (by kernel_rfl) (fun _ _ _ h=>h) M ?_; simp only [aP,lI,l0,lS]; refine xqC 9 17 rfl (.pointer (some ⟨R,0,none⟩)) (fun _=>(by kernel_rfl)) M ?_
 refine readC (i:=10) (some 18) rfl (.pointer (some ⟨R,33,none⟩)) rfl rfl (by kernel_rfl) rfl (fun _ M=>(by kernel_rfl)) (by kernel_rfl) (by kernel_rfl) (by kernel_rfl) (by kernel_rfl) (fun _ _ _ h=>h) M ?_; simp only [aP,lI,l0,lS]
 refine skipC (S2:=fun _=>True) none rfl (by kernel_rfl) rfl rfl (storeP (row .u8 32 (yof r)++row .u8 32 a) R 33 56 _ _ rfl rfl rfl (M.thereP mS 33 64 (by rw [flat_len _ [1,32,32,32,1] (by simp [row_length])]; decide)) (by kernel_rfl) (two_one _ _)) (by kernel_rfl) ?_
 simp only [Act.put]; replace M:=M.setPart (row .u8 32 (yof r)++row .u8 32 a) 33 (by rw [two_len,flat_len _ [1,32,32,32,1] (by simp [row_length])]; decide)
 rw [pk_twoR] at M
 replace hwz:=xnT hwz (Off.size ((Off.refl [R] _).setAll (b:=R) mS 33 (row .u8 32 (yof r)++row .u8 32 a))); replace OF:=OF.and1 ((Off.refl [R] _).setAll (b:=R) mS 33 (row .u8 32 (yof r)++row .u8 32 a)) (.inl (by simp)); generalize w4.setCells R 33 (row .u8 32 (yof r)++row .u8 32 a)=w5 at M hwz OF ⊢
 replace M:Mm w0 ((R,[[Value.int .i64 e],row .u8 32 r,row .u8 32 (yof r),row .u8 32 a,[Value.int .i64 m]].flatten)::(B1,row .u8 32 r)::l) w5:=M
 refine wpAnyH_done (by kernel_rfl) ?_ _
 first | show Exit.then _ _ _ _ _ | show Exit.inBlock _ _ _ _ _
 go_upto_region 3 with fail; refine wp_region_list ?_; refine xpL (.pointer (some ⟨R,0,none⟩)) ?_; refine xpL (.pointer (some ⟨R,0,none⟩)) ?_; refine xpL (.pointer (some ⟨R,0,none⟩)) ?_; refine xpL (.pointer (some ⟨R,97,none⟩)) ?_
 refine xaL (.int .i64 m) (load1 3 _ ⟨R,97,none⟩ _ rfl rfl (fun _=>by kernel_rfl) (M.get mS 97 _ (flat_get _ [1,32,32,32,1] (by simp [row_length]) 4 97 _ rfl rfl))) ?_; refine xaL (.int .i64 (m+1)) (addI .i64 _ _ _ _ _ _ _ rfl rfl rfl (by rw [xw6]; omega) _) ?_; refine xaL (.int .i64 m2) (minI .i64 .i64 _ _ _ _ _ _ _ rfl rfl rfl (by split <;> omega) _) ?_
 refine xpL (.pointer (some ⟨R,0,none⟩)) ?_; refine xpL (.pointer (some ⟨R,97,none⟩)) ?_
 refine skipOpL rfl (storeAny (.int .i64 m2) R 97 3 _ _ rfl rfl rfl rfl rfl (M.isSome mS 97 (by rw [flat_len _ [1,32,32,32,1] (by simp [row_length])]; decide)) (M.free mS 97 (by rw [flat_len _ [1,32,32,32,1] (by simp [row_length])]; decide)) (by kernel_rfl)) ?_
 simp only [Act.put]; replace M:=M.set 97 (by rw [flat_len _ [1,32,32,32,1] (by simp [row_length])]; decide) (.int .i64 m2)
 rw [flat_set1 _ [1,32,32,32,1] (by simp [row_length]) 4 97 _ (.int .i64 m2) rfl rfl] at M
 replace hwz:=xnT hwz (Off.size ((Off.refl [R] _).set (b:=R) mS 97 (.int .i64 m2))); replace OF:=OF.and1 ((Off.refl [R] _).set (b:=R) mS 97 (.int .i64 m2)) (.inl (by simp)); generalize w5.setCell ⟨R,97,none⟩ (.int .i64 m2)=w6 at M hwz OF ⊢
 replace M:Mm w0 ((R,[[Value.int .i64 e],row .u8 32 r,row .u8 32 (yof r),row .u8 32 a,[Value.int .i64 m2]].flatten)::(B1,row .u8 32 r)::l) w6:=M
 replace M:Mm w0 ((R,[[Value.int .i64 e],row .u8 32 r,row .u8 32 (yof r),row .u8 32 a,[Value.int .i64 m2]].flatten)::l) w6:=M.sub _ (List.cons_sublist_cons.2 (List.Sublist.cons _ (List.Sublist.refl _)))
 replace M:Mm w0 ((R,pkf e r (yof r) a m2)::l) w6:=M
 exact ⟨rfl,.tuple #[],by kernel_rfl,rfl,M,OF⟩
def ymn (k:Kys):Int:=if k.has=true then 2 else 1
def ylk (k:Kys):Nat→Int:=if k.has=true then yof k.last else fun _=>0
theorem ymn_or (k:Kys):ymn k=1∨ymn k=2:=by unfold ymn; split <;> omega
def kck (k:Kys):List Value:=pkf k.e k.now (yof k.now) (ylk k) (ymn k)
theorem kyK_is (k:Kys) (n:Int):kyK k.e (ymn k) (yof k.now) (ylk k) n=ykK k n:=by
 unfold kyK ykK ymn ylk
 cases k.has <;> simp
theorem kyE_is (k:Kys) (n:Int):kyE k.e (ymn k) n=ykE k n:=by
 unfold kyE ykE ymn
 cases k.has <;> simp
theorem kat_any (w0 w:World) (l:List (Nat × List Value)) (r:Nat→Int) (n:Int) (hg:BGlob w0) (hr:In 256 32 r) (M:Mm w0 l w) :
 Calls Tryz.prog 32 #[.agg (row .u8 32 r).toArray,.int .i64 n] w fun e' w'=>∃ R,e'=.returned (.pointer (some ⟨R,0,none⟩))∧w.heap.size≤R∧Mm w0 ((R,kck (yat r n))::l) w'∧Below w.heap.size w w':=by
 have hb0:=M.below; have hwz:=xnR w.heap.size; have OF:=Off.refl [] w
 go_enter Tryz.func32,Tryz.ntmps32
 go_upto_region 0 with fail; refine wp_region_list ?_; have hlb:=(Below.refl w.heap.size w).alloc (xnR _) (.cells (row .u8 32 r).toArray 23); refine actL (w':=w.alloc (.cells (row .u8 32 r).toArray 23)) (.pointer (some ⟨w.heap.size,0,none⟩)) rfl (by kernel_rfl) ?_; simp only [aP,lI,l0,lS]; have hB_:=hwz; replace hwz:=xnT hwz hlb.size; replace OF:=OF.below hlb
 replace M:=M.box (row .u8 32 r).toArray 23 w.heap.size rfl; clear hlb; generalize w.alloc (.cells (row .u8 32 r).toArray 23)=w1 at M hwz OF ⊢; generalize eB_:w.heap.size=B1 at M ⊢
 have hB_B1:w.heap.size≤B1:=by rw [← eB_]; exact hB_
 clear hB_ eB_
 replace M:Mm w0 ((B1,row .u8 32 r)::l) w1:=M
 refine xpL (.pointer none) ?_; refine xT ?_; go_upto_region 1 with fail; refine wp_region_list ?_; refine xpL (.int .i64 n) ?_; refine xaL (.int .i64 (max n 0)) (maxI .i64 .i64 _ _ _ _ _ _ _ rfl rfl rfl (by split <;> omega) _) ?_; refine xaL (.int .i64 (max 0 (min n 65535))) (minI .i64 .i64 _ _ _ _ _ _ _ rfl rfl rfl (by split <;> omega) _) ?_
 refine xpL (.agg ([[Value.int .i64 (max 0 (min n 65535))],row .u8 32 (fun _=>0),row .u8 32 (fun _=>0),row .u8 32 (fun _=>0),[Value.int .i64 0]].flatten).toArray) ?_; have hlb:=(Below.refl w1.heap.size w1).alloc (xnR _) (.cells ([[Value.int .i64 (max 0 (min n 65535))],row .u8 32 (fun _=>0),row .u8 32 (fun _=>0),row .u8 32 (fun _=>0),[Value.int .i64 0]].flatten).toArray 58)
 refine actL (w':=w1.alloc (.cells ([[Value.int .i64 (max 0 (min n 65535))],row .u8 32 (fun _=>0),row .u8 32 (fun _=>0),row .u8 32 (fun _=>0),[Value.int .i64 0]].flatten).toArray 58)) (.pointer (some ⟨w1.heap.size,0,none⟩)) rfl (by kernel_rfl) ?_; simp only [aP,lI,l0,lS]; have hB_:=hwz; replace hwz:=xnT hwz hlb.size; replace OF:=OF.below hlb
 replace M:=M.box ([[Value.int .i64 (max 0 (min n 65535))],row .u8 32 (fun _=>0),row .u8 32 (fun _=>0),row .u8 32 (fun _=>0),[Value.int .i64 0]].flatten).toArray 58 w1.heap.size rfl; clear hlb
 generalize w1.alloc (.cells ([[Value.int .i64 (max 0 (min n 65535))],row .u8 32 (fun _=>0),row .u8 32 (fun _=>0),row .u8 32 (fun _=>0),[Value.int .i64 0]].flatten).toArray 58)=w2 at M hwz OF ⊢; generalize eB_:w1.heap.size=B2 at M ⊢
 have hB_B2:w.heap.size≤B2:=by rw [← eB_]; exact hB_
 clear hB_ eB_
 replace M:Mm w0 ((B2,[[Value.int .i64 (max 0 (min n 65535))],row .u8 32 (fun _=>0),row .u8 32 (fun _=>0),row .u8 32 (fun _=>0),[Value.int .i64 0]].flatten)::(B1,row .u8 32 r)::l) w2:=M
 refine xpL (.pointer (some ⟨B2,0,none⟩)) ?_; refine xT ?_; go_upto_region 2 with fail; refine wp_region_list ?_; refine xpL (.pointer (some ⟨B2,0,none⟩)) ?_; refine xaL (.agg (row .u8 32 r).toArray) (loadN 23 _ ⟨B1,0,none⟩ (row .u8 32 r) rfl rfl (fun _=>by kernel_rfl) (fun _=>by rw [row32]; kernel_rfl) (M.part (mT _ mS) 0 _ (by rw [List.drop_zero,List.take_length]))) ?_
 replace M:Mm w0 ((B2,[[Value.int .i64 (max 0 (min n 65535))],row .u8 32 (fun _=>0),row .u8 32 (fun _=>0),row .u8 32 (fun _=>0),[Value.int .i64 0]].flatten)::(B1,row .u8 32 r)::l) w2:=M
 refine xcL (ktake_any w0 _ B2 _ (max 0 (min n 65535)) 0 1 (fun _=>0) (fun _=>0) (fun _=>0) r hr (by omega) hg M) ?_; rintro e w3 ⟨rfl,M',o1⟩; clear M; have M:=M'; clear M'; replace hwz:=xnT hwz (Off.size o1); replace OF:=OF.and1 o1 (.inr (by omega)); clear o1; refine xeL ?_; refine xT ?_; go_upto_region 3 with fail; refine wp_region_list ?_
 refine xpL (.pointer (some ⟨B2,0,none⟩)) ?_; refine xpL (.pointer (some ⟨B2,0,none⟩)) ?_; refine xT ?_
 replace M:Mm w0 ((B2,[[Value.int .i64 (max 0 (min n 65535))],row .u8 32 r,row .u8 32 (yof r),row .u8 32 (fun _=>0),[Value.int .i64 1]].flatten)::l) w3:=M.sub _ (List.cons_sublist_cons.2 (List.Sublist.cons _ (List.Sublist.refl _)))
 have hbel:Below w.heap.size w w3:=⟨M.below.os.trans hb0.os.symm,M.below.tape.trans hb0.tape.symm,M.below.output.trans hb0.output.symm,OF.size,fun b hb=>OF.blk b hb (fun h=>by cases h)⟩
 replace M:Mm w0 ((B2,kck (yat r n))::l) w3:=M
 have HS:=show Hid _ from (And.intro hB_B2 (And.intro M hbel)); clear M OF hbel hB_B2; go_wp2; go_ret
 exact ⟨B2,rfl,HS.out⟩
end Go.Proofs.YtknodedhcdpbiaaGreatDoor
