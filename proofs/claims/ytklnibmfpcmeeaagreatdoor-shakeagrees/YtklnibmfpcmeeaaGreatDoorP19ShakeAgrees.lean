/- Texts of Vk Bd Bc Bf Hy Bq, joined. -/
import Derived.Test.YtklnibmfpcmeeaaGreatDoorP18ShakeAgrees
set_option maxRecDepth 20000
set_option maxHeartbeats 64000000
namespace Go.Proofs.YtklnibmfpcmeeaaGreatDoor
open Go.RowKit
theorem eqlNil {P:Program} {o:Oper} {a:Act} (t e t':TypeId) (x y:Operand) (sp:Option Addr) (n c:Nat) (b:Bool) (ho:o.op=.binOp .eql t x y t') (hx:a.eval x=.slice sp n c) (hy:a.eval y=.slice none 0 0) (hu:P.underlying t=some (.slice e)) (hb:sp.isNone=b) (w:World) :
 (execOp a.eval o).run P w=.ok (.value (.bool b)) w:=by
 subst hb
 unfold execOp
 have e1:(eqGuard .eql t x y (.slice sp n c) (.slice none 0 0)).run P w=.ok () w:=rfl
 simp only [ho,hx,hy,Sem.run_bind,e1,Lib.run_eql_slice_nil w t e sp n c 0 0 hu,Sem.run_pure,Result.andThen_ok]
def pk2 {α:Type} (a b:α):Nat→α
 | 0=>a
 | _=>b
theorem tot2 (a b:Nat):tot (pk2 a b) 2=a+b:=by show 0+a+b=_; omega
theorem catIn2 {w:World} (C:Nat) (p1 p2:Option Addr) (l1 l2 c1 c2:Nat) (z1 z2:Nat→Int) (t:TypeId) (hC:C=w.heap.size) (h1:Src w p1 l1 z1) (h2:Src w p2 l2 z2) (n1:p1=none→c1=0) (n2:p2=none→c2=0) :
 CatIn (w.alloc (.cells #[.slice p1 l1 c1,.slice p2 l2 c2] t)) ⟨C,0,none⟩ 2 (pk2 p1 p2) (pk2 l1 l2) (pk2 c1 c2) (pk2 z1 z2):=by
 have hb:=(Below.refl w.heap.size w).alloc (xnR _) (.cells #[.slice p1 l1 c1,.slice p2 l2 c2] t)
 refine ⟨fun j hj=>?_,fun j hj=>?_,fun j hj=>?_⟩
 · rw [Addr.add_mid,World.cell?_alloc_at _ _ _ _ hC]
   match j,hj with
   | 0,_ | 1,_=>rfl
   | _+2,h=>omega
 · match j,hj with
   | 0,_=>exact h1.below hb (xnR _)
   | 1,_=>exact h2.below hb (xnR _)
   | _+2,h=>omega
 · match j,hj with
   | 0,_=>exact n1
   | 1,_=>exact n2
   | _+2,h=>omega
theorem catz2 (a b:Nat) (z1 z2:Nat→Int) (j:Nat):catz (pk2 a b) (pk2 z1 z2) 2 j=app z1 a z2 j:=by
 show app (app (fun _=>0) 0 z1) (0+a) z2 j=app z1 a z2 j
 unfold app
 rw [Nat.zero_add]
 by_cases h:j<a
 · rw [if_pos h,if_pos h,if_neg (xnZ j),Nat.sub_zero]
 · rw [if_neg h,if_neg h]
theorem catz3 (a b c:Nat) (z1 z2 z3:Nat→Int) (j:Nat):catz (pk3 a b c) (pk3 z1 z2 z3) 3 j=app (app z1 a z2) (a+b) z3 j:=by
 show app (app (app (fun _=>0) 0 z1) (0+a) z2) (0+a+b) z3 j=app (app z1 a z2) (a+b) z3 j
 rw [Nat.zero_add]
 unfold app
 by_cases h:j<a+b
 · rw [if_pos h,if_pos h]
   by_cases h':j<a
   · rw [if_pos h',if_pos h',if_neg (xnZ j),Nat.sub_zero]
   · rw [if_neg h',if_neg h']
 · rw [if_neg h,if_neg h]
theorem clone_any (sp:Option Addr) (len cap:Nat) (hlen:len≤140737488351248) (hc:len≤cap) (hnil:sp=none→cap=0) (z:Nat→Int) (w:World) (hs:Src w sp len z) :
 Calls Tryz.prog 80 #[.slice sp len cap] w fun e w'=>∃ v,e=.returned v∧Own w' w.heap.size 5 .u8 len z v∧Below w.heap.size w w':=by
 have hB:=Below.refl w.heap.size w
 cases sp with
 | none =>
   obtain rfl:len=0:=by have:=hnil rfl; omega
   obtain rfl:=hnil rfl
   go_enter Tryz.func80,Tryz.ntmps80
   go_upto_region 1 with fail; refine wp_region_list ?_; refine xpL (.slice none 0 0) ?_; refine xqL (.bool true) (fun w=>eqlNil 32 5 _ _ _ none 0 0 true rfl rfl rfl Tryz.underlying32 rfl w) ?_; show Exit.then _ _ _ _ _; go_wp2; go_ret
   exact ⟨_,rfl,World.ownsRow_nil w _ _ 1,hB⟩
 | some ad =>
   go_enter Tryz.func80,Tryz.ntmps80
   go_upto_region 1 with fail; refine wp_region_list ?_; refine xpL (.slice (some ad) len cap) ?_; refine xqL (.bool false) (fun w=>eqlNil 32 5 _ _ _ (some ad) len cap false rfl rfl rfl Tryz.underlying32 rfl w) ?_; show Exit.then _ _ _ _ _; go_upto_region 3 with fail; refine wp_region_list ?_
   refine actL (w':=w.alloc (.cells #[] 5)) (.slice (some ⟨w.heap.size,0,none⟩) 0 0) rfl (by kernel_rfl) ?_; simp only [aP,lI,l0,lS]; refine xpL (.slice (some ad) len cap) ?_; have hb1:=(Below.refl w.heap.size w).alloc (xnR _) (.cells #[] 5)
   obtain ⟨v,w2,hr,ho,hgr,_⟩:=run_append_Own (P:=Tryz.prog) (ty:=32) Tryz.underlying32 one8 (Own.lit w w.heap.size 5 .u8 0 (fun _=>0) (xnR _) (by unfold maxLen; omega)) (some ad) (len) (cap) (z) ((hs).below hb1 (xnR _)) (fun e=>by cases e) (by unfold maxLen; omega) (by omega) hb1.size
   have hb2:=hb1.grown hgr hb1.size (fun b hb=>by injection hb with hb; simp only at hb; omega); refine xaL v (appendOp _ _ 32 _ _ _ rfl rfl rfl hr) ?_
   have hO:Own w2 w.heap.size 5 .u8 (len) (z) v:=by
    rw [Nat.zero_add] at ho
    exact ho.congr fun j _=>by unfold app; rw [if_neg (xnZ j),Nat.sub_zero]
   clear hr ho hgr hb1; refine xpL v ?_; show Exit.then _ _ _ _ _; go_wp2; go_ret
   exact ⟨_,rfl,hO,hb2⟩
def BHashOK:Prop:=∀ (sp:Option Addr) (len cap:Nat),len≤140737488355072→len≤cap→(sp=none→cap=0)→∀ z:Nat→Int,In 256 len z→∀ w:World,BGlob w→Src w sp len z →
 Calls Tryz.prog 78 #[.slice sp len cap] w fun e w'=>e=.returned (.agg (row .u8 32 (bhash len z)).toArray)∧Below w.heap.size w w'
def BMacOK:Prop:=∀ (kp:Option Addr) (kl kc:Nat),kl≤140737488355072→kl≤kc→(kp=none→kc=0)→∀ key:Nat→Int,In 256 kl key→∀ (sp:Option Addr) (len cap:Nat),len≤140737488354816→len≤cap→(sp=none→cap=0)→∀ z:Nat→Int,In 256 len z→∀ w:World,BGlob w→Src w kp kl key→Src w sp len z →
 Calls Tryz.prog 143 #[.slice kp kl kc,.slice sp len cap] w fun e w'=>e=.returned (.agg (row .u8 32 (bmac kl key len z)).toArray)∧Below w.heap.size w w'
theorem bst_info (f:Nat→Int):(Tryz.prog.info? 142).map (·.size)=some (row .u32 8 f).length:=by rw [row_length]; kernel_rfl
theorem bst_info' (f:Nat→Int):(Tryz.prog.info? 142).map (·.size)=some (row .u32 8 f).toArray.size:=by rw [List.size_toArray]; exact bst_info f
theorem bst_there {w:World} {b:Nat} {f g:Nat→Int} (h:Has w b .u32 8 f):w.there b 0 (row .u32 8 g).toArray.size:=by rw [List.size_toArray,row_length]; exact h.there
theorem bst_zero (w:World) (t:TypeId) (b:Nat) (hb:b=w.heap.size):Has (w.alloc (.cells zu32_8 t)) b .u32 8 (fun _=>0):=Has.new w .u32 8 (fun _=>0) t b hb
theorem bwd_info (f:Nat→Int):(Tryz.prog.info? 167).map (·.size)=some (row .u32 16 f).length:=by rw [row_length]; kernel_rfl
theorem bwd_info' (f:Nat→Int):(Tryz.prog.info? 167).map (·.size)=some (row .u32 16 f).toArray.size:=by rw [List.size_toArray]; exact bwd_info f
theorem bwd_zero (w:World) (t:TypeId) (b:Nat) (hb:b=w.heap.size):Has (w.alloc (.cells zu32_16 t)) b .u32 16 (fun _=>0):=Has.new w .u32 16 (fun _=>0) t b hb
theorem bpc_zero (w:World) (t:TypeId) (b:Nat) (hb:b=w.heap.size):Has (w.alloc (.cells zu8_64 t)) b .u8 64 (fun _=>0):=Has.new w .u8 64 (fun _=>0) t b hb
theorem ixS (b i:Nat) (hi:i<8) (w:World) {o:Oper} {a:Act} (x y:Operand) (ho:o.op=.indexAddr 142 x y) (hx:a.eval x=.pointer (some ⟨b,0,none⟩)) (hy:a.eval y=.int .i64 (i:Int)) :
 (execOp a.eval o).run Tryz.prog w=.ok (.value (.pointer (some ⟨b,i,none⟩))) w:=by
 have h:=idxArr (P:=Tryz.prog) 142 122 8 .i64 b 0 i x y Tryz.underlying142 (fun _=>by kernel_rfl) hi ho hx hy w
 rw [Nat.zero_add] at h
 exact h
theorem ixW (b i:Nat) (hi:i<16) (w:World) {o:Oper} {a:Act} (x y:Operand) (ho:o.op=.indexAddr 167 x y) (hx:a.eval x=.pointer (some ⟨b,0,none⟩)) (hy:a.eval y=.int .i64 (i:Int)) :
 (execOp a.eval o).run Tryz.prog w=.ok (.value (.pointer (some ⟨b,i,none⟩))) w:=by
 have h:=idxArr (P:=Tryz.prog) 167 122 16 .i64 b 0 i x y Tryz.underlying167 (fun _=>by kernel_rfl) hi ho hx hy w
 rw [Nat.zero_add] at h
 exact h
theorem ixWb (b i:Nat) (hi:i<16) (w:World) {o:Oper} {a:Act} (x y:Operand) (ho:o.op=.indexAddr 167 x y) (hx:a.eval x=.pointer (some ⟨b,0,none⟩)) (hy:a.eval y=.int .u8 (i:Int)) :
 (execOp a.eval o).run Tryz.prog w=.ok (.value (.pointer (some ⟨b,i,none⟩))) w:=by
 have h:=idxArr (P:=Tryz.prog) 167 122 16 .u8 b 0 i x y Tryz.underlying167 (fun _=>by kernel_rfl) hi ho hx hy w
 rw [Nat.zero_add] at h
 exact h
theorem ixV (b i:Nat) (hi:i<8) (w:World) {o:Oper} {a:Act} (x y:Operand) (ho:o.op=.indexAddr 141 x y) (hx:a.eval x=.pointer (some ⟨b,0,none⟩)) (hy:a.eval y=.int .i64 (i:Int)) :
 (execOp a.eval o).run Tryz.prog w=.ok (.value (.pointer (some ⟨b,i,none⟩))) w:=by
 have h:=idxArr (P:=Tryz.prog) 141 122 8 .i64 b 0 i x y Tryz.underlying141 (fun _=>by kernel_rfl) hi ho hx hy w
 rw [Nat.zero_add] at h
 exact h
theorem bcut_64 (b k:Nat) (hk:k<16) (w:World):(Instr.sliceAt 136 (.pointer (some ⟨b,0,none⟩)) (some (.int .i64 (4*(k:Int)))) none none).run Tryz.prog w=.ok (.slice (some ⟨b,4*k,none⟩) (64-4*k) (64-4*k)) w:=by
 have hl:Tryz.prog.arrayLen 136=64:=by kernel_rfl
 have hs:∀ w,(sizeOf (Tryz.prog.elem 136)).run Tryz.prog w=.ok 1 w:=fun w=>by kernel_rfl
 rw [run_sliceAt_array_l w 136 ⟨b,0,none⟩ (by kernel_rfl) .i64 _ (by omega) (by rw [hl]; omega),hs,hl]
 simp only [Result.andThen,slicedAt]
 have e1:(4*(k:Int)).toNat=4*k:=by omega
 rw [e1,if_neg (by omega),Addr.add_mid,Nat.zero_add,Nat.mul_one]
theorem bcut_key (b k:Nat) (hk:k<8) (w:World):(Instr.sliceAt 23 (.pointer (some ⟨b,0,none⟩)) (some (.int .i64 (4*(k:Int)))) none none).run Tryz.prog w=.ok (.slice (some ⟨b,4*k,none⟩) (32-4*k) (32-4*k)) w:=by
 have hl:Tryz.prog.arrayLen 23=32:=by kernel_rfl
 have hs:∀ w,(sizeOf (Tryz.prog.elem 23)).run Tryz.prog w=.ok 1 w:=fun w=>by kernel_rfl
 rw [run_sliceAt_array_l w 23 ⟨b,0,none⟩ (by kernel_rfl) .i64 _ (by omega) (by rw [hl]; omega),hs,hl]
 simp only [Result.andThen,slicedAt]
 have e1:(4*(k:Int)).toNat=4*k:=by omega
 rw [e1,if_neg (by omega),Addr.add_mid,Nat.zero_add,Nat.mul_one]
theorem hxr_assoc (a b c:Int) (ha:0≤a∧a<V) (hb:0≤b∧b<V) (hc:0≤c∧c<V):hxr (hxr a b) c=hxr a (hxr b c):=by
 obtain ⟨a,rfl⟩:=xiN ha.1
 obtain ⟨b,rfl⟩:=xiN hb.1
 obtain ⟨c,rfl⟩:=xiN hc.1
 have a2:=ha.2; have b2:=hb.2; have c2:=hc.2
 simp only [V] at a2 b2 c2
 have h1:a ^^^ b<2^32:=Nat.xor_lt_two_pow (by omega) (by omega)
 have h2:b ^^^ c<2^32:=Nat.xor_lt_two_pow (by omega) (by omega)
 unfold hxr
 rw [u32_xor_nat a b (by omega) (by omega),u32_xor_nat b c (by omega) (by omega),u32_xor_nat _ c (by omega) (by omega),u32_xor_nat a _ (by omega) (by omega),Nat.xor_assoc]
theorem bload_any (sp:Option Addr) (len cap:Nat) (hlen:len≤64) (z:Nat→Int) (hz:In 256 len z) (w:World) (hs:Src w sp len z) :
 Calls Tryz.prog 146 #[.slice sp len cap] w fun e w'=>e=.returned (.agg (row .u32 16 (bpw (padz len z))).toArray)∧Below w.heap.size w w':=by
 have K:=Kr.init w; replace K:=K.make 16 zu32_16 167 (w.heap.size) rfl (bwd_zero _ _ _ rfl).there; replace K:=K.boxO .u8 64 (fun _=>0) (.cells zu8_64 136) (w.heap.size+1) (by simp) (bpc_zero _ _ _ (by simp))
 go_enter Tryz.func146,Tryz.ntmps146
 go_upto_region 2 with fail; generalize ((w.alloc (.cells zu32_16 167)).alloc (.cells zu8_64 136))=w0 at K ⊢; have HR:=K.get _ _ _ _ mS; replace K:=K.loose [] (w.heap.size+1) .u8 64 (fun _=>0) mS (fun _ hp=>by cases hp) (fun _ hp=>by cases hp) (by omega); refine wp_region_list ?_; refine xpL (.slice (some ⟨w.heap.size+1,0,none⟩) 64 64) ?_; refine xpL (.slice sp len cap) ?_
 refine xaL (.int .i64 (len:Int)) (run_copy_src _ _ 32 32 5 rfl Tryz.underlying32 (by kernel_rfl) (w.heap.size+1) 64 64 len cap 64 sp z rfl rfl hlen hlen HR.there (hs.below K.below (xnR _))) ?_; replace K:=K.fill (w.heap.size+1) 64 mS (row .u8 len z)
 replace HR:=(HR.part 0 len (by omega) z).congr (g:=padz len z) (fun j hj=>by
  unfold over padz
  by_cases e:j<len
  · rw [if_pos (by omega),if_pos e,Nat.sub_zero]
  · rw [if_neg (by omega),if_neg e])
 replace K:=K.settle [(w.heap.size,16)] (w.heap.size+1) .u8 64 (padz len z) mS (fun q hq=>mT _ hq) (fun q hq=>by obtain rfl:=xm1 hq; simp only; omega) HR; generalize w0.setCells (w.heap.size+1) 0 (row .u8 len z)=w1 at K ⊢; clear HR w0 hs; show Exit.then _ _ _ _ _; go_upto_region 3 with fail; have zX:=K.size
 replace K:=K.boxO .u32 16 (fun _=>0) (.cells zu32_16 167) w1.heap.size rfl (bwd_zero _ _ _ rfl); go_upto_region 4 with fail; generalize hw:w1.alloc (.cells zu32_16 167)=w2 at K ⊢; clear hw; generalize w1.heap.size=X at *; have hp:=padz_in len z hz 64; generalize hpp:padz len z=p at *; go_wp2
 go_loopw [9] (fun i w'=>∃ (n:Nat) (f:Nat→Int),n≤16∧i=.int .i64 n∧Kr w (X+1) [(X,.u32,16,f),(w.heap.size+1,.u8,64,p)] [(w.heap.size,16)] w'∧∀ j,j<n→f j=bpw p j) (fun i _=>16-(intOf i).toNat)
 case atStart=>exact ⟨0,_,by omega,rfl,K,fun j hj=>by omega⟩
 case round =>
  clear K
  obtain ⟨n,f,hn,rfl,K,hd⟩:=hrel
  have g1:(0:Int)≤(n:Int):=by omega
  by_cases hlt:n<16
  · have g2:(n:Int)<16:=by omega
    go_upto_region 7 with fail; refine wp_region_list ?_; refine xpL (.int .i64 (n:Int)) ?_; refine xpL (.int .i64 (n:Int)) ?_; refine xqL (.int .i64 (4*(n:Int))) (fun w=>mulI .i64 4 (n:Int) _ _ _ _ _ rfl rfl rfl (by rw [xw6]; omega) w) ?_
    refine xqL (.slice (some ⟨w.heap.size+1,4*n,none⟩) (64-4*n) (64-4*n)) (fun w'=>cutOp _ _ _ _ _ _ rfl rfl rfl (bcut_64 (w.heap.size+1) n hlt w')) ?_; refine xcL (of32_any (w.heap.size+1) (4*n) 64 (64-4*n) (64-4*n) p (by omega) (by omega) hp _ (K.get _ _ _ _ (mT _ mS))) ?_; rintro e w3 ⟨q,rfl,rfl⟩; replace K:=K.drewN (q:=q); refine xeL ?_
    refine xqL (.pointer (some ⟨X,n,none⟩)) (fun w'=>ixW X n hlt w' _ _ rfl rfl rfl) ?_
    refine storeL .u32 (w32 p (4*n)) X n 122 _ _ rfl rfl rfl rfl (by rw [(K.get _ _ _ _ mS).cell n hlt]; rfl) ((K.get _ _ _ _ mS).free n hlt) (by kernel_rfl) ?_
    simp only [Act.put]; replace K:=K.setCell [(w.heap.size+1,.u8,64,p)] X .u32 16 f n hlt (w32 p (4*n)) mS (fun p hp=>by obtain rfl:=xm1 hp; exact (mT _ mS)) (fun p hp=>by obtain rfl:=xm1 hp; simp only; omega) (by omega)
    have HS:=show Hid _ from (And.intro K (show ∀ j,j<n+1→upd f n (w32 p (4*n)) j=bpw p j from fun j hj=>by
     by_cases e:j=n
     · subst e; rw [upd_same]; rfl
     · rw [upd_other _ _ _ _ e]; exact hd j (by omega)))
    clear K hd; generalize (wr.drewN q).setCell ⟨X,n,none⟩ (.int .u32 (w32 p (4*n)))=w4 at HS ⊢; generalize upd f n (w32 p (4*n))=f' at HS
    show Exit.inBlock _ _ _ _ _
    go_wp2
    go_roundw
    case rel=>first | exact ⟨n+1,f',by omega,by go_num,HS.out⟩ | ((repeat apply Exists.intro); refine ⟨⟨n+1,f',by omega,by go_num,HS.out⟩,rfl⟩)
    case measure=>simp [intOf]; omega
  · obtain rfl:n=16:=by omega
    have HR:=(K.get _ _ _ _ mS).congr (g:=bpw p) (fun j hj=>hd j hj)
    have hz':=(K.room _ mS).1
    have hB:=(K.fill _ _ mS (row .u32 16 (bpw p))).below; clear K hd hlt hn g1; generalize hf:bpw p=g at *
    go_wp2_with (first | (refine wpList_load_mid rfl 167 _ rfl (X) 0 rfl (row .u32 16 (g)) _ (Has.range (HR)) Tryz.underlying167 rfl (bwd_info _) ?_) | (refine wpList_store_mid rfl 167 _ _ rfl (w.heap.size) 0 (row .u32 16 g).toArray rfl rfl (room_of hz') (bwd_info' _) (all_oneCell_toArray (row_one _ _ _)) ?_))
    exact bodyPost_ret (v:=(.agg (row .u32 16 (g)).toArray)) (results_row Tryz.results146 rfl (Has.all hz' .u32 g).range Tryz.underlying167 rfl (bwd_info g)) rfl ⟨by rw [← hf,← hpp],hB⟩
theorem bbegin_any (kl size:Nat) (hk:kl≤32) (hz:size≤32) (w:World) (hg:BGlob w) :
 Calls Tryz.prog 122 #[.int .i64 (kl:Int),.int .i64 (size:Int)] w fun e w'=>e=.returned (.agg (row .u32 8 (bh0 kl size)).toArray)∧Below w.heap.size w w':=by
 have K:=Kr.init w; replace K:=K.make 8 zu32_8 142 (w.heap.size) rfl (bst_zero _ _ _ rfl).there; replace K:=K.boxO .u32 8 (fun _=>0) (.cells zu32_8 142) (w.heap.size+1) (by simp) (bst_zero _ _ _ (by simp))
 go_enter Tryz.func122,Tryz.ntmps122
 go_upto_region 2 with fail; generalize ((w.alloc (.cells zu32_8 142)).alloc (.cells zu32_8 142))=w0 at K ⊢; go_wp2
 go_loopw [7] (fun i w'=>∃ (n:Nat) (f:Nat→Int),n≤8∧i=.int .i64 n∧Kr w (w.heap.size+1+1) [(w.heap.size+1,.u32,8,f)] [(w.heap.size,8)] w'∧∀ j,j<n→f j=iv j) (fun i _=>8-(intOf i).toNat)
 case atStart=>exact ⟨0,_,by omega,rfl,K,fun j hj=>by omega⟩
 case round =>
  clear K
  obtain ⟨n,f,hn,rfl,K,hd⟩:=hrel
  have g1:(0:Int)≤(n:Int):=by omega
  by_cases hlt:n<8
  · have g2:(n:Int)<8:=by omega
    go_upto_region 5 with fail; refine wp_region_list ?_; refine xpL (.int .i64 (n:Int)) ?_; refine xpL (.int .i64 (n:Int)) ?_; refine xqL (.pointer (some ⟨2,n,none⟩)) (fun w'=>ixV 2 n hlt w' _ _ rfl rfl rfl) ?_; refine cellL .u32 (.int .u32 (iv n)) 2 n 122 _ rfl rfl rfl Tryz.underlying122 ((hg.below K.below hg.size).first n hlt) ?_; simp only [aP,lI,l0,lS]
    refine xqL (.pointer (some ⟨w.heap.size+1,n,none⟩)) (fun w'=>ixS (w.heap.size+1) n hlt w' _ _ rfl rfl rfl) ?_
    refine storeL .u32 (iv n) (w.heap.size+1) n 122 _ _ rfl rfl rfl rfl (by rw [(K.get _ _ _ _ mS).cell n hlt]; rfl) ((K.get _ _ _ _ mS).free n hlt) (by kernel_rfl) ?_
    simp only [Act.put]; replace K:=K.setCell [] (w.heap.size+1) .u32 8 f n hlt (iv n) mS (fun _ hp=>by cases hp) (fun _ hp=>by cases hp) (by omega)
    have HS:=show Hid _ from (And.intro K (show ∀ j,j<n+1→upd f n (iv n) j=iv j from fun j hj=>by
     by_cases e:j=n
     · subst e; rw [upd_same]
     · rw [upd_other _ _ _ _ e]; exact hd j (by omega)))
    clear K hd; generalize wr.setCell ⟨w.heap.size+1,n,none⟩ (.int .u32 (iv n))=w4 at HS ⊢; generalize upd f n (iv n)=f' at HS
    show Exit.inBlock _ _ _ _ _
    go_wp2
    go_roundw
    case rel=>first | exact ⟨n+1,f',by omega,by go_num,HS.out⟩ | ((repeat apply Exists.intro); refine ⟨⟨n+1,f',by omega,by go_num,HS.out⟩,rfl⟩)
    case measure=>simp [intOf]; omega
  · obtain rfl:n=8:=by omega
    have i0:=iv_in 0 (by omega)
    have i1:0≤(16842752:Int)∧(16842752:Int)<V:=by decide
    have i2:0≤256*(kl:Int)∧256*(kl:Int)<V:=by simp only [V]; omega
    have i3:0≤(size:Int)∧(size:Int)<V:=by simp only [V]; omega
    have HX:hxr (f 0) (hxr (hxr 16842752 (256*(kl:Int))) (size:Int))=hxr (hxr (hxr (iv 0) 16842752) (256*(kl:Int))) (size:Int):=by
     rw [hd 0 (by omega),hxr_assoc (hxr (iv 0) 16842752) _ _ (hxr_in _ _ i0 i1) i2 i3,hxr_assoc (iv 0) _ _ i0 i1 (hxr_in _ _ i2 i3),hxr_assoc 16842752 _ _ i1 i2 i3]
    go_upto_region 7 with fail; refine wp_region_list ?_; refine xqL (.pointer (some ⟨w.heap.size+1,0,none⟩)) (fun w'=>ixS (w.heap.size+1) 0 (by decide) w' _ _ rfl rfl rfl) ?_; refine cellL .u32 (.int .u32 (f 0)) (w.heap.size+1) 0 122 _ rfl rfl rfl Tryz.underlying122 ((K.get _ _ _ _ mS).cell 0 (by decide)) ?_; simp only [aP,lI,l0,lS]; refine xpL (.int .i64 (kl:Int)) ?_
    refine xqL (.int .u32 (kl:Int)) (fun w=>convI .i64 .u32 _ _ _ _ _ rfl (by kernel_rfl) Tryz.underlying122 (by kernel_rfl) rfl (by rw [IntKind.wrap_u32']; omega) w) ?_
    refine xqL (.int .u32 (256*(kl:Int))) (fun w=>bshlI .u32 .u64 _ 8 _ _ _ _ _ rfl rfl rfl (by decide) (by rw [IntKind.wrap_u32',show (2:Int)^min (8:Int).toNat IntKind.u32.bits=256 from by decide]; omega) w) ?_
    refine xqL (.int .u32 (hxr 16842752 (256*(kl:Int)))) (fun w=>xorI .u32 _ _ _ _ _ _ _ rfl rfl rfl rfl w) ?_; refine xpL (.int .i64 (size:Int)) ?_; refine xqL (.int .u32 (size:Int)) (fun w=>convI .i64 .u32 _ _ _ _ _ rfl (by kernel_rfl) Tryz.underlying122 (by kernel_rfl) rfl (by rw [IntKind.wrap_u32']; omega) w) ?_
    refine xqL (.int .u32 (hxr (hxr 16842752 (256*(kl:Int))) (size:Int))) (fun w=>xorI .u32 _ _ _ _ _ _ _ rfl rfl rfl rfl w) ?_; refine xqL (.int .u32 (hxr (hxr (hxr (iv 0) 16842752) (256*(kl:Int))) (size:Int))) (fun w=>xorI .u32 _ _ _ _ _ _ _ rfl rfl rfl HX w) ?_
    refine xqL (.pointer (some ⟨w.heap.size+1,0,none⟩)) (fun w'=>ixS (w.heap.size+1) 0 (by decide) w' _ _ rfl rfl rfl) ?_
    refine storeL .u32 (hxr (hxr (hxr (iv 0) 16842752) (256*(kl:Int))) (size:Int)) (w.heap.size+1) 0 122 _ _ rfl rfl rfl rfl (by rw [(K.get _ _ _ _ mS).cell 0 (by decide)]; rfl) ((K.get _ _ _ _ mS).free 0 (by decide)) (by kernel_rfl) ?_
    simp only [Act.put]; replace K:=K.setCell [] (w.heap.size+1) .u32 8 f 0 (by decide) (hxr (hxr (hxr (iv 0) 16842752) (256*(kl:Int))) (size:Int)) mS (fun _ hp=>by cases hp) (fun _ hp=>by cases hp) (by omega)
    have HR:=(K.get _ _ _ _ mS).congr (g:=bh0 kl size) (fun j hj=>by
     unfold bh0
     by_cases e:j=0
     · subst e; rw [upd_same,upd_same]
     · rw [upd_other _ _ _ _ e,upd_other _ _ _ _ e]; exact hd j hj)
    generalize wr.setCell ⟨w.heap.size+1,0,none⟩ (.int .u32 (hxr (hxr (hxr (iv 0) 16842752) (256*(kl:Int))) (size:Int)))=w5 at K HR ⊢
    have hz':=(K.room _ mS).1
    have hB:=(K.fill _ _ mS (row .u32 8 (bh0 kl size))).below; clear K hd hlt hn g1 HX; generalize hf:bh0 kl size=g at *; show Exit.then _ _ _ _ _
    go_wp2_with (first | (refine wpList_load_mid rfl 142 _ rfl (w.heap.size+1) 0 rfl (row .u32 8 (g)) _ (Has.range (HR)) Tryz.underlying142 rfl (bst_info _) ?_) | (refine wpList_store_mid rfl 142 _ _ rfl (w.heap.size) 0 (row .u32 8 g).toArray rfl rfl (room_of hz') (bst_info' _) (all_oneCell_toArray (row_one _ _ _)) ?_))
    exact bodyPost_ret (v:=(.agg (row .u32 8 (g)).toArray)) (results_row Tryz.results122 rfl (Has.all hz' .u32 g).range Tryz.underlying142 rfl (bst_info g)) rfl ⟨rfl,hB⟩
theorem bout_over {h:Nat→Int} {n:Nat} {g:Nat→Int} (hd:∀ j,j<4*n→g j=bout h j) (j:Nat) (hj:j<4*(n+1)):over g (4*n) 4 (b32 (h n)) j=bout h j:=by
 unfold over
 by_cases e:4*n≤j∧j<4*n+4
 · rw [if_pos e]
   unfold bout
   rw [show j/4=n by omega,show j%4=j-4*n by omega]
 · rw [if_neg e]; exact hd j (by omega)
theorem bbytes_any (h:Nat→Int) (w:World) :
 Calls Tryz.prog 123 #[(.agg (row .u32 8 (h)).toArray)] w fun e w'=>e=.returned (.agg (row .u8 32 (bout h)).toArray)∧Below w.heap.size w w':=by
 have K:=Kr.init w; replace K:=K.box .u32 8 h 142 (w.heap.size) rfl; replace K:=K.make 32 zu8_32 23 (w.heap.size+1) (by simp) (key_zero _ _ _ (by simp)).there; replace K:=K.make 32 zu8_32 23 (w.heap.size+1+1) (by simp) (key_zero _ _ _ (by simp)).there; have H:=key_zero ((w.alloc (.cells (row .u32 8 h).toArray 142)).alloc (.cells zu8_32 23)) 23 (w.heap.size+1+1) (by simp)
 go_enter Tryz.func123,Tryz.ntmps123
 go_upto_region 2 with fail; generalize (((w.alloc (.cells (row .u32 8 h).toArray 142)).alloc (.cells zu8_32 23)).alloc (.cells zu8_32 23))=w0 at K H ⊢; go_wp2
 go_loopw [5] (fun i w'=>∃ (n:Nat) (g:Nat→Int),n≤8∧i=.int .i64 n∧Kr w (w.heap.size+1+1+1) [(w.heap.size,.u32,8,h)] [(w.heap.size+1+1,32),(w.heap.size+1,32)] w'∧Has w' (w.heap.size+1+1) .u8 32 g∧∀ j,j<4*n→g j=bout h j) (fun i _=>8-(intOf i).toNat)
 case atStart=>exact ⟨0,_,by omega,rfl,K,H,fun j hj=>by omega⟩
 case round =>
  clear K H
  obtain ⟨n,g,hn,rfl,K,H,hd⟩:=hrel
  have g1:(0:Int)≤(n:Int):=by omega
  by_cases hlt:n<8
  · have g2:(n:Int)<8:=by omega
    have HD:=show Hid _ from fun j hj=>bout_over hd j hj; clear hd; go_upto_region 5 with fail; refine wp_region_held_drew (S:=fun w'=>Kr w (w.heap.size+1+1+1) [(w.heap.size,.u32,8,h)] [(w.heap.size+1+1,32),(w.heap.size+1,32)] w') (by kernel_rfl) K.drew ?_; clear K; intro K; replace H:=H.drew; refine xpH 0 8 (.int .i64 (n:Int)) K ?_
    refine xqH 1 9 rfl (.int .i64 (4*(n:Int))) (fun w=>mulI .i64 4 (n:Int) _ _ _ _ _ rfl rfl rfl (by rw [xw6]; omega) w) K ?_; refine xqH 2 10 rfl (.slice (some ⟨w.heap.size+1+1,4*n,none⟩) (32-4*n) (32-4*n)) (fun w'=>cutOp _ _ _ _ _ _ rfl rfl rfl (bcut_key (w.heap.size+1+1) n hlt w')) K ?_; refine xpH 3 11 (.int .i64 (n:Int)) K ?_
    refine xqH 4 12 rfl (.pointer (some ⟨w.heap.size,n,none⟩)) (fun w'=>ixS (w.heap.size) n hlt w' _ _ rfl rfl rfl) K ?_; refine cellH (i:=5) (some 13) rfl .u32 (.int .u32 (h n)) (w.heap.size) n 122 _ rfl rfl rfl rfl (by kernel_rfl) (by kernel_rfl) (by kernel_rfl) (fun _ _ _ h=>h) Tryz.underlying122 K (fun _ h=>(h.get _ _ _ _ mS).cell n hlt) ?_; simp only [aP,lI,l0,lS]
    refine callH (i:=6) (some 14) rfl (by kernel_rfl) rfl rfl (fun _=>by kernel_rfl) (put32_any (w.heap.size+1+1) (4*n) 32 (32-4*n) (32-4*n) (by omega) g (h n) (by omega) _ H) ?_; rintro e w' ⟨rfl,rfl⟩; replace K:=K.poke (w.heap.size+1+1) 32 mS (4*n) (row .u8 4 (b32 (h n))); replace H:=H.part (4*n) 4 (by omega) (b32 (h n))
    refine ⟨_,rfl,K,?_⟩
    simp only [aP,lI,l0,lS]
    refine wpAnyH_done (by kernel_rfl) ?_ _
    have HS:=show Hid _ from (And.intro K (And.intro H HD.out)); clear K H HD; generalize (wr.drew.setCells (w.heap.size+1+1) (4*n) (row .u8 4 (b32 (h n))))=w6 at *; go_wp2
    go_roundw
    case rel=>first | exact ⟨n+1,_,by omega,by go_num,HS.out⟩ | ((repeat apply Exists.intro); refine ⟨⟨n+1,_,by omega,by go_num,HS.out⟩,rfl⟩)
    case measure=>simp [intOf]; omega
  · obtain rfl:n=8:=by omega
    have h1:=H.congr (g:=bout h) (fun j hj=>hd j (by omega)); have hz:=(K.room _ (mT _ mS)).1; have hB:=(K.fill _ _ (mT _ mS) (row .u8 32 (bout h))).below; clear K H hd hlt hn g1; generalize hf:bout h=f at *
    go_wp2_with (first | (refine wpList_load_mid rfl 23 _ rfl (w.heap.size+1+1) 0 rfl (row .u8 32 (f)) _ (Has.range (h1)) Tryz.underlying23 rfl (key_info _) ?_) | (refine wpList_store_mid rfl 23 _ _ rfl (w.heap.size+1) 0 (row .u8 32 f).toArray rfl rfl (room_of hz) (key_info' _) (all_oneCell_toArray (row_one _ _ _)) ?_))
    exact bodyPost_ret (v:=(.agg (row .u8 32 (f)).toArray)) (results_row Tryz.results123 rfl (Has.all hz .u8 _).range Tryz.underlying23 rfl (key_info _)) rfl ⟨rfl,hB⟩
theorem bspread_any (h:Nat→Int) (t:Int) (last:Bool) (w:World) (hg:BGlob w) :
 Calls Tryz.prog 163 #[(.agg (row .u32 8 (h)).toArray),.int .u64 t,.bool last] w fun e w'=>e=.returned (.agg (row .u32 16 (bst h t last)).toArray)∧Below w.heap.size w w':=by
 have K:=Kr.init w; replace K:=K.box .u32 8 h 142 (w.heap.size) rfl; replace K:=K.make 16 zu32_16 167 (w.heap.size+1) (by simp) (bwd_zero _ _ _ (by simp)).there; replace K:=K.boxO .u32 16 (fun _=>0) (.cells zu32_16 167) (w.heap.size+1+1) (by simp) (bwd_zero _ _ _ (by simp))
 go_enter Tryz.func163,Tryz.ntmps163
 go_upto_region 2 with fail; generalize (((w.alloc (.cells (row .u32 8 h).toArray 142)).alloc (.cells zu32_16 167)).alloc (.cells zu32_16 167))=w0 at K ⊢; go_wp2
 go_loopw [9] (fun i w'=>∃ (n:Nat) (f:Nat→Int),n≤8∧i=.int .i64 n∧Kr w (w.heap.size+1+1+1) [(w.heap.size+1+1,.u32,16,f),(w.heap.size,.u32,8,h)] [(w.heap.size+1,16)] w'∧∀ j,j<n→f j=h j∧f (j+8)=iv j) (fun i _=>8-(intOf i).toNat)
 case atStart=>exact ⟨0,_,by omega,rfl,K,fun j hj=>by omega⟩
 case round =>
  clear K
  obtain ⟨n,f,hn,rfl,K,hd⟩:=hrel
  have g1:(0:Int)≤(n:Int):=by omega
  by_cases hlt:n<8
  · have g2:(n:Int)<8:=by omega
    have l8:n<16:=by omega
    have l88:n+8<16:=by omega
    go_upto_region 5 with fail; have HR:=(K.get _ _ _ _ mS).drew; replace K:=K.loose [(w.heap.size,.u32,8,h)] (w.heap.size+1+1) .u32 16 f mS (fun p hp=>by obtain rfl:=xm1 hp; exact (mT _ mS)) (fun p hp=>by obtain rfl:=xm1 hp; simp only; omega) (by omega)
    refine wp_region_held_drew (S:=fun w'=>Kr w (w.heap.size+1+1+1) [(w.heap.size,.u32,8,h)] [(w.heap.size+1+1,16),(w.heap.size+1,16)] w') (by kernel_rfl) K.drew ?_; clear K; intro K; generalize wr.drew=w1 at K HR ⊢; refine xpH 0 12 (.int .i64 (n:Int)) K ?_; refine xpH 1 13 (.int .i64 (n:Int)) K ?_
    refine xqH 2 14 rfl (.int .i64 ((n+8:Nat):Int)) (fun w=>addI .i64 _ _ _ _ _ _ _ rfl rfl rfl (by rw [xw6]; omega) w) K ?_; refine xpH 3 15 (.int .i64 (n:Int)) K ?_; refine xqH 4 16 rfl (.pointer (some ⟨w.heap.size,n,none⟩)) (fun w'=>ixS (w.heap.size) n hlt w' _ _ rfl rfl rfl) K ?_
    refine cellH (i:=5) (some 17) rfl .u32 (.int .u32 (h n)) (w.heap.size) n 122 _ rfl rfl rfl rfl (by kernel_rfl) (by kernel_rfl) (by kernel_rfl) (fun _ _ _ h=>h) Tryz.underlying122 K (fun _ h=>(h.get _ _ _ _ mS).cell n hlt) ?_; simp only [aP,lI,l0,lS]; refine xpH 6 18 (.int .i64 (n:Int)) K ?_
    refine xqH 7 19 rfl (.pointer (some ⟨2,n,none⟩)) (fun w'=>ixV 2 n hlt w' _ _ rfl rfl rfl) K ?_; refine cellH (i:=8) (some 20) rfl .u32 (.int .u32 (iv n)) 2 n 122 _ rfl rfl rfl rfl (by kernel_rfl) (by kernel_rfl) (by kernel_rfl) (fun _ _ _ h=>h) Tryz.underlying122 K (fun _ h=>(hg.below h.below hg.size).first n hlt) ?_; simp only [aP,lI,l0,lS]
    refine xqH 9 21 rfl (.pointer (some ⟨w.heap.size+1+1,n,none⟩)) (fun w'=>ixW (w.heap.size+1+1) (n) l8 w' _ _ rfl rfl rfl) K ?_
    refine storeH (i:=10) none rfl .u32 (h n) (w.heap.size+1+1) (n) 122 _ _ (by kernel_rfl) rfl rfl rfl rfl rfl (by rw [HR.cell (n) l8]; rfl) (HR.free (n) l8) (by kernel_rfl) (K.poke (w.heap.size+1+1) 16 mS (n) [.int .u32 (h n)]) ?_
    simp only [Act.put]; replace K:=K.poke (w.heap.size+1+1) 16 mS (n) [.int .u32 (h n)]; replace HR:=HR.set (n) l8 (h n); refine xqH 11 22 rfl (.pointer (some ⟨w.heap.size+1+1,n+8,none⟩)) (fun w'=>ixW (w.heap.size+1+1) (n+8) l88 w' _ _ rfl rfl rfl) K ?_
    refine storeH (i:=12) none rfl .u32 (iv n) (w.heap.size+1+1) (n+8) 122 _ _ (by kernel_rfl) rfl rfl rfl rfl rfl (by rw [HR.cell (n+8) l88]; rfl) (HR.free (n+8) l88) (by kernel_rfl) (K.poke (w.heap.size+1+1) 16 mS (n+8) [.int .u32 (iv n)]) ?_
    simp only [Act.put]; replace K:=K.poke (w.heap.size+1+1) 16 mS (n+8) [.int .u32 (iv n)]; replace HR:=HR.set (n+8) l88 (iv n)
    refine wpAnyH_done (by kernel_rfl) ?_ _
    replace K:=K.settle [(w.heap.size+1,16)] (w.heap.size+1+1) .u32 16 (upd (upd f n (h n)) (n+8) (iv n)) mS (fun q hq=>mT _ hq) (fun q hq=>by obtain rfl:=xm1 hq; simp only; omega) HR
    have HS:=show Hid _ from (And.intro K (show ∀ j,j<n+1→(upd (upd f n (h n)) (n+8) (iv n)) j=h j∧(upd (upd f n (h n)) (n+8) (iv n)) (j+8)=iv j from fun j hj=>by
     by_cases e:j=n
     · subst e; rw [upd_other _ _ _ _ (show j≠j+8 by omega),upd_same,upd_same]; exact ⟨rfl,rfl⟩
     · rw [upd_other _ _ _ _ (show j≠n+8 by omega),upd_other _ _ _ _ e,upd_other _ _ _ _ (show j+8≠n+8 by omega),upd_other _ _ _ _ (show j+8≠n by omega)]; exact hd j (by omega)))
    clear K HR hd; generalize (upd (upd f n (h n)) (n+8) (iv n))=f' at HS; go_wp2
    go_roundw
    case rel=>first | exact ⟨n+1,f',by omega,by go_num,HS.out⟩ | ((repeat apply Exists.intro); refine ⟨⟨n+1,f',by omega,by go_num,HS.out⟩,rfl⟩)
    case measure=>simp [intOf]; omega
  · obtain rfl:n=8:=by omega
    have HR:=(K.get _ _ _ _ mS).congr (g:=app h 8 iv) (fun j hj=>by
     unfold app
     by_cases e:j<8
     · rw [if_pos e]; exact (hd j e).1
     · rw [if_neg e]; have:=(hd (j-8) (by omega)).2; rw [show j-8+8=j by omega] at this; exact this)
    replace K:=(K.loose [(w.heap.size,.u32,8,h)] (w.heap.size+1+1) .u32 16 f mS (fun p hp=>by obtain rfl:=xm1 hp; exact (mT _ mS)) (fun p hp=>by obtain rfl:=xm1 hp; simp only; omega) (by omega)).settle [(w.heap.size+1,16)] (w.heap.size+1+1) .u32 16 (app h 8 iv) mS (fun q hq=>mT _ hq) (fun q hq=>by obtain rfl:=xm1 hq; simp only; omega) HR; clear HR hd hlt hn g1
    go_upto_region 7 with fail; refine wp_region_list ?_; refine xqL (.pointer (some ⟨w.heap.size+1+1,12,none⟩)) (fun w'=>ixW (w.heap.size+1+1) 12 (by decide) w' _ _ rfl rfl rfl) ?_; refine cellL .u32 (.int .u32 (iv 4)) (w.heap.size+1+1) 12 122 _ rfl rfl rfl Tryz.underlying122 ((K.get _ _ _ _ mS).cell 12 (by decide)) ?_; simp only [aP,lI,l0,lS]; refine xpL (.int .u64 t) ?_
    refine xqL (.int .u32 (t%4294967296)) (fun w=>convI .u64 .u32 _ _ _ _ _ rfl (by kernel_rfl) Tryz.underlying122 (by kernel_rfl) rfl (IntKind.wrap_u32' _) w) ?_; refine xqL (.int .u32 (hxr (iv 4) (t%4294967296))) (fun w=>xorI .u32 _ _ _ _ _ _ _ rfl rfl rfl rfl w) ?_
    refine xqL (.pointer (some ⟨w.heap.size+1+1,12,none⟩)) (fun w'=>ixW (w.heap.size+1+1) 12 (by decide) w' _ _ rfl rfl rfl) ?_
    refine storeL .u32 (hxr (iv 4) (t%4294967296)) (w.heap.size+1+1) 12 122 _ _ rfl rfl rfl rfl (by rw [(K.get _ _ _ _ mS).cell 12 (by decide)]; rfl) ((K.get _ _ _ _ mS).free 12 (by decide)) (by kernel_rfl) ?_
    simp only [Act.put]; replace K:=K.setCell [(w.heap.size,.u32,8,h)] (w.heap.size+1+1) .u32 16 (app h 8 iv) 12 (by decide) (hxr (iv 4) (t%4294967296)) mS (fun p hp=>by obtain rfl:=xm1 hp; exact (mT _ mS)) (fun p hp=>by obtain rfl:=xm1 hp; simp only; omega) (by omega); generalize wr.setCell ⟨w.heap.size+1+1,12,none⟩ (.int .u32 (hxr (iv 4) (t%4294967296)))=w2 at K ⊢
    show Exit.then _ _ _ _ _; go_upto_region 8 with fail; refine wp_region_list ?_; refine xqL (.pointer (some ⟨w.heap.size+1+1,13,none⟩)) (fun w'=>ixW (w.heap.size+1+1) 13 (by decide) w' _ _ rfl rfl rfl) ?_; refine cellL .u32 (.int .u32 (iv 5)) (w.heap.size+1+1) 13 122 _ rfl rfl rfl Tryz.underlying122 ((K.get _ _ _ _ mS).cell 13 (by decide)) ?_; simp only [aP,lI,l0,lS]
    refine xpL (.int .u64 t) ?_; refine xqL (.int .u64 (t/4294967296)) (fun w=>shrI .u64 .u64 _ 32 _ _ _ _ _ rfl rfl rfl (by decide) rfl w) ?_; refine xqL (.int .u32 (t/4294967296%4294967296)) (fun w=>convI .u64 .u32 _ _ _ _ _ rfl (by kernel_rfl) Tryz.underlying122 (by kernel_rfl) rfl (IntKind.wrap_u32' _) w) ?_
    refine xqL (.int .u32 (hxr (iv 5) (t/4294967296%4294967296))) (fun w=>xorI .u32 _ _ _ _ _ _ _ rfl rfl rfl rfl w) ?_; refine xqL (.pointer (some ⟨w.heap.size+1+1,13,none⟩)) (fun w'=>ixW (w.heap.size+1+1) 13 (by decide) w' _ _ rfl rfl rfl) ?_
    refine storeL .u32 (hxr (iv 5) (t/4294967296%4294967296)) (w.heap.size+1+1) 13 122 _ _ rfl rfl rfl rfl (by rw [(K.get _ _ _ _ mS).cell 13 (by decide)]; rfl) ((K.get _ _ _ _ mS).free 13 (by decide)) (by kernel_rfl) ?_
    simp only [Act.put]; replace K:=K.setCell [(w.heap.size,.u32,8,h)] (w.heap.size+1+1) .u32 16 (upd (app h 8 iv) 12 (hxr (iv 4) (t%4294967296))) 13 (by decide) (hxr (iv 5) (t/4294967296%4294967296)) mS (fun p hp=>by obtain rfl:=xm1 hp; exact (mT _ mS)) (fun p hp=>by obtain rfl:=xm1 hp; simp only; omega) (by omega)
    generalize w2.setCell ⟨w.heap.size+1+1,13,none⟩ (.int .u32 (hxr (iv 5) (t/4294967296%4294967296)))=w3 at K ⊢; show Exit.then _ _ _ _ _; have hcon:=bst_of h t (upd (upd (app h 8 iv) 12 (hxr (iv 4) (t%4294967296))) 13 (hxr (iv 5) (t/4294967296%4294967296))) last (fun _=>rfl)
    cases last
    · have HR:=(K.get _ _ _ _ mS).congr (g:=bst h t false) hcon
      have hz':=(K.room _ mS).1
      have hB:=(K.fill _ _ mS (row .u32 16 (bst h t false))).below; clear K hcon; generalize hf:bst h t false=g at *
      go_wp2_with (first | (refine wpList_load_mid rfl 167 _ rfl (w.heap.size+1+1) 0 rfl (row .u32 16 (g)) _ (Has.range (HR)) Tryz.underlying167 rfl (bwd_info _) ?_) | (refine wpList_store_mid rfl 167 _ _ rfl (w.heap.size+1) 0 (row .u32 16 g).toArray rfl rfl (room_of hz') (bwd_info' _) (all_oneCell_toArray (row_one _ _ _)) ?_))
      exact bodyPost_ret (v:=(.agg (row .u32 16 (g)).toArray)) (results_row Tryz.results163 rfl (Has.all hz' .u32 g).range Tryz.underlying167 rfl (bwd_info g)) rfl ⟨rfl,hB⟩
    · go_upto_region 10 with fail
      refine wp_region_list ?_; refine xqL (.pointer (some ⟨w.heap.size+1+1,14,none⟩)) (fun w'=>ixW (w.heap.size+1+1) 14 (by decide) w' _ _ rfl rfl rfl) ?_; refine cellL .u32 (.int .u32 (iv 6)) (w.heap.size+1+1) 14 122 _ rfl rfl rfl Tryz.underlying122 ((K.get _ _ _ _ mS).cell 14 (by decide)) ?_; simp only [aP,lI,l0,lS]
      refine xqL (.int .u32 (4294967295-iv 6)) (fun w=>notI .u32 _ _ _ _ rfl rfl (by decide +kernel) w) ?_; refine xqL (.pointer (some ⟨w.heap.size+1+1,14,none⟩)) (fun w'=>ixW (w.heap.size+1+1) 14 (by decide) w' _ _ rfl rfl rfl) ?_
      refine storeL .u32 (4294967295-iv 6) (w.heap.size+1+1) 14 122 _ _ rfl rfl rfl rfl (by rw [(K.get _ _ _ _ mS).cell 14 (by decide)]; rfl) ((K.get _ _ _ _ mS).free 14 (by decide)) (by kernel_rfl) ?_
      simp only [Act.put]; replace K:=K.setCell [(w.heap.size,.u32,8,h)] (w.heap.size+1+1) .u32 16 (upd (upd (app h 8 iv) 12 (hxr (iv 4) (t%4294967296))) 13 (hxr (iv 5) (t/4294967296%4294967296))) 14 (by decide) (4294967295-iv 6) mS (fun p hp=>by obtain rfl:=xm1 hp; exact (mT _ mS)) (fun p hp=>by obtain rfl:=xm1 hp; simp only; omega) (by omega)
      generalize w3.setCell ⟨w.heap.size+1+1,14,none⟩ (.int .u32 (4294967295-iv 6))=w4 at K ⊢; show Exit.then _ _ _ _ _; have HR:=(K.get _ _ _ _ mS).congr (g:=bst h t true) hcon
      have hz':=(K.room _ mS).1
      have hB:=(K.fill _ _ mS (row .u32 16 (bst h t true))).below; clear K hcon; generalize hf:bst h t true=g at *
      go_wp2_with (first | (refine wpList_load_mid rfl 167 _ rfl (w.heap.size+1+1) 0 rfl (row .u32 16 (g)) _ (Has.range (HR)) Tryz.underlying167 rfl (bwd_info _) ?_) | (refine wpList_store_mid rfl 167 _ _ rfl (w.heap.size+1) 0 (row .u32 16 g).toArray rfl rfl (room_of hz') (bwd_info' _) (all_oneCell_toArray (row_one _ _ _)) ?_))
      exact bodyPost_ret (v:=(.agg (row .u32 16 (g)).toArray)) (results_row Tryz.results163 rfl (Has.all hz' .u32 g).range Tryz.underlying167 rfl (bwd_info g)) rfl ⟨rfl,hB⟩
section
def depB (md:Region.Mode) (ops:Array Oper) (i:Nat):Nat→Nat→Bool
 | 0,_=>false
 | f+1,c=>match ops[c]? with
   | none=>false
   | some oc=>oc.after.any fun e=>Region.binds md e&&(e.on == i || depB md ops i f e.on)
def Closed (md:Region.Mode) (ops:Array Oper) (l:Array Bool):Prop:=∀ j oj,ops[j]?=some oj→l.getD j false=true→∀ e∈oj.after,Region.binds md e=true→l.getD e.on false=true
def closedB (md:Region.Mode) (ops:Array Oper) (l:Array Bool):Bool:=(List.range ops.size).all fun j=>match ops[j]? with
 | none=>true
 | some oj=>!l.getD j false || oj.after.all fun e=>!Region.binds md e || l.getD e.on false
theorem closed_of {md:Region.Mode} {ops:Array Oper} {l:Array Bool} (h:closedB md ops l=true):Closed md ops l:=by
 intro j oj hj hl e he hb
 have hlt:j<ops.size:=(Array.getElem?_eq_some_iff.1 hj).1
 have h1:=List.all_eq_true.1 h j (List.mem_range.2 hlt)
 simp only [hj,hl,Bool.not_true,Bool.false_or] at h1
 have h2:=Array.all_eq_true'.1 h1 e he
 simpa only [hb,Bool.not_true,Bool.false_or] using h2
theorem listed_mono {l:Array Bool} {i j:Nat} (h:l.getD j false=true):(l.setIfInBounds i true).getD j false=true:=by
 rw [Array.getD_eq_getD_getElem?] at h ⊢
 by_cases e:i=j
 · subst e
   cases hc:l[i]? with
   | none=>rw [hc] at h; cases h
   | some b =>
     have hb:=(Array.getElem?_eq_some_iff.1 hc).1
     rw [Array.getElem?_setIfInBounds_self_of_lt hb]; rfl
 · rw [Array.getElem?_setIfInBounds_ne e]; exact h
theorem Closed.next {md:Region.Mode} {ops:Array Oper} {l:Array Bool} (h:Closed md ops l) {i:Nat} (hi:i∈Region.ready md ops l):Closed md ops (l.setIfInBounds i true):=by
 intro j oj hj hl e he hb
 by_cases hji:j=i
 · subst hji
   obtain ⟨_,o,ho,hall⟩:=mem_ready.1 hi
   obtain rfl:o=oj:=Option.some.inj (ho.symm.trans hj)
   exact listed_mono (hall e he hb)
 · rw [getD_set_ne false (Ne.symm hji)] at hl
   exact listed_mono (h j oj hj hl e he hb)
theorem dep_listed {md:Region.Mode} {ops:Array Oper} {l:Array Bool} {i:Nat} (h:Closed md ops l):∀ (f c:Nat),(∀ oc,ops[c]?=some oc→∀ e∈oc.after,Region.binds md e=true→l.getD e.on false=true)→depB md ops i f c=true→l.getD i false=true
 | 0,_,_,hd=>by cases hd
 | f+1,c,hc,hd=>by
   unfold depB at hd
   cases ho:ops[c]? with
   | none=>rw [ho] at hd; cases hd
   | some oc =>
     rw [ho] at hd
     obtain ⟨e,he,hb⟩:=Array.any_eq_true'.1 hd
     simp only [xbA,Bool.or_eq_true,beq_iff_eq] at hb
     have hl:=hc oc ho e he hb.1
     rcases hb.2 with h1 | h1
     · rw [← h1]; exact hl
     · exact dep_listed h f e.on (fun o2 ho2 e2 he2 hb2=>h e.on o2 ho2 hl e2 he2 hb2) h1
section
variable {P:Program} {ops:Array Oper} {Q:Exit→Act→World→Prop} {md:Region.Mode} {S:World→Prop} {c:Nat}
theorem wpAnyC_firstT {i f:Nat} {oi:Oper} {v:Value} (hi:ops[i]?=some oi) (hdep:depB md ops i f c=true) (hsel:∀ (j:Nat) (o:Oper) cs b,ops[j]?=some o→o.op≠.select cs b)
 (hQ:∀ p a w,Q (.panic p) (a.put oi.dst v) w→Q (.panic p) a w):∀ (n:Nat) (l:Array Bool) (a:Act) (w:World),
  Closed md ops l→(∀ j oj,ops[j]?=some oj→j≠i→l.getD j true=false→(∀ e∈oj.after,Region.binds md e=true→e.on≠i)→oi.apart ops oj=true) →
  l.getD c true=false→i∈Region.ready md ops l→YieldsIf P ops S oi v a→S w →
  wpAnyC P md ops Q S c n (l.setIfInBounds i true) (a.put oi.dst v) w→wpAnyC P md ops Q S c (n+1) l a w:=by
 have waits:∀ (l:Array Bool) (j:Nat),Closed md ops l→i∈Region.ready md ops l→j∈Region.ready md ops l→j≠c:=fun l j hcl hr hj e=>by
  subst e
  obtain ⟨_,o,ho,hall⟩:=mem_ready.1 hj
  exact not_both (mem_ready.1 hr).1 (dep_listed hcl f j (fun oc hoc=>by obtain rfl:o=oc:=Option.some.inj (ho.symm.trans hoc); exact hall) hdep)
 intro n
 induction n with
 | zero =>
   intro l a w _ _ _ hr hy hS H
   refine ⟨fun h=>(by rw [h] at hr; cases hr),fun j hj=>?_⟩
   by_cases hji:j=i
   · subst hji; exact hy.wpOp hi hS ⟨fun _=>hS,H⟩
   · have:=ready_mono hj hji
     rw [H.1] at this
     cases this
 | succ n ih =>
   intro l a w hcl hfree hlc hr hy hS H
   refine ⟨fun h=>(by rw [h] at hr; cases hr),fun j hj=>?_⟩
   by_cases hji:j=i
   · subst hji; exact hy.wpOp hi hS ⟨fun _=>hS,H⟩
   · have hjc:=waits l j hcl hr hj
     have hic:=waits l i hcl hr hr
     obtain ⟨hjun,oj,hoj,hall⟩:=mem_ready.1 hj
     have hnot:∀ e∈oj.after,Region.binds md e=true→e.on≠i:=fun e he hb heq=>not_both (mem_ready.1 hr).1 (by rw [← heq]; exact hall e he hb)
     have h2:=wpOp_putIf hoj (hfree j oj hoj hji hjun hnot) (fun cs b=>hsel i oi cs b hi) (fun cs b=>hsel j oj cs b hoj) hQ hy (H.2 j (ready_mono hj hji))
     have hfree':∀ k ok,ops[k]?=some ok→k≠i→(l.setIfInBounds j true).getD k true=false→(∀ e∈ok.after,Region.binds md e=true→e.on≠i)→oi.apart ops ok=true:=fun k ok hk hki hun hno=>by
      refine hfree k ok hk hki ?_ hno
      by_cases hjk:j=k
      · subst hjk; exact hjun
      · rw [getD_set_ne true hjk] at hun; exact hun
     refine wpOp_mono (fun a' w' h3=>?_) h2
     have hS':S w':=h3.2.1 (by rw [getD_set_ne true hjc,getD_set_ne true hic]; exact hlc)
     refine ⟨fun _=>hS',ih (l.setIfInBounds j true) a' w' (hcl.next hj) hfree' (by rw [getD_set_ne true hjc]; exact hlc) (ready_mono hr (Ne.symm hji)) h3.1 hS' ?_⟩
     rw [Array.setIfInBounds_comm _ _ hji]
     exact h3.2.2
theorem cellCT {i:Nat} (f:Nat) {oi:Oper} (dst:Option Tmp) (hdst:oi.dst=dst) {n:Nat} {l:Array Bool} {a:Act} {w:World} (k:IntKind) (v:Value) (b o:Nat) (ty:TypeId) (x:Operand) (hi:ops[i]?=some oi) (hdep:depB md ops i f c=true) (hcl:closedB md ops l=true)
 (ho:oi.op=.load ty x) (hx:a.eval x=.pointer (some ⟨b,o,none⟩)) (hw:Region.wanted oi (yielded ops a.tmps)=true)
 (hs:Region.noSelect ops=true) (hf:Region.free md ops l i=true) (hl:l.getD c true=false) (hr:(Region.ready md ops l).contains i=true)
 (hQ:∀ p a w,Q (.panic p) (a.put dst v) w→Q (.panic p) a w) (hu:P.underlying ty=some (.int k))
 (hS:S w) (hh:∀ w,S w→w.cell? ⟨b,o,none⟩=some v)
 (h:wpAnyC P md ops Q S c n (l.setIfInBounds i true) (a.put dst v) w):wpAnyC P md ops Q S c (n+1) l a w:=by
 subst hdst
 refine wpAnyC_firstT hi hdep (Region.noSelect_spec hs) hQ n l a w (closed_of hcl) (Region.free_spec hi hf) hl (by simpa using hr) (.inl ⟨hw,fun w hSw=>?_⟩) hS h
 unfold execOp
 simp only [ho,hx,Instr.loadAt,Instr.sureAddr,Sem.run_bind,Sem.run_pure,Result.andThen_ok,run_loadVar_cell w b o ty k v (hh w hSw) hu]
end
end
theorem bmix_any (a b c d x y:Int) (w:World) :
 Calls Tryz.prog 164 #[.int .u32 a,.int .u32 b,.int .u32 c,.int .u32 d,.int .u32 x,.int .u32 y] w fun e w'=>e=.returned (.tuple #[.int .u32 (bA a b c d x y),.int .u32 (bB a b c d x y),.int .u32 (bC a b c d x y),.int .u32 (bD a b c d x y)])∧w'=w:=by
 go_enter Tryz.func164,Tryz.ntmps164
 go_wp2_with fail
 refine (rotR_any (-16) 16 (.inl ⟨rfl,rfl⟩) _ _).mono ?_; rintro e w16 ⟨rfl,rfl⟩
 go_wp2_with fail
 refine (rotR_any (-12) 20 (.inr (.inl ⟨rfl,rfl⟩)) _ _).mono ?_; rintro e w12 ⟨rfl,rfl⟩
 go_wp2_with fail
 refine (rotR_any (-8) 24 (.inr (.inr (.inl ⟨rfl,rfl⟩))) _ _).mono ?_; rintro e w8 ⟨rfl,rfl⟩
 go_wp2_with fail
 refine (rotR_any (-7) 25 (.inr (.inr (.inr ⟨rfl,rfl⟩))) _ _).mono ?_; rintro e w7 ⟨rfl,rfl⟩
 go_wp2_with fail
 exact bodyPost_ret (results_four Tryz.results164 rfl rfl rfl rfl) rfl ⟨by simp only [bA,bB,bC,bD,bA1,bB1,bC1,bD1,mA,mD,hxr,had,Int.emod_add_emod,Int.add_assoc]; rfl,rfl⟩
end Go.Proofs.YtklnibmfpcmeeaaGreatDoor
