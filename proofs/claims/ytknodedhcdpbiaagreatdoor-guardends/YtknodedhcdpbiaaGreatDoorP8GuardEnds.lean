/- Texts of Bd Bc Bf Hy Bq Be Bh Bz Zr, joined. -/
import Derived.Test.YtknodedhcdpbiaaGreatDoorP4GuardEnds
import Derived.Lib.AppendZerosOnto
import Derived.Deep.DeepAppendWide
set_option maxRecDepth 20000
set_option maxHeartbeats 64000000
namespace Go.Proofs.YtknodedhcdpbiaaGreatDoor
open Go.RowKit
def BHashOK:Prop:=∀ (sp:Option Addr) (len cap:Nat),len≤140737488355072→len≤cap→(sp=none→cap=0)→∀ z:Nat→Int,In 256 len z→∀ w:World,BGlob w→Src w sp len z →
 Calls Tryz.prog 98 #[.slice sp len cap] w fun e w'=>e=.returned (.agg (row .u8 32 (bhash len z)).toArray)∧Below w.heap.size w w'
def BMacOK:Prop:=∀ (kp:Option Addr) (kl kc:Nat),kl≤140737488355072→kl≤kc→(kp=none→kc=0)→∀ key:Nat→Int,In 256 kl key→∀ (sp:Option Addr) (len cap:Nat),len≤140737488354816→len≤cap→(sp=none→cap=0)→∀ z:Nat→Int,In 256 len z→∀ w:World,BGlob w→Src w kp kl key→Src w sp len z →
 Calls Tryz.prog 83 #[.slice kp kl kc,.slice sp len cap] w fun e w'=>e=.returned (.agg (row .u8 32 (bmac kl key len z)).toArray)∧Below w.heap.size w w'
theorem bst_info (f:Nat→Int):(Tryz.prog.info? 171).map (·.size)=some (row .u32 8 f).length:=by rw [row_length]; kernel_rfl
theorem bst_info' (f:Nat→Int):(Tryz.prog.info? 171).map (·.size)=some (row .u32 8 f).toArray.size:=by rw [List.size_toArray]; exact bst_info f
theorem bst_there {w:World} {b:Nat} {f g:Nat→Int} (h:Has w b .u32 8 f):w.there b 0 (row .u32 8 g).toArray.size:=by rw [List.size_toArray,row_length]; exact h.there
theorem bst_zero (w:World) (t:TypeId) (b:Nat) (hb:b=w.heap.size):Has (w.alloc (.cells zu32_8 t)) b .u32 8 (fun _=>0):=Has.new w .u32 8 (fun _=>0) t b hb
theorem bwd_info (f:Nat→Int):(Tryz.prog.info? 124).map (·.size)=some (row .u32 16 f).length:=by rw [row_length]; kernel_rfl
theorem bwd_info' (f:Nat→Int):(Tryz.prog.info? 124).map (·.size)=some (row .u32 16 f).toArray.size:=by rw [List.size_toArray]; exact bwd_info f
theorem bwd_zero (w:World) (t:TypeId) (b:Nat) (hb:b=w.heap.size):Has (w.alloc (.cells zu32_16 t)) b .u32 16 (fun _=>0):=Has.new w .u32 16 (fun _=>0) t b hb
theorem bpc_zero (w:World) (t:TypeId) (b:Nat) (hb:b=w.heap.size):Has (w.alloc (.cells zu8_64 t)) b .u8 64 (fun _=>0):=Has.new w .u8 64 (fun _=>0) t b hb
theorem ixS (b i:Nat) (hi:i<8) (w:World) {o:Oper} {a:Act} (x y:Operand) (ho:o.op=.indexAddr 171 x y) (hx:a.eval x=.pointer (some ⟨b,0,none⟩)) (hy:a.eval y=.int .i64 (i:Int)) :
 (execOp a.eval o).run Tryz.prog w=.ok (.value (.pointer (some ⟨b,i,none⟩))) w:=by
 have h:=idxArr (P:=Tryz.prog) 171 87 8 .i64 b 0 i x y Tryz.underlying171 (fun _=>by kernel_rfl) hi ho hx hy w
 rw [Nat.zero_add] at h
 exact h
theorem ixW (b i:Nat) (hi:i<16) (w:World) {o:Oper} {a:Act} (x y:Operand) (ho:o.op=.indexAddr 124 x y) (hx:a.eval x=.pointer (some ⟨b,0,none⟩)) (hy:a.eval y=.int .i64 (i:Int)) :
 (execOp a.eval o).run Tryz.prog w=.ok (.value (.pointer (some ⟨b,i,none⟩))) w:=by
 have h:=idxArr (P:=Tryz.prog) 124 87 16 .i64 b 0 i x y Tryz.underlying124 (fun _=>by kernel_rfl) hi ho hx hy w
 rw [Nat.zero_add] at h
 exact h
theorem ixWb (b i:Nat) (hi:i<16) (w:World) {o:Oper} {a:Act} (x y:Operand) (ho:o.op=.indexAddr 124 x y) (hx:a.eval x=.pointer (some ⟨b,0,none⟩)) (hy:a.eval y=.int .u8 (i:Int)) :
 (execOp a.eval o).run Tryz.prog w=.ok (.value (.pointer (some ⟨b,i,none⟩))) w:=by
 have h:=idxArr (P:=Tryz.prog) 124 87 16 .u8 b 0 i x y Tryz.underlying124 (fun _=>by kernel_rfl) hi ho hx hy w
 rw [Nat.zero_add] at h
 exact h
theorem ixV (b i:Nat) (hi:i<8) (w:World) {o:Oper} {a:Act} (x y:Operand) (ho:o.op=.indexAddr 170 x y) (hx:a.eval x=.pointer (some ⟨b,0,none⟩)) (hy:a.eval y=.int .i64 (i:Int)) :
 (execOp a.eval o).run Tryz.prog w=.ok (.value (.pointer (some ⟨b,i,none⟩))) w:=by
 have h:=idxArr (P:=Tryz.prog) 170 87 8 .i64 b 0 i x y Tryz.underlying170 (fun _=>by kernel_rfl) hi ho hx hy w
 rw [Nat.zero_add] at h
 exact h
theorem bcut_64 (b k:Nat) (hk:k<16) (w:World):(Instr.sliceAt 104 (.pointer (some ⟨b,0,none⟩)) (some (.int .i64 (4*(k:Int)))) none none).run Tryz.prog w=.ok (.slice (some ⟨b,4*k,none⟩) (64-4*k) (64-4*k)) w:=by
 have hl:Tryz.prog.arrayLen 104=64:=by kernel_rfl
 have hs:∀ w,(sizeOf (Tryz.prog.elem 104)).run Tryz.prog w=.ok 1 w:=fun w=>by kernel_rfl
 rw [run_sliceAt_array_l w 104 ⟨b,0,none⟩ (by kernel_rfl) .i64 _ (by omega) (by rw [hl]; omega),hs,hl]
 simp only [Result.andThen,slicedAt]
 have e1:(4*(k:Int)).toNat=4*k:=by omega
 rw [e1,if_neg (by omega),Addr.add_mid,Nat.zero_add,Nat.mul_one]
theorem bcut_key (b k:Nat) (hk:k<8) (w:World):(Instr.sliceAt 23 (.pointer (some ⟨b,0,none⟩)) (some (.int .i64 (4*(k:Int)))) none none).run Tryz.prog w=.ok (.slice (some ⟨b,4*k,none⟩) (32-4*k) (32-4*k)) w:=by
 have hl:Tryz.prog.arrayLen 23=32:=by kernel_rfl
 have hs:∀ w,(sizeOf (Tryz.prog.elem 23)).run Tryz.prog w=.ok 1 w:=fun w=>by kernel_rfl
 rw [run_sliceAt_array_l w 23 ⟨b,0,none⟩ (by kernel_rfl) .i64 _ (by omega) (by rw [hl]; omega),hs,hl]
 simp only [Result.andThen,slicedAt]
 have e1:(4*(k:Int)).toNat=4*k:=by omega
 rw [e1,if_neg (by omega),Addr.add_mid,Nat.zero_add,Nat.mul_one]
theorem hxr_assoc (a b c:Int) (ha:0≤a∧a<V) (hb:0≤b∧b<V) (hc:0≤c∧c<V):hxr (hxr a b) c=hxr a (hxr b c):=by
 obtain ⟨a,rfl⟩:=xiN ha.1
 obtain ⟨b,rfl⟩:=xiN hb.1
 obtain ⟨c,rfl⟩:=xiN hc.1
 have a2:=ha.2; have b2:=hb.2; have c2:=hc.2
 simp only [V] at a2 b2 c2
 have h1:a ^^^ b<2^32:=Nat.xor_lt_two_pow (by omega) (by omega)
 have h2:b ^^^ c<2^32:=Nat.xor_lt_two_pow (by omega) (by omega)
 unfold hxr
 rw [u32_xor_nat a b (by omega) (by omega),u32_xor_nat b c (by omega) (by omega),u32_xor_nat _ c (by omega) (by omega),u32_xor_nat a _ (by omega) (by omega),Nat.xor_assoc]
theorem bload_any (sp:Option Addr) (len cap:Nat) (hlen:len≤64) (z:Nat→Int) (hz:In 256 len z) (w:World) (hs:Src w sp len z) :
 Calls Tryz.prog 114 #[.slice sp len cap] w fun e w'=>e=.returned (.agg (row .u32 16 (bpw (padz len z))).toArray)∧Below w.heap.size w w':=by
 have K:=Kr.init w; replace K:=K.make 16 zu32_16 124 (w.heap.size) rfl (bwd_zero _ _ _ rfl).there; replace K:=K.boxO .u8 64 (fun _=>0) (.cells zu8_64 104) (w.heap.size+1) (by simp) (bpc_zero _ _ _ (by simp))
 go_enter Tryz.func114,Tryz.ntmps114
 go_upto_region 2 with fail; generalize ((w.alloc (.cells zu32_16 124)).alloc (.cells zu8_64 104))=w0 at K ⊢; have HR:=K.get _ _ _ _ mS; replace K:=K.loose [] (w.heap.size+1) .u8 64 (fun _=>0) mS (fun _ hp=>by cases hp) (fun _ hp=>by cases hp) (by omega); refine wp_region_list ?_; refine xpL (.slice (some ⟨w.heap.size+1,0,none⟩) 64 64) ?_; refine xpL (.slice sp len cap) ?_
 refine xaL (.int .i64 (len:Int)) (run_copy_src _ _ 29 29 5 rfl Tryz.underlying29 (by kernel_rfl) (w.heap.size+1) 64 64 len cap 64 sp z rfl rfl hlen hlen HR.there (hs.below K.below (xnR _))) ?_; replace K:=K.fill (w.heap.size+1) 64 mS (row .u8 len z)
 replace HR:=(HR.part 0 len (by omega) z).congr (g:=padz len z) (fun j hj=>by
  unfold over padz
  by_cases e:j<len
  · rw [if_pos (by omega),if_pos e,Nat.sub_zero]
  · rw [if_neg (by omega),if_neg e])
 replace K:=K.settle [(w.heap.size,16)] (w.heap.size+1) .u8 64 (padz len z) mS (fun q hq=>mT _ hq) (fun q hq=>by obtain rfl:=xm1 hq; simp only; omega) HR; generalize w0.setCells (w.heap.size+1) 0 (row .u8 len z)=w1 at K ⊢; clear HR w0 hs; show Exit.then _ _ _ _ _; go_upto_region 3 with fail; have zX:=K.size
 replace K:=K.boxO .u32 16 (fun _=>0) (.cells zu32_16 124) w1.heap.size rfl (bwd_zero _ _ _ rfl); go_upto_region 4 with fail; generalize hw:w1.alloc (.cells zu32_16 124)=w2 at K ⊢; clear hw; generalize w1.heap.size=X at *; have hp:=padz_in len z hz 64; generalize hpp:padz len z=p at *; go_wp2
 go_loopw [9] (fun i w'=>∃ (n:Nat) (f:Nat→Int),n≤16∧i=.int .i64 n∧Kr w (X+1) [(X,.u32,16,f),(w.heap.size+1,.u8,64,p)] [(w.heap.size,16)] w'∧∀ j,j<n→f j=bpw p j) (fun i _=>16-(intOf i).toNat)
 case atStart=>exact ⟨0,_,by omega,rfl,K,fun j hj=>by omega⟩
 case round =>
  clear K
  obtain ⟨n,f,hn,rfl,K,hd⟩:=hrel
  have g1:(0:Int)≤(n:Int):=by omega
  by_cases hlt:n<16
  · have g2:(n:Int)<16:=by omega
    go_upto_region 7 with fail; refine wp_region_list ?_; refine xpL (.int .i64 (n:Int)) ?_; refine xpL (.int .i64 (n:Int)) ?_; refine xqL (.int .i64 (4*(n:Int))) (fun w=>mulI .i64 4 (n:Int) _ _ _ _ _ rfl rfl rfl (by rw [xw6]; omega) w) ?_
    refine xqL (.slice (some ⟨w.heap.size+1,4*n,none⟩) (64-4*n) (64-4*n)) (fun w'=>cutOp _ _ _ _ _ _ rfl rfl rfl (bcut_64 (w.heap.size+1) n hlt w')) ?_; refine xcL (of32_any (w.heap.size+1) (4*n) 64 (64-4*n) (64-4*n) p (by omega) (by omega) hp _ (K.get _ _ _ _ (mT _ mS))) ?_; rintro e w3 ⟨q,rfl,rfl⟩; replace K:=K.drewN (q:=q); refine xeL ?_
    refine xqL (.pointer (some ⟨X,n,none⟩)) (fun w'=>ixW X n hlt w' _ _ rfl rfl rfl) ?_
    refine storeL .u32 (w32 p (4*n)) X n 87 _ _ rfl rfl rfl rfl (by rw [(K.get _ _ _ _ mS).cell n hlt]; rfl) ((K.get _ _ _ _ mS).free n hlt) (by kernel_rfl) ?_
    simp only [Act.put]; replace K:=K.setCell [(w.heap.size+1,.u8,64,p)] X .u32 16 f n hlt (w32 p (4*n)) mS (fun p hp=>by obtain rfl:=xm1 hp; exact (mT _ mS)) (fun p hp=>by obtain rfl:=xm1 hp; simp only; omega) (by omega)
    have HS:=show Hid _ from (And.intro K (show ∀ j,j<n+1→upd f n (w32 p (4*n)) j=bpw p j from fun j hj=>by
     by_cases e:j=n
     · subst e; rw [upd_same]; rfl
     · rw [upd_other _ _ _ _ e]; exact hd j (by omega)))
    clear K hd; generalize (wr.drewN q).setCell ⟨X,n,none⟩ (.int .u32 (w32 p (4*n)))=w4 at HS ⊢; generalize upd f n (w32 p (4*n))=f' at HS
    show Exit.inBlock _ _ _ _ _
    go_wp2
    go_roundw
    case rel=>first | exact ⟨n+1,f',by omega,by go_num,HS.out⟩ | ((repeat apply Exists.intro); refine ⟨⟨n+1,f',by omega,by go_num,HS.out⟩,rfl⟩)
    case measure=>simp [intOf]; omega
  · obtain rfl:n=16:=by omega
    have HR:=(K.get _ _ _ _ mS).congr (g:=bpw p) (fun j hj=>hd j hj)
    have hz':=(K.room _ mS).1
    have hB:=(K.fill _ _ mS (row .u32 16 (bpw p))).below; clear K hd hlt hn g1; generalize hf:bpw p=g at *
    go_wp2_with (first | (refine wpList_load_mid rfl 124 _ rfl (X) 0 rfl (row .u32 16 (g)) _ (Has.range (HR)) Tryz.underlying124 rfl (bwd_info _) ?_) | (refine wpList_store_mid rfl 124 _ _ rfl (w.heap.size) 0 (row .u32 16 g).toArray rfl rfl (room_of hz') (bwd_info' _) (all_oneCell_toArray (row_one _ _ _)) ?_))
    exact bodyPost_ret (v:=(.agg (row .u32 16 (g)).toArray)) (results_row Tryz.results114 rfl (Has.all hz' .u32 g).range Tryz.underlying124 rfl (bwd_info g)) rfl ⟨by rw [← hf,← hpp],hB⟩
theorem bbegin_any (kl size:Nat) (hk:kl≤32) (hz:size≤32) (w:World) (hg:BGlob w) :
 Calls Tryz.prog 109 #[.int .i64 (kl:Int),.int .i64 (size:Int)] w fun e w'=>e=.returned (.agg (row .u32 8 (bh0 kl size)).toArray)∧Below w.heap.size w w':=by
 have K:=Kr.init w; replace K:=K.make 8 zu32_8 171 (w.heap.size) rfl (bst_zero _ _ _ rfl).there; replace K:=K.boxO .u32 8 (fun _=>0) (.cells zu32_8 171) (w.heap.size+1) (by simp) (bst_zero _ _ _ (by simp))
 go_enter Tryz.func109,Tryz.ntmps109
 go_upto_region 2 with fail; generalize ((w.alloc (.cells zu32_8 171)).alloc (.cells zu32_8 171))=w0 at K ⊢; go_wp2
 go_loopw [7] (fun i w'=>∃ (n:Nat) (f:Nat→Int),n≤8∧i=.int .i64 n∧Kr w (w.heap.size+1+1) [(w.heap.size+1,.u32,8,f)] [(w.heap.size,8)] w'∧∀ j,j<n→f j=iv j) (fun i _=>8-(intOf i).toNat)
 case atStart=>exact ⟨0,_,by omega,rfl,K,fun j hj=>by omega⟩
 case round =>
  clear K
  obtain ⟨n,f,hn,rfl,K,hd⟩:=hrel
  have g1:(0:Int)≤(n:Int):=by omega
  by_cases hlt:n<8
  · have g2:(n:Int)<8:=by omega
    go_upto_region 5 with fail; refine wp_region_list ?_; refine xpL (.int .i64 (n:Int)) ?_; refine xpL (.int .i64 (n:Int)) ?_; refine xqL (.pointer (some ⟨5,n,none⟩)) (fun w'=>ixV 5 n hlt w' _ _ rfl rfl rfl) ?_; refine cellL .u32 (.int .u32 (iv n)) 5 n 87 _ rfl rfl rfl Tryz.underlying87 ((hg.below K.below hg.size).first n hlt) ?_; simp only [aP,lI,l0,lS]
    refine xqL (.pointer (some ⟨w.heap.size+1,n,none⟩)) (fun w'=>ixS (w.heap.size+1) n hlt w' _ _ rfl rfl rfl) ?_
    refine storeL .u32 (iv n) (w.heap.size+1) n 87 _ _ rfl rfl rfl rfl (by rw [(K.get _ _ _ _ mS).cell n hlt]; rfl) ((K.get _ _ _ _ mS).free n hlt) (by kernel_rfl) ?_
    simp only [Act.put]; replace K:=K.setCell [] (w.heap.size+1) .u32 8 f n hlt (iv n) mS (fun _ hp=>by cases hp) (fun _ hp=>by cases hp) (by omega)
    have HS:=show Hid _ from (And.intro K (show ∀ j,j<n+1→upd f n (iv n) j=iv j from fun j hj=>by
     by_cases e:j=n
     · subst e; rw [upd_same]
     · rw [upd_other _ _ _ _ e]; exact hd j (by omega)))
    clear K hd; generalize wr.setCell ⟨w.heap.size+1,n,none⟩ (.int .u32 (iv n))=w4 at HS ⊢; generalize upd f n (iv n)=f' at HS
    show Exit.inBlock _ _ _ _ _
    go_wp2
    go_roundw
    case rel=>first | exact ⟨n+1,f',by omega,by go_num,HS.out⟩ | ((repeat apply Exists.intro); refine ⟨⟨n+1,f',by omega,by go_num,HS.out⟩,rfl⟩)
    case measure=>simp [intOf]; omega
  · obtain rfl:n=8:=by omega
    have i0:=iv_in 0 (by omega)
    have i1:0≤(16842752:Int)∧(16842752:Int)<V:=by decide
    have i2:0≤256*(kl:Int)∧256*(kl:Int)<V:=by simp only [V]; omega
    have i3:0≤(size:Int)∧(size:Int)<V:=by simp only [V]; omega
    have HX:hxr (f 0) (hxr (hxr 16842752 (256*(kl:Int))) (size:Int))=hxr (hxr (hxr (iv 0) 16842752) (256*(kl:Int))) (size:Int):=by
     rw [hd 0 (by omega),hxr_assoc (hxr (iv 0) 16842752) _ _ (hxr_in _ _ i0 i1) i2 i3,hxr_assoc (iv 0) _ _ i0 i1 (hxr_in _ _ i2 i3),hxr_assoc 16842752 _ _ i1 i2 i3]
    go_upto_region 7 with fail; refine wp_region_list ?_; refine xqL (.pointer (some ⟨w.heap.size+1,0,none⟩)) (fun w'=>ixS (w.heap.size+1) 0 (by decide) w' _ _ rfl rfl rfl) ?_; refine cellL .u32 (.int .u32 (f 0)) (w.heap.size+1) 0 87 _ rfl rfl rfl Tryz.underlying87 ((K.get _ _ _ _ mS).cell 0 (by decide)) ?_; simp only [aP,lI,l0,lS]; refine xpL (.int .i64 (kl:Int)) ?_
    refine xqL (.int .u32 (kl:Int)) (fun w=>convI .i64 .u32 _ _ _ _ _ rfl (by kernel_rfl) Tryz.underlying87 (by kernel_rfl) rfl (by rw [IntKind.wrap_u32']; omega) w) ?_
    refine xqL (.int .u32 (256*(kl:Int))) (fun w=>bshlI .u32 .u64 _ 8 _ _ _ _ _ rfl rfl rfl (by decide) (by rw [IntKind.wrap_u32',show (2:Int)^min (8:Int).toNat IntKind.u32.bits=256 from by decide]; omega) w) ?_
    refine xqL (.int .u32 (hxr 16842752 (256*(kl:Int)))) (fun w=>xorI .u32 _ _ _ _ _ _ _ rfl rfl rfl rfl w) ?_; refine xpL (.int .i64 (size:Int)) ?_; refine xqL (.int .u32 (size:Int)) (fun w=>convI .i64 .u32 _ _ _ _ _ rfl (by kernel_rfl) Tryz.underlying87 (by kernel_rfl) rfl (by rw [IntKind.wrap_u32']; omega) w) ?_
    refine xqL (.int .u32 (hxr (hxr 16842752 (256*(kl:Int))) (size:Int))) (fun w=>xorI .u32 _ _ _ _ _ _ _ rfl rfl rfl rfl w) ?_; refine xqL (.int .u32 (hxr (hxr (hxr (iv 0) 16842752) (256*(kl:Int))) (size:Int))) (fun w=>xorI .u32 _ _ _ _ _ _ _ rfl rfl rfl HX w) ?_
    refine xqL (.pointer (some ⟨w.heap.size+1,0,none⟩)) (fun w'=>ixS (w.heap.size+1) 0 (by decide) w' _ _ rfl rfl rfl) ?_
    refine storeL .u32 (hxr (hxr (hxr (iv 0) 16842752) (256*(kl:Int))) (size:Int)) (w.heap.size+1) 0 87 _ _ rfl rfl rfl rfl (by rw [(K.get _ _ _ _ mS).cell 0 (by decide)]; rfl) ((K.get _ _ _ _ mS).free 0 (by decide)) (by kernel_rfl) ?_
    simp only [Act.put]; replace K:=K.setCell [] (w.heap.size+1) .u32 8 f 0 (by decide) (hxr (hxr (hxr (iv 0) 16842752) (256*(kl:Int))) (size:Int)) mS (fun _ hp=>by cases hp) (fun _ hp=>by cases hp) (by omega)
    have HR:=(K.get _ _ _ _ mS).congr (g:=bh0 kl size) (fun j hj=>by
     unfold bh0
     by_cases e:j=0
     · subst e; rw [upd_same,upd_same]
     · rw [upd_other _ _ _ _ e,upd_other _ _ _ _ e]; exact hd j hj)
    generalize wr.setCell ⟨w.heap.size+1,0,none⟩ (.int .u32 (hxr (hxr (hxr (iv 0) 16842752) (256*(kl:Int))) (size:Int)))=w5 at K HR ⊢
    have hz':=(K.room _ mS).1
    have hB:=(K.fill _ _ mS (row .u32 8 (bh0 kl size))).below; clear K hd hlt hn g1 HX; generalize hf:bh0 kl size=g at *; show Exit.then _ _ _ _ _
    go_wp2_with (first | (refine wpList_load_mid rfl 171 _ rfl (w.heap.size+1) 0 rfl (row .u32 8 (g)) _ (Has.range (HR)) Tryz.underlying171 rfl (bst_info _) ?_) | (refine wpList_store_mid rfl 171 _ _ rfl (w.heap.size) 0 (row .u32 8 g).toArray rfl rfl (room_of hz') (bst_info' _) (all_oneCell_toArray (row_one _ _ _)) ?_))
    exact bodyPost_ret (v:=(.agg (row .u32 8 (g)).toArray)) (results_row Tryz.results109 rfl (Has.all hz' .u32 g).range Tryz.underlying171 rfl (bst_info g)) rfl ⟨rfl,hB⟩
theorem bout_over {h:Nat→Int} {n:Nat} {g:Nat→Int} (hd:∀ j,j<4*n→g j=bout h j) (j:Nat) (hj:j<4*(n+1)):over g (4*n) 4 (b32 (h n)) j=bout h j:=by
 unfold over
 by_cases e:4*n≤j∧j<4*n+4
 · rw [if_pos e]
   unfold bout
   rw [show j/4=n by omega,show j%4=j-4*n by omega]
 · rw [if_neg e]; exact hd j (by omega)
theorem bbytes_any (h:Nat→Int) (w:World) :
 Calls Tryz.prog 110 #[(.agg (row .u32 8 (h)).toArray)] w fun e w'=>e=.returned (.agg (row .u8 32 (bout h)).toArray)∧Below w.heap.size w w':=by
 have K:=Kr.init w; replace K:=K.box .u32 8 h 171 (w.heap.size) rfl; replace K:=K.make 32 zu8_32 23 (w.heap.size+1) (by simp) (key_zero _ _ _ (by simp)).there; replace K:=K.make 32 zu8_32 23 (w.heap.size+1+1) (by simp) (key_zero _ _ _ (by simp)).there; have H:=key_zero ((w.alloc (.cells (row .u32 8 h).toArray 171)).alloc (.cells zu8_32 23)) 23 (w.heap.size+1+1) (by simp)
 go_enter Tryz.func110,Tryz.ntmps110
 go_upto_region 2 with fail; generalize (((w.alloc (.cells (row .u32 8 h).toArray 171)).alloc (.cells zu8_32 23)).alloc (.cells zu8_32 23))=w0 at K H ⊢; go_wp2
 go_loopw [5] (fun i w'=>∃ (n:Nat) (g:Nat→Int),n≤8∧i=.int .i64 n∧Kr w (w.heap.size+1+1+1) [(w.heap.size,.u32,8,h)] [(w.heap.size+1+1,32),(w.heap.size+1,32)] w'∧Has w' (w.heap.size+1+1) .u8 32 g∧∀ j,j<4*n→g j=bout h j) (fun i _=>8-(intOf i).toNat)
 case atStart=>exact ⟨0,_,by omega,rfl,K,H,fun j hj=>by omega⟩
 case round =>
  clear K H
  obtain ⟨n,g,hn,rfl,K,H,hd⟩:=hrel
  have g1:(0:Int)≤(n:Int):=by omega
  by_cases hlt:n<8
  · have g2:(n:Int)<8:=by omega
    have HD:=show Hid _ from fun j hj=>bout_over hd j hj; clear hd; go_upto_region 5 with fail; refine wp_region_held_drew (S:=fun w'=>Kr w (w.heap.size+1+1+1) [(w.heap.size,.u32,8,h)] [(w.heap.size+1+1,32),(w.heap.size+1,32)] w') (by kernel_rfl) K.drew ?_; clear K; intro K; replace H:=H.drew; refine xpH 0 8 (.int .i64 (n:Int)) K ?_
    refine xqH 1 9 rfl (.int .i64 (4*(n:Int))) (fun w=>mulI .i64 4 (n:Int) _ _ _ _ _ rfl rfl rfl (by rw [xw6]; omega) w) K ?_; refine xqH 2 10 rfl (.slice (some ⟨w.heap.size+1+1,4*n,none⟩) (32-4*n) (32-4*n)) (fun w'=>cutOp _ _ _ _ _ _ rfl rfl rfl (bcut_key (w.heap.size+1+1) n hlt w')) K ?_; refine xpH 3 11 (.int .i64 (n:Int)) K ?_
    refine xqH 4 12 rfl (.pointer (some ⟨w.heap.size,n,none⟩)) (fun w'=>ixS (w.heap.size) n hlt w' _ _ rfl rfl rfl) K ?_; refine cellH (i:=5) (some 13) rfl .u32 (.int .u32 (h n)) (w.heap.size) n 87 _ rfl rfl rfl rfl (by kernel_rfl) (by kernel_rfl) (by kernel_rfl) (fun _ _ _ h=>h) Tryz.underlying87 K (fun _ h=>(h.get _ _ _ _ mS).cell n hlt) ?_; simp only [aP,lI,l0,lS]
    refine callH (i:=6) (some 14) rfl (by kernel_rfl) rfl rfl (fun _=>by kernel_rfl) (put32_any (w.heap.size+1+1) (4*n) 32 (32-4*n) (32-4*n) (by omega) g (h n) (by omega) _ H) ?_; rintro e w' ⟨rfl,rfl⟩; replace K:=K.poke (w.heap.size+1+1) 32 mS (4*n) (row .u8 4 (b32 (h n))); replace H:=H.part (4*n) 4 (by omega) (b32 (h n))
    refine ⟨_,rfl,K,?_⟩
    simp only [aP,lI,l0,lS]
    refine wpAnyH_done (by kernel_rfl) ?_ _
    have HS:=show Hid _ from (And.intro K (And.intro H HD.out)); clear K H HD; generalize (wr.drew.setCells (w.heap.size+1+1) (4*n) (row .u8 4 (b32 (h n))))=w6 at *; go_wp2
    go_roundw
    case rel=>first | exact ⟨n+1,_,by omega,by go_num,HS.out⟩ | ((repeat apply Exists.intro); refine ⟨⟨n+1,_,by omega,by go_num,HS.out⟩,rfl⟩)
    case measure=>simp [intOf]; omega
  · obtain rfl:n=8:=by omega
    have h1:=H.congr (g:=bout h) (fun j hj=>hd j (by omega)); have hz:=(K.room _ (mT _ mS)).1; have hB:=(K.fill _ _ (mT _ mS) (row .u8 32 (bout h))).below; clear K H hd hlt hn g1; generalize hf:bout h=f at *
    go_wp2_with (first | (refine wpList_load_mid rfl 23 _ rfl (w.heap.size+1+1) 0 rfl (row .u8 32 (f)) _ (Has.range (h1)) Tryz.underlying23 rfl (key_info _) ?_) | (refine wpList_store_mid rfl 23 _ _ rfl (w.heap.size+1) 0 (row .u8 32 f).toArray rfl rfl (room_of hz) (key_info' _) (all_oneCell_toArray (row_one _ _ _)) ?_))
    exact bodyPost_ret (v:=(.agg (row .u8 32 (f)).toArray)) (results_row Tryz.results110 rfl (Has.all hz .u8 _).range Tryz.underlying23 rfl (key_info _)) rfl ⟨rfl,hB⟩
theorem bspread_any (h:Nat→Int) (t:Int) (last:Bool) (w:World) (hg:BGlob w) :
 Calls Tryz.prog 115 #[(.agg (row .u32 8 (h)).toArray),.int .u64 t,.bool last] w fun e w'=>e=.returned (.agg (row .u32 16 (bst h t last)).toArray)∧Below w.heap.size w w':=by
 have K:=Kr.init w; replace K:=K.box .u32 8 h 171 (w.heap.size) rfl; replace K:=K.make 16 zu32_16 124 (w.heap.size+1) (by simp) (bwd_zero _ _ _ (by simp)).there; replace K:=K.boxO .u32 16 (fun _=>0) (.cells zu32_16 124) (w.heap.size+1+1) (by simp) (bwd_zero _ _ _ (by simp))
 go_enter Tryz.func115,Tryz.ntmps115
 go_upto_region 2 with fail; generalize (((w.alloc (.cells (row .u32 8 h).toArray 171)).alloc (.cells zu32_16 124)).alloc (.cells zu32_16 124))=w0 at K ⊢; go_wp2
 go_loopw [9] (fun i w'=>∃ (n:Nat) (f:Nat→Int),n≤8∧i=.int .i64 n∧Kr w (w.heap.size+1+1+1) [(w.heap.size+1+1,.u32,16,f),(w.heap.size,.u32,8,h)] [(w.heap.size+1,16)] w'∧∀ j,j<n→f j=h j∧f (j+8)=iv j) (fun i _=>8-(intOf i).toNat)
 case atStart=>exact ⟨0,_,by omega,rfl,K,fun j hj=>by omega⟩
 case round =>
  clear K
  obtain ⟨n,f,hn,rfl,K,hd⟩:=hrel
  have g1:(0:Int)≤(n:Int):=by omega
  by_cases hlt:n<8
  · have g2:(n:Int)<8:=by omega
    have l8:n<16:=by omega
    have l88:n+8<16:=by omega
    go_upto_region 5 with fail; have HR:=(K.get _ _ _ _ mS).drew; replace K:=K.loose [(w.heap.size,.u32,8,h)] (w.heap.size+1+1) .u32 16 f mS (fun p hp=>by obtain rfl:=xm1 hp; exact (mT _ mS)) (fun p hp=>by obtain rfl:=xm1 hp; simp only; omega) (by omega)
    refine wp_region_held_drew (S:=fun w'=>Kr w (w.heap.size+1+1+1) [(w.heap.size,.u32,8,h)] [(w.heap.size+1+1,16),(w.heap.size+1,16)] w') (by kernel_rfl) K.drew ?_; clear K; intro K; generalize wr.drew=w1 at K HR ⊢; refine xpH 0 12 (.int .i64 (n:Int)) K ?_; refine xpH 1 13 (.int .i64 (n:Int)) K ?_
    refine xqH 2 14 rfl (.int .i64 ((n+8:Nat):Int)) (fun w=>addI .i64 _ _ _ _ _ _ _ rfl rfl rfl (by rw [xw6]; omega) w) K ?_; refine xpH 3 15 (.int .i64 (n:Int)) K ?_; refine xqH 4 16 rfl (.pointer (some ⟨w.heap.size,n,none⟩)) (fun w'=>ixS (w.heap.size) n hlt w' _ _ rfl rfl rfl) K ?_
    refine cellH (i:=5) (some 17) rfl .u32 (.int .u32 (h n)) (w.heap.size) n 87 _ rfl rfl rfl rfl (by kernel_rfl) (by kernel_rfl) (by kernel_rfl) (fun _ _ _ h=>h) Tryz.underlying87 K (fun _ h=>(h.get _ _ _ _ mS).cell n hlt) ?_; simp only [aP,lI,l0,lS]; refine xpH 6 18 (.int .i64 (n:Int)) K ?_
    refine xqH 7 19 rfl (.pointer (some ⟨5,n,none⟩)) (fun w'=>ixV 5 n hlt w' _ _ rfl rfl rfl) K ?_; refine cellH (i:=8) (some 20) rfl .u32 (.int .u32 (iv n)) 5 n 87 _ rfl rfl rfl rfl (by kernel_rfl) (by kernel_rfl) (by kernel_rfl) (fun _ _ _ h=>h) Tryz.underlying87 K (fun _ h=>(hg.below h.below hg.size).first n hlt) ?_; simp only [aP,lI,l0,lS]
    refine xqH 9 21 rfl (.pointer (some ⟨w.heap.size+1+1,n,none⟩)) (fun w'=>ixW (w.heap.size+1+1) (n) l8 w' _ _ rfl rfl rfl) K ?_
    refine storeH (i:=10) none rfl .u32 (h n) (w.heap.size+1+1) (n) 87 _ _ (by kernel_rfl) rfl rfl rfl rfl rfl (by rw [HR.cell (n) l8]; rfl) (HR.free (n) l8) (by kernel_rfl) (K.poke (w.heap.size+1+1) 16 mS (n) [.int .u32 (h n)]) ?_
    simp only [Act.put]; replace K:=K.poke (w.heap.size+1+1) 16 mS (n) [.int .u32 (h n)]; replace HR:=HR.set (n) l8 (h n); refine xqH 11 22 rfl (.pointer (some ⟨w.heap.size+1+1,n+8,none⟩)) (fun w'=>ixW (w.heap.size+1+1) (n+8) l88 w' _ _ rfl rfl rfl) K ?_
    refine storeH (i:=12) none rfl .u32 (iv n) (w.heap.size+1+1) (n+8) 87 _ _ (by kernel_rfl) rfl rfl rfl rfl rfl (by rw [HR.cell (n+8) l88]; rfl) (HR.free (n+8) l88) (by kernel_rfl) (K.poke (w.heap.size+1+1) 16 mS (n+8) [.int .u32 (iv n)]) ?_
    simp only [Act.put]; replace K:=K.poke (w.heap.size+1+1) 16 mS (n+8) [.int .u32 (iv n)]; replace HR:=HR.set (n+8) l88 (iv n)
    refine wpAnyH_done (by kernel_rfl) ?_ _
    replace K:=K.settle [(w.heap.size+1,16)] (w.heap.size+1+1) .u32 16 (upd (upd f n (h n)) (n+8) (iv n)) mS (fun q hq=>mT _ hq) (fun q hq=>by obtain rfl:=xm1 hq; simp only; omega) HR
    have HS:=show Hid _ from (And.intro K (show ∀ j,j<n+1→(upd (upd f n (h n)) (n+8) (iv n)) j=h j∧(upd (upd f n (h n)) (n+8) (iv n)) (j+8)=iv j from fun j hj=>by
     by_cases e:j=n
     · subst e; rw [upd_other _ _ _ _ (show j≠j+8 by omega),upd_same,upd_same]; exact ⟨rfl,rfl⟩
     · rw [upd_other _ _ _ _ (show j≠n+8 by omega),upd_other _ _ _ _ e,upd_other _ _ _ _ (show j+8≠n+8 by omega),upd_other _ _ _ _ (show j+8≠n by omega)]; exact hd j (by omega)))
    clear K HR hd; generalize (upd (upd f n (h n)) (n+8) (iv n))=f' at HS; go_wp2
    go_roundw
    case rel=>first | exact ⟨n+1,f',by omega,by go_num,HS.out⟩ | ((repeat apply Exists.intro); refine ⟨⟨n+1,f',by omega,by go_num,HS.out⟩,rfl⟩)
    case measure=>simp [intOf]; omega
  · obtain rfl:n=8:=by omega
    have HR:=(K.get _ _ _ _ mS).congr (g:=app h 8 iv) (fun j hj=>by
     unfold app
     by_cases e:j<8
     · rw [if_pos e]; exact (hd j e).1
     · rw [if_neg e]; have:=(hd (j-8) (by omega)).2; rw [show j-8+8=j by omega] at this; exact this)
    replace K:=(K.loose [(w.heap.size,.u32,8,h)] (w.heap.size+1+1) .u32 16 f mS (fun p hp=>by obtain rfl:=xm1 hp; exact (mT _ mS)) (fun p hp=>by obtain rfl:=xm1 hp; simp only; omega) (by omega)).settle [(w.heap.size+1,16)] (w.heap.size+1+1) .u32 16 (app h 8 iv) mS (fun q hq=>mT _ hq) (fun q hq=>by obtain rfl:=xm1 hq; simp only; omega) HR; clear HR hd hlt hn g1
    go_upto_region 7 with fail; refine wp_region_list ?_; refine xqL (.pointer (some ⟨w.heap.size+1+1,12,none⟩)) (fun w'=>ixW (w.heap.size+1+1) 12 (by decide) w' _ _ rfl rfl rfl) ?_; refine cellL .u32 (.int .u32 (iv 4)) (w.heap.size+1+1) 12 87 _ rfl rfl rfl Tryz.underlying87 ((K.get _ _ _ _ mS).cell 12 (by decide)) ?_; simp only [aP,lI,l0,lS]; refine xpL (.int .u64 t) ?_
    refine xqL (.int .u32 (t%4294967296)) (fun w=>convI .u64 .u32 _ _ _ _ _ rfl (by kernel_rfl) Tryz.underlying87 (by kernel_rfl) rfl (IntKind.wrap_u32' _) w) ?_; refine xqL (.int .u32 (hxr (iv 4) (t%4294967296))) (fun w=>xorI .u32 _ _ _ _ _ _ _ rfl rfl rfl rfl w) ?_
    refine xqL (.pointer (some ⟨w.heap.size+1+1,12,none⟩)) (fun w'=>ixW (w.heap.size+1+1) 12 (by decide) w' _ _ rfl rfl rfl) ?_
    refine storeL .u32 (hxr (iv 4) (t%4294967296)) (w.heap.size+1+1) 12 87 _ _ rfl rfl rfl rfl (by rw [(K.get _ _ _ _ mS).cell 12 (by decide)]; rfl) ((K.get _ _ _ _ mS).free 12 (by decide)) (by kernel_rfl) ?_
    simp only [Act.put]; replace K:=K.setCell [(w.heap.size,.u32,8,h)] (w.heap.size+1+1) .u32 16 (app h 8 iv) 12 (by decide) (hxr (iv 4) (t%4294967296)) mS (fun p hp=>by obtain rfl:=xm1 hp; exact (mT _ mS)) (fun p hp=>by obtain rfl:=xm1 hp; simp only; omega) (by omega); generalize wr.setCell ⟨w.heap.size+1+1,12,none⟩ (.int .u32 (hxr (iv 4) (t%4294967296)))=w2 at K ⊢
    show Exit.then _ _ _ _ _; go_upto_region 8 with fail; refine wp_region_list ?_; refine xqL (.pointer (some ⟨w.heap.size+1+1,13,none⟩)) (fun w'=>ixW (w.heap.size+1+1) 13 (by decide) w' _ _ rfl rfl rfl) ?_; refine cellL .u32 (.int .u32 (iv 5)) (w.heap.size+1+1) 13 87 _ rfl rfl rfl Tryz.underlying87 ((K.get _ _ _ _ mS).cell 13 (by decide)) ?_; simp only [aP,lI,l0,lS]
    refine xpL (.int .u64 t) ?_; refine xqL (.int .u64 (t/4294967296)) (fun w=>shrI .u64 .u64 _ 32 _ _ _ _ _ rfl rfl rfl (by decide) rfl w) ?_; refine xqL (.int .u32 (t/4294967296%4294967296)) (fun w=>convI .u64 .u32 _ _ _ _ _ rfl (by kernel_rfl) Tryz.underlying87 (by kernel_rfl) rfl (IntKind.wrap_u32' _) w) ?_
    refine xqL (.int .u32 (hxr (iv 5) (t/4294967296%4294967296))) (fun w=>xorI .u32 _ _ _ _ _ _ _ rfl rfl rfl rfl w) ?_; refine xqL (.pointer (some ⟨w.heap.size+1+1,13,none⟩)) (fun w'=>ixW (w.heap.size+1+1) 13 (by decide) w' _ _ rfl rfl rfl) ?_
    refine storeL .u32 (hxr (iv 5) (t/4294967296%4294967296)) (w.heap.size+1+1) 13 87 _ _ rfl rfl rfl rfl (by rw [(K.get _ _ _ _ mS).cell 13 (by decide)]; rfl) ((K.get _ _ _ _ mS).free 13 (by decide)) (by kernel_rfl) ?_
    simp only [Act.put]; replace K:=K.setCell [(w.heap.size,.u32,8,h)] (w.heap.size+1+1) .u32 16 (upd (app h 8 iv) 12 (hxr (iv 4) (t%4294967296))) 13 (by decide) (hxr (iv 5) (t/4294967296%4294967296)) mS (fun p hp=>by obtain rfl:=xm1 hp; exact (mT _ mS)) (fun p hp=>by obtain rfl:=xm1 hp; simp only; omega) (by omega)
    generalize w2.setCell ⟨w.heap.size+1+1,13,none⟩ (.int .u32 (hxr (iv 5) (t/4294967296%4294967296)))=w3 at K ⊢; show Exit.then _ _ _ _ _; have hcon:=bst_of h t (upd (upd (app h 8 iv) 12 (hxr (iv 4) (t%4294967296))) 13 (hxr (iv 5) (t/4294967296%4294967296))) last (fun _=>rfl)
    cases last
    · have HR:=(K.get _ _ _ _ mS).congr (g:=bst h t false) hcon
      have hz':=(K.room _ mS).1
      have hB:=(K.fill _ _ mS (row .u32 16 (bst h t false))).below; clear K hcon; generalize hf:bst h t false=g at *
      go_wp2_with (first | (refine wpList_load_mid rfl 124 _ rfl (w.heap.size+1+1) 0 rfl (row .u32 16 (g)) _ (Has.range (HR)) Tryz.underlying124 rfl (bwd_info _) ?_) | (refine wpList_store_mid rfl 124 _ _ rfl (w.heap.size+1) 0 (row .u32 16 g).toArray rfl rfl (room_of hz') (bwd_info' _) (all_oneCell_toArray (row_one _ _ _)) ?_))
      exact bodyPost_ret (v:=(.agg (row .u32 16 (g)).toArray)) (results_row Tryz.results115 rfl (Has.all hz' .u32 g).range Tryz.underlying124 rfl (bwd_info g)) rfl ⟨rfl,hB⟩
    · go_upto_region 10 with fail
      refine wp_region_list ?_; refine xqL (.pointer (some ⟨w.heap.size+1+1,14,none⟩)) (fun w'=>ixW (w.heap.size+1+1) 14 (by decide) w' _ _ rfl rfl rfl) ?_; refine cellL .u32 (.int .u32 (iv 6)) (w.heap.size+1+1) 14 87 _ rfl rfl rfl Tryz.underlying87 ((K.get _ _ _ _ mS).cell 14 (by decide)) ?_; simp only [aP,lI,l0,lS]
      refine xqL (.int .u32 (4294967295-iv 6)) (fun w=>notI .u32 _ _ _ _ rfl rfl (by decide +kernel) w) ?_; refine xqL (.pointer (some ⟨w.heap.size+1+1,14,none⟩)) (fun w'=>ixW (w.heap.size+1+1) 14 (by decide) w' _ _ rfl rfl rfl) ?_
      refine storeL .u32 (4294967295-iv 6) (w.heap.size+1+1) 14 87 _ _ rfl rfl rfl rfl (by rw [(K.get _ _ _ _ mS).cell 14 (by decide)]; rfl) ((K.get _ _ _ _ mS).free 14 (by decide)) (by kernel_rfl) ?_
      simp only [Act.put]; replace K:=K.setCell [(w.heap.size,.u32,8,h)] (w.heap.size+1+1) .u32 16 (upd (upd (app h 8 iv) 12 (hxr (iv 4) (t%4294967296))) 13 (hxr (iv 5) (t/4294967296%4294967296))) 14 (by decide) (4294967295-iv 6) mS (fun p hp=>by obtain rfl:=xm1 hp; exact (mT _ mS)) (fun p hp=>by obtain rfl:=xm1 hp; simp only; omega) (by omega)
      generalize w3.setCell ⟨w.heap.size+1+1,14,none⟩ (.int .u32 (4294967295-iv 6))=w4 at K ⊢; show Exit.then _ _ _ _ _; have HR:=(K.get _ _ _ _ mS).congr (g:=bst h t true) hcon
      have hz':=(K.room _ mS).1
      have hB:=(K.fill _ _ mS (row .u32 16 (bst h t true))).below; clear K hcon; generalize hf:bst h t true=g at *
      go_wp2_with (first | (refine wpList_load_mid rfl 124 _ rfl (w.heap.size+1+1) 0 rfl (row .u32 16 (g)) _ (Has.range (HR)) Tryz.underlying124 rfl (bwd_info _) ?_) | (refine wpList_store_mid rfl 124 _ _ rfl (w.heap.size+1) 0 (row .u32 16 g).toArray rfl rfl (room_of hz') (bwd_info' _) (all_oneCell_toArray (row_one _ _ _)) ?_))
      exact bodyPost_ret (v:=(.agg (row .u32 16 (g)).toArray)) (results_row Tryz.results115 rfl (Has.all hz' .u32 g).range Tryz.underlying124 rfl (bwd_info g)) rfl ⟨rfl,hB⟩
section
def depB (md:Region.Mode) (ops:Array Oper) (i:Nat):Nat→Nat→Bool
 | 0,_=>false
 | f+1,c=>match ops[c]? with
   | none=>false
   | some oc=>oc.after.any fun e=>Region.binds md e&&(e.on == i || depB md ops i f e.on)
def Closed (md:Region.Mode) (ops:Array Oper) (l:Array Bool):Prop:=∀ j oj,ops[j]?=some oj→l.getD j false=true→∀ e∈oj.after,Region.binds md e=true→l.getD e.on false=true
def closedB (md:Region.Mode) (ops:Array Oper) (l:Array Bool):Bool:=(List.range ops.size).all fun j=>match ops[j]? with
 | none=>true
 | some oj=>!l.getD j false || oj.after.all fun e=>!Region.binds md e || l.getD e.on false
theorem closed_of {md:Region.Mode} {ops:Array Oper} {l:Array Bool} (h:closedB md ops l=true):Closed md ops l:=by
 intro j oj hj hl e he hb
 have hlt:j<ops.size:=(Array.getElem?_eq_some_iff.1 hj).1
 have h1:=List.all_eq_true.1 h j (List.mem_range.2 hlt)
 simp only [hj,hl,Bool.not_true,Bool.false_or] at h1
 have h2:=Array.all_eq_true'.1 h1 e he
 simpa only [hb,Bool.not_true,Bool.false_or] using h2
theorem listed_mono {l:Array Bool} {i j:Nat} (h:l.getD j false=true):(l.setIfInBounds i true).getD j false=true:=by
 rw [Array.getD_eq_getD_getElem?] at h ⊢
 by_cases e:i=j
 · subst e
   cases hc:l[i]? with
   | none=>rw [hc] at h; cases h
   | some b =>
     have hb:=(Array.getElem?_eq_some_iff.1 hc).1
     rw [Array.getElem?_setIfInBounds_self_of_lt hb]; rfl
 · rw [Array.getElem?_setIfInBounds_ne e]; exact h
theorem Closed.next {md:Region.Mode} {ops:Array Oper} {l:Array Bool} (h:Closed md ops l) {i:Nat} (hi:i∈Region.ready md ops l):Closed md ops (l.setIfInBounds i true):=by
 intro j oj hj hl e he hb
 by_cases hji:j=i
 · subst hji
   obtain ⟨_,o,ho,hall⟩:=mem_ready.1 hi
   obtain rfl:o=oj:=Option.some.inj (ho.symm.trans hj)
   exact listed_mono (hall e he hb)
 · rw [getD_set_ne false (Ne.symm hji)] at hl
   exact listed_mono (h j oj hj hl e he hb)
theorem dep_listed {md:Region.Mode} {ops:Array Oper} {l:Array Bool} {i:Nat} (h:Closed md ops l):∀ (f c:Nat),(∀ oc,ops[c]?=some oc→∀ e∈oc.after,Region.binds md e=true→l.getD e.on false=true)→depB md ops i f c=true→l.getD i false=true
 | 0,_,_,hd=>by cases hd
 | f+1,c,hc,hd=>by
   unfold depB at hd
   cases ho:ops[c]? with
   | none=>rw [ho] at hd; cases hd
   | some oc =>
     rw [ho] at hd
     obtain ⟨e,he,hb⟩:=Array.any_eq_true'.1 hd
     simp only [xbA,Bool.or_eq_true,beq_iff_eq] at hb
     have hl:=hc oc ho e he hb.1
     rcases hb.2 with h1 | h1
     · rw [← h1]; exact hl
     · exact dep_listed h f e.on (fun o2 ho2 e2 he2 hb2=>h e.on o2 ho2 hl e2 he2 hb2) h1
section
variable {P:Program} {ops:Array Oper} {Q:Exit→Act→World→Prop} {md:Region.Mode} {S:World→Prop} {c:Nat}
theorem wpAnyC_firstT {i f:Nat} {oi:Oper} {v:Value} (hi:ops[i]?=some oi) (hdep:depB md ops i f c=true) (hsel:∀ (j:Nat) (o:Oper) cs b,ops[j]?=some o→o.op≠.select cs b)
 (hQ:∀ p a w,Q (.panic p) (a.put oi.dst v) w→Q (.panic p) a w):∀ (n:Nat) (l:Array Bool) (a:Act) (w:World),
  Closed md ops l→(∀ j oj,ops[j]?=some oj→j≠i→l.getD j true=false→(∀ e∈oj.after,Region.binds md e=true→e.on≠i)→oi.apart ops oj=true) →
  l.getD c true=false→i∈Region.ready md ops l→YieldsIf P ops S oi v a→S w →
  wpAnyC P md ops Q S c n (l.setIfInBounds i true) (a.put oi.dst v) w→wpAnyC P md ops Q S c (n+1) l a w:=by
 have waits:∀ (l:Array Bool) (j:Nat),Closed md ops l→i∈Region.ready md ops l→j∈Region.ready md ops l→j≠c:=fun l j hcl hr hj e=>by
  subst e
  obtain ⟨_,o,ho,hall⟩:=mem_ready.1 hj
  exact not_both (mem_ready.1 hr).1 (dep_listed hcl f j (fun oc hoc=>by obtain rfl:o=oc:=Option.some.inj (ho.symm.trans hoc); exact hall) hdep)
 intro n
 induction n with
 | zero =>
   intro l a w _ _ _ hr hy hS H
   refine ⟨fun h=>(by rw [h] at hr; cases hr),fun j hj=>?_⟩
   by_cases hji:j=i
   · subst hji; exact hy.wpOp hi hS ⟨fun _=>hS,H⟩
   · have:=ready_mono hj hji
     rw [H.1] at this
     cases this
 | succ n ih =>
   intro l a w hcl hfree hlc hr hy hS H
   refine ⟨fun h=>(by rw [h] at hr; cases hr),fun j hj=>?_⟩
   by_cases hji:j=i
   · subst hji; exact hy.wpOp hi hS ⟨fun _=>hS,H⟩
   · have hjc:=waits l j hcl hr hj
     have hic:=waits l i hcl hr hr
     obtain ⟨hjun,oj,hoj,hall⟩:=mem_ready.1 hj
     have hnot:∀ e∈oj.after,Region.binds md e=true→e.on≠i:=fun e he hb heq=>not_both (mem_ready.1 hr).1 (by rw [← heq]; exact hall e he hb)
     have h2:=wpOp_putIf hoj (hfree j oj hoj hji hjun hnot) (fun cs b=>hsel i oi cs b hi) (fun cs b=>hsel j oj cs b hoj) hQ hy (H.2 j (ready_mono hj hji))
     have hfree':∀ k ok,ops[k]?=some ok→k≠i→(l.setIfInBounds j true).getD k true=false→(∀ e∈ok.after,Region.binds md e=true→e.on≠i)→oi.apart ops ok=true:=fun k ok hk hki hun hno=>by
      refine hfree k ok hk hki ?_ hno
      by_cases hjk:j=k
      · subst hjk; exact hjun
      · rw [getD_set_ne true hjk] at hun; exact hun
     refine wpOp_mono (fun a' w' h3=>?_) h2
     have hS':S w':=h3.2.1 (by rw [getD_set_ne true hjc,getD_set_ne true hic]; exact hlc)
     refine ⟨fun _=>hS',ih (l.setIfInBounds j true) a' w' (hcl.next hj) hfree' (by rw [getD_set_ne true hjc]; exact hlc) (ready_mono hr (Ne.symm hji)) h3.1 hS' ?_⟩
     rw [Array.setIfInBounds_comm _ _ hji]
     exact h3.2.2
theorem cellCT {i:Nat} (f:Nat) {oi:Oper} (dst:Option Tmp) (hdst:oi.dst=dst) {n:Nat} {l:Array Bool} {a:Act} {w:World} (k:IntKind) (v:Value) (b o:Nat) (ty:TypeId) (x:Operand) (hi:ops[i]?=some oi) (hdep:depB md ops i f c=true) (hcl:closedB md ops l=true)
 (ho:oi.op=.load ty x) (hx:a.eval x=.pointer (some ⟨b,o,none⟩)) (hw:Region.wanted oi (yielded ops a.tmps)=true)
 (hs:Region.noSelect ops=true) (hf:Region.free md ops l i=true) (hl:l.getD c true=false) (hr:(Region.ready md ops l).contains i=true)
 (hQ:∀ p a w,Q (.panic p) (a.put dst v) w→Q (.panic p) a w) (hu:P.underlying ty=some (.int k))
 (hS:S w) (hh:∀ w,S w→w.cell? ⟨b,o,none⟩=some v)
 (h:wpAnyC P md ops Q S c n (l.setIfInBounds i true) (a.put dst v) w):wpAnyC P md ops Q S c (n+1) l a w:=by
 subst hdst
 refine wpAnyC_firstT hi hdep (Region.noSelect_spec hs) hQ n l a w (closed_of hcl) (Region.free_spec hi hf) hl (by simpa using hr) (.inl ⟨hw,fun w hSw=>?_⟩) hS h
 unfold execOp
 simp only [ho,hx,Instr.loadAt,Instr.sureAddr,Sem.run_bind,Sem.run_pure,Result.andThen_ok,run_loadVar_cell w b o ty k v (hh w hSw) hu]
end
end
theorem bmix_any (a b c d x y:Int) (w:World) :
 Calls Tryz.prog 116 #[.int .u32 a,.int .u32 b,.int .u32 c,.int .u32 d,.int .u32 x,.int .u32 y] w fun e w'=>e=.returned (.tuple #[.int .u32 (bA a b c d x y),.int .u32 (bB a b c d x y),.int .u32 (bC a b c d x y),.int .u32 (bD a b c d x y)])∧w'=w:=by
 go_enter Tryz.func116,Tryz.ntmps116
 go_wp2_with fail
 refine (rotR_any (-16) 16 (.inl ⟨rfl,rfl⟩) _ _).mono ?_; rintro e w16 ⟨rfl,rfl⟩
 go_wp2_with fail
 refine (rotR_any (-12) 20 (.inr (.inl ⟨rfl,rfl⟩)) _ _).mono ?_; rintro e w12 ⟨rfl,rfl⟩
 go_wp2_with fail
 refine (rotR_any (-8) 24 (.inr (.inr (.inl ⟨rfl,rfl⟩))) _ _).mono ?_; rintro e w8 ⟨rfl,rfl⟩
 go_wp2_with fail
 refine (rotR_any (-7) 25 (.inr (.inr (.inr ⟨rfl,rfl⟩))) _ _).mono ?_; rintro e w7 ⟨rfl,rfl⟩
 go_wp2_with fail
 exact bodyPost_ret (results_four Tryz.results116 rfl rfl rfl rfl) rfl ⟨by simp only [bA,bB,bC,bD,bA1,bB1,bC1,bD1,mA,mD,hxr,had,Int.emod_add_emod,Int.add_assoc]; rfl,rfl⟩
theorem idxRows {P:Program} {o:Oper} {a:Act} (t e:TypeId) (n m:Nat) (k:IntKind) (b off i:Nat) (x y:Operand) (hu:P.underlying t=some (.array n e)) (hsz:∀ w,(sizeOf e).run P w=.ok m w) (hi:i<n) (ho:o.op=.indexAddr t x y) (hx:a.eval x=.pointer (some ⟨b,off,none⟩)) (hy:a.eval y=.int k (i:Int)) (w:World) :
 (execOp a.eval o).run P w=.ok (.value (.pointer (some ⟨b,off+i*m,none⟩))) w:=by
 have e1:(Instr.indexAt t (.pointer (some ⟨b,off,none⟩)) (.int k (i:Int))).run P w=.ok (.pointer (some ⟨b,off+i*m,none⟩)) w:=by
  simp [Instr.indexAt,run_underlying hu,Instr.sureAddr,asIntOf,hsz,Addr.add_mid]
  intro hf
  omega
 unfold execOp
 simp only [ho,hx,hy,Sem.run_bind,e1,Result.andThen_ok,Sem.run_pure]
theorem bpr_of (h z:Nat→Int) (t:Int) (last:Bool) (hh:In V 8 h) (n:Nat) (hn:n<8):hxr (h n) (hxr (bR (bpw z) (bst h t last) 10 n) (bR (bpw z) (bst h t last) 10 (n+8)))=bpr h z t last n :=
 (hxr_assoc _ _ _ (hh n hn) (bR_in _ _ (bst_in h t last hh) 10 n (by omega)) (bR_in _ _ (bst_in h t last hh) 10 (n+8) (by omega))).symm
theorem bpress_any (h:Nat→Int) (hh:In V 8 h) (z:Nat→Int) (t:Int) (last:Bool) (w:World) (hg:BGlob w) :
 Calls Tryz.prog 113 #[(.agg (row .u32 8 (h)).toArray),(.agg (row .u32 16 (bpw z)).toArray),.int .u64 t,.bool last] w fun e w'=>e=.returned (.agg (row .u32 8 (bpr h z t last)).toArray)∧Below w.heap.size w w':=by
 have HG:=show Hid _ from (fun n hn=>bpr_of h z t last hh n hn); generalize hGe:bpr h z t last=G at HG; generalize hme:bpw z=m at HG; have K:=Kr.init w; replace K:=K.box .u32 8 h 171 (w.heap.size) rfl; replace K:=K.box .u32 16 m 124 (w.heap.size+1) (by simp); replace K:=K.make 8 zu32_8 171 (w.heap.size+1+1) (by simp) (bst_zero _ _ _ (by simp)).there; clear hme hGe hh
 go_enter Tryz.func113,Tryz.ntmps113
 go_upto_region 1 with fail; generalize (((w.alloc (.cells (row .u32 8 h).toArray 171)).alloc (.cells (row .u32 16 m).toArray 124)).alloc (.cells zu32_8 171))=w0 at K ⊢; refine wp_region_list ?_; refine rowKL .u32 8 (h) (w.heap.size) 0 171 _ _ rfl rfl rfl Tryz.underlying171 rfl (bst_info _) ((K.get _ _ _ _ (mT _ mS)).range) ?_; simp only [aP,lI,l0,lS]; refine xpL (.int .u64 t) ?_
 refine xpL (.bool last) ?_; refine xcL (bspread_any h t last _ (hg.below K.below hg.size)) ?_; rintro e w1 ⟨rfl,l⟩; replace K:=K.call l; clear l; refine xeL ?_; refine allocL zu32_16 124 rfl (fun _=>by kernel_rfl) ?_; simp only [aP,lI,l0,lS]; refine storesL .u32 16 (bst h t last) w1.heap.size 124 _ _ rfl rfl rfl rfl (room_of (bwd_zero _ _ _ rfl).there) (bwd_info' _) ?_
 simp only [Act.put]; have zX:=K.size; replace K:=K.fresh .u32 16 (bst h t last) zu32_16 124 (bwd_zero _ _ _ rfl).there; generalize ((w1.alloc (.cells zu32_16 124)).setCells w1.heap.size 0 (row .u32 16 (bst h t last)))=w2 at K ⊢; generalize w1.heap.size=X at *; show Exit.then _ _ _ _ _; generalize bst h t last=v0 at *; go_wp2
 go_loopw [21] (fun i w'=>∃ r:Nat,r≤10∧i=.int .i64 r∧Kr w (X+1) [(X,.u32,16,bR m v0 r),(w.heap.size+1,.u32,16,m),(w.heap.size,.u32,8,h)] [(w.heap.size+1+1,8)] w') (fun i _=>10-(intOf i).toNat)
 case atStart=>exact ⟨0,by omega,rfl,K⟩
 case round =>
  clear K
  obtain ⟨r,hr,rfl,K⟩:=hrel
  have g1:(0:Int)≤(r:Int):=by omega
  by_cases hlt:r<10
  · have g2:(r:Int)<10:=by omega
    go_wp2
    go_loopw [24] (fun i w'=>∃ q:Nat,q≤8∧i=.int .i64 q∧Kr w (X+1) [(X,.u32,16,bN m (sg r) (bR m v0 r) q),(w.heap.size+1,.u32,16,m),(w.heap.size,.u32,8,h)] [(w.heap.size+1+1,8)] w') (fun i _=>8-(intOf i).toNat)
    case atStart=>exact ⟨0,by omega,rfl,K⟩
    case round =>
     clear K
     obtain ⟨q,hq,rfl,K⟩:=hrel
     have g3:(0:Int)≤(q:Int):=by omega
     by_cases hlt2:q<8
     · have g4:(q:Int)<8:=by omega
       have HT:=show Hid _ from (show bN m (sg r) (bR m v0 r) (q+1)=bAt m (sg r) (bN m (sg r) (bR m v0 r) q) q from rfl); generalize bN m (sg r) (bR m v0 r) q=v at *; have HK:=show Hid _ from fun (n:Nat)=>K.drewN (q:=n)
       obtain ⟨p1,p2,p3,p4⟩:=(hg.below K.below hg.size).four q hlt2
       have l1:pA q<16:=by have:=pA_lt q; omega
       have l2:pB q<16:=by have:=pB_lt q; omega
       have l3:pC q<16:=by have:=pC_lt q; omega
       have l4:pD q<16:=pD_lt q
       have s1:=sg_lt r (2*q); have s2:=sg_lt r (2*q+1)
       unfold bAt bMx at HT
       have hzX:=K.base; clear K hq hr; generalize hA:pA q=A at *; generalize hB:pB q=B at *; generalize hC:pC q=C at *; generalize hD:pD q=D at *; clear hA hB hC hD; go_wp2
       go_quiet (fail)
       go_upto_region 9 with fail; have K:=HK.out nq; clear p1 p2 p3 p4 HK; generalize wr.drewN nq=w3 at K ⊢; refine wp_region_C (S:=fun w'=>Kr w (X+1) [(X,.u32,16,v),(w.heap.size+1,.u32,16,m),(w.heap.size,.u32,8,h)] [(w.heap.size+1+1,8)] w') 33 (by kernel_rfl) K.drew ?_; clear K; intro K; refine xpC 0 44 (.int .u8 (A:Int)) K ?_
       refine xpC 1 45 (.int .u8 (B:Int)) K ?_; refine xpC 2 46 (.int .u8 (C:Int)) K ?_; refine xpC 3 47 (.int .u8 (D:Int)) K ?_; refine xpC 4 48 (.int .u8 (A:Int)) K ?_; refine xqC 5 49 rfl (.pointer (some ⟨X,A,none⟩)) (fun w'=>ixWb X A l1 w' _ _ rfl rfl rfl) K ?_
       refine cellC (i:=6) (some 50) rfl .u32 (.int .u32 (v A)) X A 87 _ rfl rfl (by kernel_rfl) rfl rfl rfl (by kernel_rfl) (by kernel_rfl) (by kernel_rfl) (by kernel_rfl) (fun _ _ _ h=>h) Tryz.underlying87 K (fun _ h=>(h.get _ _ _ _ mS).cell A l1) ?_; simp only [aP,lI,l0,lS]; refine xpC 7 51 (.int .u8 (B:Int)) K ?_
       refine xqC 8 52 rfl (.pointer (some ⟨X,B,none⟩)) (fun w'=>ixWb X B l2 w' _ _ rfl rfl rfl) K ?_; refine cellC (i:=9) (some 53) rfl .u32 (.int .u32 (v B)) X B 87 _ rfl rfl (by kernel_rfl) rfl rfl rfl (by kernel_rfl) (by kernel_rfl) (by kernel_rfl) (by kernel_rfl) (fun _ _ _ h=>h) Tryz.underlying87 K (fun _ h=>(h.get _ _ _ _ mS).cell B l2) ?_; simp only [aP,lI,l0,lS]
       refine xpC 10 54 (.int .u8 (C:Int)) K ?_; refine xqC 11 55 rfl (.pointer (some ⟨X,C,none⟩)) (fun w'=>ixWb X C l3 w' _ _ rfl rfl rfl) K ?_
       refine cellC (i:=12) (some 56) rfl .u32 (.int .u32 (v C)) X C 87 _ rfl rfl (by kernel_rfl) rfl rfl rfl (by kernel_rfl) (by kernel_rfl) (by kernel_rfl) (by kernel_rfl) (fun _ _ _ h=>h) Tryz.underlying87 K (fun _ h=>(h.get _ _ _ _ mS).cell C l3) ?_; simp only [aP,lI,l0,lS]; refine xpC 13 57 (.int .u8 (D:Int)) K ?_
       refine xqC 14 58 rfl (.pointer (some ⟨X,D,none⟩)) (fun w'=>ixWb X D l4 w' _ _ rfl rfl rfl) K ?_; refine cellC (i:=15) (some 59) rfl .u32 (.int .u32 (v D)) X D 87 _ rfl rfl (by kernel_rfl) rfl rfl rfl (by kernel_rfl) (by kernel_rfl) (by kernel_rfl) (by kernel_rfl) (fun _ _ _ h=>h) Tryz.underlying87 K (fun _ h=>(h.get _ _ _ _ mS).cell D l4) ?_; simp only [aP,lI,l0,lS]
       refine xpC 16 60 (.int .i64 (r:Int)) K ?_; refine xpC 17 61 (.int .i64 (q:Int)) K ?_; refine xqC 18 62 rfl (.int .i64 ((2*q:Nat):Int)) (fun w=>mulI .i64 _ _ _ _ _ _ _ rfl rfl rfl (by rw [xw6]; omega) w) K ?_
       refine xqC 19 63 rfl (.pointer (some ⟨7,0+r*16,none⟩)) (fun w'=>idxRows (P:=Tryz.prog) 180 88 10 16 .i64 7 0 r _ _ Tryz.underlying180 (fun _=>by kernel_rfl) hlt rfl rfl rfl w') K ?_
       refine xqC 20 64 rfl (.pointer (some ⟨7,0+r*16+(2*q),none⟩)) (fun w'=>idxArr (P:=Tryz.prog) 88 5 16 .i64 7 (0+r*16) (2*q) _ _ Tryz.underlying88 (fun _=>by kernel_rfl) (by omega) rfl rfl rfl w') K ?_
       refine cellCT (i:=21) 8 (some 65) rfl .u8 (.int .u8 ((sg r (2*q):Nat):Int)) 7 (0+r*16+(2*q)) 5 _ rfl (by kernel_rfl) (by kernel_rfl) rfl rfl rfl (by kernel_rfl) (by kernel_rfl) (by kernel_rfl) (by kernel_rfl) (fun _ _ _ h=>h) Tryz.underlying5 K (fun _ h=>(by rw [Nat.zero_add]; exact (hg.below h.below hg.size).sg r (2*q) hlt (by omega))) ?_
       simp only [aP,lI,l0,lS]; refine xqC 22 66 rfl (.pointer (some ⟨w.heap.size+1,sg r (2*q),none⟩)) (fun w'=>ixWb (w.heap.size+1) (sg r (2*q)) s1 w' _ _ rfl rfl rfl) K ?_
       refine cellC (i:=23) (some 67) rfl .u32 (.int .u32 (m (sg r (2*q)))) (w.heap.size+1) (sg r (2*q)) 87 _ rfl rfl (by kernel_rfl) rfl rfl rfl (by kernel_rfl) (by kernel_rfl) (by kernel_rfl) (by kernel_rfl) (fun _ _ _ h=>h) Tryz.underlying87 K (fun _ h=>(h.get _ _ _ _ (mT _ mS)).cell (sg r (2*q)) s1) ?_; simp only [aP,lI,l0,lS]; refine xpC 24 68 (.int .i64 (r:Int)) K ?_
       refine xpC 25 69 (.int .i64 (q:Int)) K ?_; refine xqC 26 70 rfl (.int .i64 ((2*q:Nat):Int)) (fun w=>mulI .i64 _ _ _ _ _ _ _ rfl rfl rfl (by rw [xw6]; omega) w) K ?_; refine xqC 27 71 rfl (.int .i64 ((2*q+1:Nat):Int)) (fun w=>addI .i64 _ _ _ _ _ _ _ rfl rfl rfl (by rw [xw6]; omega) w) K ?_
       refine xqC 28 72 rfl (.pointer (some ⟨7,0+r*16,none⟩)) (fun w'=>idxRows (P:=Tryz.prog) 180 88 10 16 .i64 7 0 r _ _ Tryz.underlying180 (fun _=>by kernel_rfl) hlt rfl rfl rfl w') K ?_
       refine xqC 29 73 rfl (.pointer (some ⟨7,0+r*16+(2*q+1),none⟩)) (fun w'=>idxArr (P:=Tryz.prog) 88 5 16 .i64 7 (0+r*16) (2*q+1) _ _ Tryz.underlying88 (fun _=>by kernel_rfl) (by omega) rfl rfl rfl w') K ?_
       refine cellCT (i:=30) 8 (some 74) rfl .u8 (.int .u8 ((sg r (2*q+1):Nat):Int)) 7 (0+r*16+(2*q+1)) 5 _ rfl (by kernel_rfl) (by kernel_rfl) rfl rfl rfl (by kernel_rfl) (by kernel_rfl) (by kernel_rfl) (by kernel_rfl) (fun _ _ _ h=>h) Tryz.underlying5 K (fun _ h=>(by rw [Nat.zero_add]; exact (hg.below h.below hg.size).sg r (2*q+1) hlt (by omega))) ?_
       simp only [aP,lI,l0,lS]; refine xqC 31 75 rfl (.pointer (some ⟨w.heap.size+1,sg r (2*q+1),none⟩)) (fun w'=>ixWb (w.heap.size+1) (sg r (2*q+1)) s2 w' _ _ rfl rfl rfl) K ?_
       refine cellC (i:=32) (some 76) rfl .u32 (.int .u32 (m (sg r (2*q+1)))) (w.heap.size+1) (sg r (2*q+1)) 87 _ rfl rfl (by kernel_rfl) rfl rfl rfl (by kernel_rfl) (by kernel_rfl) (by kernel_rfl) (by kernel_rfl) (fun _ _ _ h=>h) Tryz.underlying87 K (fun _ h=>(h.get _ _ _ _ (mT _ mS)).cell (sg r (2*q+1)) s2) ?_; simp only [aP,lI,l0,lS]
       refine callC (S2:=fun _=>True) (some 77) rfl (by kernel_rfl) rfl rfl (fun _=>by kernel_rfl) (bmix_any (v A) (v B) (v C) (v D) (m (sg r (2*q))) (m (sg r (2*q+1))) _) (by kernel_rfl) ?_; rintro e w' ⟨rfl,rfl⟩
       refine ⟨_,rfl,?_⟩
       simp only [aP,lI,l0,lS]
       have T:True:=trivial
       refine xpH 34 43 (.tuple #[.int .u32 (bA (v A) (v B) (v C) (v D) (m (sg r (2*q))) (m (sg r (2*q+1)))),.int .u32 (bB (v A) (v B) (v C) (v D) (m (sg r (2*q))) (m (sg r (2*q+1)))),.int .u32 (bC (v A) (v B) (v C) (v D) (m (sg r (2*q))) (m (sg r (2*q+1)))),.int .u32 (bD (v A) (v B) (v C) (v D) (m (sg r (2*q))) (m (sg r (2*q+1))))]) T ?_
       refine xpH 35 78 (.int .u32 (bA (v A) (v B) (v C) (v D) (m (sg r (2*q))) (m (sg r (2*q+1))))) T ?_; refine xpH 36 79 (.int .u32 (bB (v A) (v B) (v C) (v D) (m (sg r (2*q))) (m (sg r (2*q+1))))) T ?_; refine xpH 37 80 (.int .u32 (bC (v A) (v B) (v C) (v D) (m (sg r (2*q))) (m (sg r (2*q+1))))) T ?_
       refine xpH 38 81 (.int .u32 (bD (v A) (v B) (v C) (v D) (m (sg r (2*q))) (m (sg r (2*q+1))))) T ?_; have h0:=K.get _ _ _ _ mS
       replace K:=K.loose [(w.heap.size+1,.u32,16,m),(w.heap.size,.u32,8,h)] X .u32 16 v mS (fun p hp=>by rcases xc1 hp with rfl | hp; exact (mT _ mS); obtain rfl:=xm1 hp; exact (mI 2 rfl)) (fun p hp=>by rcases xc1 hp with rfl | hp; simp only; omega; obtain rfl:=xm1 hp; simp only; omega) (by omega)
       refine xqH 39 82 rfl (.pointer (some ⟨X,A,none⟩)) (fun w'=>ixWb X A l1 w' _ _ rfl rfl rfl) T ?_; refine storeH (i:=40) none rfl .u32 (bA (v A) (v B) (v C) (v D) (m (sg r (2*q))) (m (sg r (2*q+1)))) X A 87 _ _ (by kernel_rfl) rfl rfl rfl rfl rfl (by rw [h0.cell A l1]; rfl) (h0.free A l1) (by kernel_rfl) T ?_; simp only [Act.put]
       have h1:=h0.set A l1 (bA (v A) (v B) (v C) (v D) (m (sg r (2*q))) (m (sg r (2*q+1)))); replace K:=K.poke X 16 mS A [.int .u32 (bA (v A) (v B) (v C) (v D) (m (sg r (2*q))) (m (sg r (2*q+1))))]; clear h0; refine xqH 41 83 rfl (.pointer (some ⟨X,B,none⟩)) (fun w'=>ixWb X B l2 w' _ _ rfl rfl rfl) T ?_
       refine storeH (i:=42) none rfl .u32 (bB (v A) (v B) (v C) (v D) (m (sg r (2*q))) (m (sg r (2*q+1)))) X B 87 _ _ (by kernel_rfl) rfl rfl rfl rfl rfl (by rw [h1.cell B l2]; rfl) (h1.free B l2) (by kernel_rfl) T ?_; simp only [Act.put]; have h2:=h1.set B l2 (bB (v A) (v B) (v C) (v D) (m (sg r (2*q))) (m (sg r (2*q+1))))
       replace K:=K.poke X 16 mS B [.int .u32 (bB (v A) (v B) (v C) (v D) (m (sg r (2*q))) (m (sg r (2*q+1))))]; clear h1; refine xqH 43 84 rfl (.pointer (some ⟨X,C,none⟩)) (fun w'=>ixWb X C l3 w' _ _ rfl rfl rfl) T ?_
       refine storeH (i:=44) none rfl .u32 (bC (v A) (v B) (v C) (v D) (m (sg r (2*q))) (m (sg r (2*q+1)))) X C 87 _ _ (by kernel_rfl) rfl rfl rfl rfl rfl (by rw [h2.cell C l3]; rfl) (h2.free C l3) (by kernel_rfl) T ?_; simp only [Act.put]; have h3:=h2.set C l3 (bC (v A) (v B) (v C) (v D) (m (sg r (2*q))) (m (sg r (2*q+1))))
       replace K:=K.poke X 16 mS C [.int .u32 (bC (v A) (v B) (v C) (v D) (m (sg r (2*q))) (m (sg r (2*q+1))))]; clear h2; refine xqH 45 85 rfl (.pointer (some ⟨X,D,none⟩)) (fun w'=>ixWb X D l4 w' _ _ rfl rfl rfl) T ?_
       refine storeH (i:=46) none rfl .u32 (bD (v A) (v B) (v C) (v D) (m (sg r (2*q))) (m (sg r (2*q+1)))) X D 87 _ _ (by kernel_rfl) rfl rfl rfl rfl rfl (by rw [h3.cell D l4]; rfl) (h3.free D l4) (by kernel_rfl) T ?_; simp only [Act.put]; have h4:=h3.set D l4 (bD (v A) (v B) (v C) (v D) (m (sg r (2*q))) (m (sg r (2*q+1))))
       replace K:=K.poke X 16 mS D [.int .u32 (bD (v A) (v B) (v C) (v D) (m (sg r (2*q))) (m (sg r (2*q+1))))]; clear h3
       refine wpAnyH_done (by kernel_rfl) ?_ _
       rw [← HT.out] at h4
       replace K:=K.settle [(w.heap.size+1+1,8)] X .u32 16 _ mS (fun q hq=>mT _ hq) (fun q hq=>by obtain rfl:=xm1 hq; simp only; omega) h4; have HS:=show Hid _ from K; clear K h4 T l1 l2 l3 l4 HT; go_wp2
       go_roundw
       case rel=>first | exact ⟨q+1,by omega,by go_num,HS.out⟩ | ((repeat apply Exists.intro); refine ⟨⟨q+1,by omega,by go_num,HS.out⟩,rfl⟩)
       case measure=>simp [intOf]; omega
     · obtain rfl:q=8:=by omega
       have HS:=show Hid (Kr w (X+1) [(X,.u32,16,bR m v0 (r+1)),(w.heap.size+1,.u32,16,m),(w.heap.size,.u32,8,h)] [(w.heap.size+1+1,8)] wr) from K; clear K hlt2 hq g3; go_wp2
       go_roundw
       case rel=>first | exact ⟨r+1,by omega,by go_num,HS.out⟩ | ((repeat apply Exists.intro); refine ⟨⟨r+1,by omega,by go_num,HS.out⟩,rfl⟩)
       case measure=>simp [intOf]; omega
  · obtain rfl:r=10:=by omega
    clear hlt hr g1; generalize bR m v0 10=F at *
    replace K:Kr w (X+1) [(w.heap.size,.u32,8,h),(X,.u32,16,F)] [(w.heap.size+1+1,8)] wr:=K.sub _ (fun p hp=>by rcases xc1 hp with rfl | hp; exact (mI 2 rfl); obtain rfl:=xm1 hp; exact mS)
    go_wp2
    go_loopw [88] (fun i w'=>∃ (n:Nat) (f:Nat→Int),n≤8∧i=.int .i64 n∧Kr w (X+1) [(w.heap.size,.u32,8,f),(X,.u32,16,F)] [(w.heap.size+1+1,8)] w'∧(∀ j,j<n→f j=G j)∧∀ j,n≤j→f j=h j) (fun i _=>8-(intOf i).toNat)
    case atStart=>exact ⟨0,h,by omega,rfl,K,fun j hj=>by omega,fun _ _=>rfl⟩
    case round =>
     clear K
     obtain ⟨n,f,hn,rfl,K,hd,hk⟩:=hrel
     have g1:(0:Int)≤(n:Int):=by omega
     by_cases hlt:n<8
     · have g2:(n:Int)<8:=by omega
       have hz0:=K.base
       have HX:hxr (f n) (hxr (F n) (F (n+8)))=G n:=by rw [hk n (xnR _)]; exact HG.out n hlt
       have l8:n<16:=by omega
       have l88:n+8<16:=by omega
       go_upto_region 15 with fail; refine wp_region_C (S:=fun w'=>Kr w (X+1) [(w.heap.size,.u32,8,f),(X,.u32,16,F)] [(w.heap.size+1+1,8)] w') 13 (by kernel_rfl) K.drew ?_; clear K; intro K; generalize wr.drew=w4 at K ⊢; refine xpC 0 91 (.int .i64 (n:Int)) K ?_
       refine xqC 1 92 rfl (.pointer (some ⟨w.heap.size,n,none⟩)) (fun w'=>ixS (w.heap.size) n hlt w' _ _ rfl rfl rfl) K ?_; refine cellC (i:=2) (some 93) rfl .u32 (.int .u32 (f n)) (w.heap.size) n 87 _ rfl rfl (by kernel_rfl) rfl rfl rfl (by kernel_rfl) (by kernel_rfl) (by kernel_rfl) (by kernel_rfl) (fun _ _ _ h=>h) Tryz.underlying87 K (fun _ h=>(h.get _ _ _ _ mS).cell n hlt) ?_
       simp only [aP,lI,l0,lS]; refine xpC 3 94 (.int .i64 (n:Int)) K ?_; refine xqC 4 95 rfl (.pointer (some ⟨X,n,none⟩)) (fun w'=>ixW X n l8 w' _ _ rfl rfl rfl) K ?_
       refine cellC (i:=5) (some 96) rfl .u32 (.int .u32 (F n)) X n 87 _ rfl rfl (by kernel_rfl) rfl rfl rfl (by kernel_rfl) (by kernel_rfl) (by kernel_rfl) (by kernel_rfl) (fun _ _ _ h=>h) Tryz.underlying87 K (fun _ h=>(h.get _ _ _ _ (mT _ mS)).cell n l8) ?_; simp only [aP,lI,l0,lS]; refine xpC 6 97 (.int .i64 (n:Int)) K ?_
       refine xqC 7 98 rfl (.int .i64 ((n+8:Nat):Int)) (fun w=>addI .i64 _ _ _ _ _ _ _ rfl rfl rfl (by rw [xw6]; omega) w) K ?_; refine xqC 8 99 rfl (.pointer (some ⟨X,n+8,none⟩)) (fun w'=>ixW X (n+8) l88 w' _ _ rfl rfl rfl) K ?_
       refine cellC (i:=9) (some 100) rfl .u32 (.int .u32 (F (n+8))) X (n+8) 87 _ rfl rfl (by kernel_rfl) rfl rfl rfl (by kernel_rfl) (by kernel_rfl) (by kernel_rfl) (by kernel_rfl) (fun _ _ _ h=>h) Tryz.underlying87 K (fun _ h=>(h.get _ _ _ _ (mT _ mS)).cell (n+8) l88) ?_; simp only [aP,lI,l0,lS]
       refine xqC 10 101 rfl (.int .u32 (hxr (F n) (F (n+8)))) (fun w=>xorI .u32 _ _ _ _ _ _ _ rfl rfl rfl rfl w) K ?_; refine xqC 11 102 rfl (.int .u32 (G n)) (fun w=>xorI .u32 _ _ _ _ _ _ _ rfl rfl rfl HX w) K ?_; refine xqC 12 103 rfl (.pointer (some ⟨w.heap.size,n,none⟩)) (fun w'=>ixS (w.heap.size) n hlt w' _ _ rfl rfl rfl) K ?_
       refine storeC (S2:=fun _=>True) none rfl .u32 (G n) (w.heap.size) n 87 _ _ (by kernel_rfl) rfl rfl rfl rfl rfl (by rw [(K.get _ _ _ _ mS).cell n hlt]; rfl) ((K.get _ _ _ _ mS).free n hlt) (by kernel_rfl) (by kernel_rfl) ?_
       simp only [Act.put]
       refine wpAnyH_done (by kernel_rfl) ?_ _
       replace K:=K.setCell [(X,.u32,16,F)] (w.heap.size) .u32 8 f n hlt (G n) mS (fun p hp=>by obtain rfl:=xm1 hp; exact (mT _ mS)) (fun p hp=>by obtain rfl:=xm1 hp; simp only; omega) (xnR _)
       have HS:=show Hid _ from (And.intro K (And.intro (show ∀ j,j<n+1→upd f n (G n) j=G j from fun j hj=>by
        by_cases e:j=n
        · subst e; rw [upd_same]
        · rw [upd_other _ _ _ _ e]; exact hd j (by omega)) (show ∀ j,n+1≤j→upd f n (G n) j=h j from fun j hj=>by rw [upd_other _ _ _ _ (show j≠n by omega)]; exact hk j (by omega))))
       clear K hd hk HX; generalize w4.setCell ⟨w.heap.size,n,none⟩ (.int .u32 (G n))=w5 at HS ⊢; generalize upd f n (G n)=f' at HS; go_wp2
       go_roundw
       case rel=>first | exact ⟨n+1,f',by omega,by go_num,HS.out⟩ | ((repeat apply Exists.intro); refine ⟨⟨n+1,f',by omega,by go_num,HS.out⟩,rfl⟩)
       case measure=>simp [intOf]; omega
     · obtain rfl:n=8:=by omega
       have HR:=(K.get _ _ _ _ mS).congr (g:=G) (fun j hj=>hd j hj)
       have hz':=(K.room _ mS).1
       have hB:=(K.fill _ _ mS (row .u32 8 G)).below; clear K hd hk hlt hn g1
       go_wp2_with (first | (refine wpList_load_mid rfl 171 _ rfl (w.heap.size) 0 rfl (row .u32 8 (G)) _ (Has.range (HR)) Tryz.underlying171 rfl (bst_info _) ?_) | (refine wpList_store_mid rfl 171 _ _ rfl (w.heap.size+1+1) 0 (row .u32 8 G).toArray rfl rfl (room_of hz') (bst_info' _) (all_oneCell_toArray (row_one _ _ _)) ?_))
       exact bodyPost_ret (v:=(.agg (row .u32 8 (G)).toArray)) (results_row Tryz.results113 rfl (Has.all hz' .u32 G).range Tryz.underlying171 rfl (bst_info G)) rfl ⟨by first | rfl | rw [hGe],hB⟩
theorem bfinish_any (h0:Nat→Int) (hh:In V 8 h0) (n:Nat) (f:Nat→Int) (c:Nat) (sp:Option Addr) (len cap:Nat) (hn:n≤64*c+len) (hn':64*c+len≤n) (hc:c=0∨0<len) (hlen:n≤281474976710656) (hcap:len≤cap) (z:Nat→Int) (hz:In 256 len z) (hf:∀ j,f (64*c+j)=padz len z j) (w:World) (hg:BGlob w) (hs:Src w sp len z) :
 Calls Tryz.prog 112 #[(.agg (row .u32 8 (tH h0 n f c)).toArray),.int .u64 ((64*c:Nat):Int),.slice sp len cap] w fun e w'=>e=.returned (.agg (row .u32 8 (tH h0 n f (nbt n))).toArray)∧Below w.heap.size w w':=by
 have K:=Kr.init w; replace K:=K.box .u32 8 (tH h0 n f c) 171 (w.heap.size) rfl; replace K:=K.make 8 zu32_8 171 (w.heap.size+1) (by simp) (bst_zero _ _ _ (by simp)).there
 go_enter Tryz.func112,Tryz.ntmps112
 go_upto_region 1 with fail; generalize ((w.alloc (.cells (row .u32 8 (tH h0 n f c)).toArray 171)).alloc (.cells zu32_8 171))=w0 at K ⊢
 go_loopw [1,2] (fun d b w'=>∃ (i L:Nat) (sq:Option Addr) (cq:Nat),64*i+L=len∧(c+i=0∨0<L)∧L≤cq∧d=.int .u64 ((64*(c+i):Nat):Int)∧b=.slice sq L cq∧Src w sq L (fun j=>z (64*i+j))∧Kr w (w.heap.size+1+1) [(w.heap.size,.u32,8,tH h0 n f (c+i))] [(w.heap.size+1,8)] w') (fun _ b _=>slen b)
 case atStart=>exact ⟨0,len,sp,cap,by omega,by omega,hcap,rfl,rfl,by simpa using hs,K⟩
 case round =>
  clear K hs
  obtain ⟨i,L,sq,cq,hL,hp,hLc,rfl,rfl,hs,K⟩:=hrel
  by_cases hlt:64<L
  · have g1:(64:Int)<(L:Int):=by omega
    obtain ⟨sh,hh1,hh2⟩:=cut_hi (P:=Tryz.prog) (t:=29) (by kernel_rfl) (fun _=>by kernel_rfl) sq L cq 64 (by omega) hLc
    obtain ⟨sl,hl1,hl2⟩:=cut_lo (P:=Tryz.prog) (t:=29) (by kernel_rfl) (fun _=>by kernel_rfl) sq L cq 64 (by omega) hLc
    have HP:=show Hid _ from (show bpr (tH h0 n f (c+i)) (padz 64 (fun j=>z (64*i+j))) ((64*(c+i)+64:Nat):Int) false=tH h0 n f (c+i+1) from by
     have e1:min (64*(c+i)+64) n=64*(c+i)+64:=by omega
     have e2:decide (c+i+1=nbt n)=false:=decide_eq_false (by unfold nbt; rw [if_neg (by omega)]; omega)
     conv=>rhs; unfold tH; rw [e1,e2]
     refine bpr_congr _ _ _ _ _ (fun j hj=>?_)
     have e3:=hf (64*i+j)
     rw [show 64*c+(64*i+j)=64*(c+i)+j by omega] at e3
     rw [e3]
     unfold padz
     rw [if_pos hj,if_pos (by omega)])
    go_upto_region 2 with fail; refine wp_region_list ?_; refine xpL (.int .u64 ((64*(c+i):Nat):Int)) ?_; refine xqL (.int .u64 ((64*(c+i)+64:Nat):Int)) (fun w=>addI .u64 _ _ _ _ _ _ _ rfl rfl rfl (by rw [IntKind.wrap_u64]; omega) w) ?_; refine xpL (.int .u64 ((64*(c+i)+64:Nat):Int)) ?_; show Exit.then _ _ _ _ _; go_upto_region 3 with fail
    refine wp_region_C (S:=fun w'=>Kr w (w.heap.size+1+1) [(w.heap.size,.u32,8,tH h0 n f (c+i))] [(w.heap.size+1,8)] w') 6 (by kernel_rfl) K.drew ?_; clear K; intro K
    refine rowC (i:=0) (some 12) rfl .u32 8 (tH h0 n f (c+i)) (w.heap.size) 0 171 _ _ rfl rfl (by kernel_rfl) rfl rfl rfl (by kernel_rfl) (by kernel_rfl) (by kernel_rfl) (by kernel_rfl) (fun _ _ _ h=>h) Tryz.underlying171 rfl (bst_info _) K (fun _ h=>(h.get _ _ _ _ mS).range) ?_; simp only [aP,lI,l0,lS]; refine xpC 1 13 (.slice sq L cq) K ?_
    refine xqC 2 14 rfl (.slice sh 64 cq) (fun w=>cutHi _ _ _ _ _ _ rfl rfl rfl (hh1 w)) K ?_; refine xpC 4 16 (.int .u64 ((64*(c+i)+64:Nat):Int)) K ?_; refine callMC (i:=3) (some 15) rfl (by kernel_rfl) rfl rfl (fun _=>by kernel_rfl) (bload_any sh 64 cq (xnR _) (fun j=>z (64*i+j)) (fun j hj=>hz _ (by omega)) _ ((hh2 _ _ hs).below K.below (xnR _))) ?_; rintro e w2 ⟨rfl,l⟩
    replace K:=K.call l; clear l
    refine ⟨_,rfl,K,?_⟩
    simp only [aP,lI,l0,lS]; refine callMC (i:=5) (some 17) rfl (by kernel_rfl) rfl rfl (fun _=>by kernel_rfl) (bpress_any (tH h0 n f (c+i)) (tH_in h0 n f hh _) (padz 64 (fun j=>z (64*i+j))) ((64*(c+i)+64:Nat):Int) false _ (hg.below K.below hg.size)) ?_; rintro e w3 ⟨rfl,l⟩; replace K:=K.call l; clear l
    refine ⟨_,rfl,K,?_⟩
    simp only [aP,lI,l0,lS]
    rw [HP.out]
    refine storesC (S2:=fun _=>True) none rfl .u32 8 (tH h0 n f (c+i+1)) (w.heap.size) 171 _ _ (by kernel_rfl) rfl rfl rfl rfl rfl (bst_there (K.get _ _ _ _ mS)) (bst_info' _) (by kernel_rfl) ?_; simp only [Act.put]
    refine wpAnyH_done (by kernel_rfl) ?_ _
    replace K:=K.set [] (w.heap.size) .u32 8 (tH h0 n f (c+i)) (tH h0 n f (c+i+1)) mS (fun _ hp=>by cases hp) (fun _ hp=>by cases hp) (xnR _); generalize w3.setCells (w.heap.size) 0 (row .u32 8 (tH h0 n f (c+i+1)))=w4 at K ⊢; clear HP hh1 hh2; go_upto_region 4 with fail; refine wp_region_list ?_; refine xpL (.slice sq L cq) ?_
    refine xqL (.slice sl (L-64) (cq-64)) (fun w=>cutOp _ _ _ _ _ _ rfl rfl rfl (hl1 w)) ?_; refine xpL (.slice sl (L-64) (cq-64)) ?_
    have HS:=show Hid _ from (And.intro (show Src w sl (L-64) (fun j=>z (64*(i+1)+j)) from (hl2 _ _ hs).congr (fun j hj=>by show z (64*i+(64+j))=_; congr 1; omega)) (show Kr w (w.heap.size+1+1) [(w.heap.size,.u32,8,tH h0 n f (c+(i+1)))] [(w.heap.size+1,8)] w4 from K)); clear K hs hl1 hl2
    show Exit.inBlock _ _ _ _ _
    go_wp2
    go_roundw
    case rel=>first | exact ⟨i+1,L-64,sl,cq-64,by omega,by omega,by omega,by congr 1,rfl,HS.out⟩ | ((repeat apply Exists.intro); refine ⟨⟨i+1,L-64,sl,cq-64,by omega,by omega,by omega,by congr 1,rfl,HS.out⟩,rfl⟩)
    case measure=>simp [slen]; omega
  · have g1:(L:Int)≤64:=by omega
    have HP:=show Hid _ from (show bpr (tH h0 n f (c+i)) (padz L (fun j=>z (64*i+j))) ((64*(c+i)+L:Nat):Int) true=tH h0 n f (nbt n) from by
     have e0:nbt n=c+i+1:=by
      unfold nbt
      split
      · omega
      · omega
     have e1:min (64*(c+i)+64) n=64*(c+i)+L:=by omega
     have e2:decide (c+i+1=c+i+1)=true:=decide_eq_true rfl
     rw [e0]
     conv=>rhs; unfold tH; rw [e1,e0,e2]
     refine bpr_congr _ _ _ _ _ (fun j hj=>?_)
     have e3:=hf (64*i+j)
     rw [show 64*c+(64*i+j)=64*(c+i)+j by omega] at e3
     rw [e3]
     unfold padz
     by_cases e:j<L
     · rw [if_pos e,if_pos (by omega)]
     · rw [if_neg e,if_neg (by omega)])
    go_upto_region 5 with fail; refine wp_region_C (S:=fun w'=>Kr w (w.heap.size+1+1) [(w.heap.size,.u32,8,tH h0 n f (c+i))] [(w.heap.size+1,8)] w') 9 (by kernel_rfl) K.drew ?_; clear K; intro K
    refine rowC (i:=0) (some 20) rfl .u32 8 (tH h0 n f (c+i)) (w.heap.size) 0 171 _ _ rfl rfl (by kernel_rfl) rfl rfl rfl (by kernel_rfl) (by kernel_rfl) (by kernel_rfl) (by kernel_rfl) (fun _ _ _ h=>h) Tryz.underlying171 rfl (bst_info _) K (fun _ h=>(h.get _ _ _ _ mS).range) ?_; simp only [aP,lI,l0,lS]; refine xpC 1 21 (.slice sq L cq) K ?_
    refine xpC 3 23 (.int .u64 ((64*(c+i):Nat):Int)) K ?_; refine xpC 4 24 (.slice sq L cq) K ?_; refine xqC 5 25 rfl (.int .i64 (L:Int)) (fun w=>lenS _ 29 5 sq L cq rfl Tryz.underlying29 rfl w) K ?_; refine xqC 6 26 rfl (.int .u64 (L:Int)) (fun w=>convI .i64 .u64 _ _ _ _ _ rfl (by kernel_rfl) Tryz.underlying107 (by kernel_rfl) rfl (by rw [IntKind.wrap_u64]; omega) w) K ?_
    refine xqC 7 27 rfl (.int .u64 ((64*(c+i)+L:Nat):Int)) (fun w=>addI .u64 _ _ _ _ _ _ _ rfl rfl rfl (by rw [IntKind.wrap_u64]; omega) w) K ?_; refine callMC (i:=2) (some 22) rfl (by kernel_rfl) rfl rfl (fun _=>by kernel_rfl) (bload_any sq L cq (by omega) (fun j=>z (64*i+j)) (fun j hj=>hz _ (by omega)) _ (hs.below K.below (xnR _))) ?_; rintro e w2 ⟨rfl,l⟩
    replace K:=K.call l; clear l
    refine ⟨_,rfl,K,?_⟩
    simp only [aP,lI,l0,lS]; refine callMC (i:=8) (some 28) rfl (by kernel_rfl) rfl rfl (fun _=>by kernel_rfl) (bpress_any (tH h0 n f (c+i)) (tH_in h0 n f hh _) (padz L (fun j=>z (64*i+j))) ((64*(c+i)+L:Nat):Int) true _ (hg.below K.below hg.size)) ?_; rintro e w3 ⟨rfl,l⟩; replace K:=K.call l; clear l
    refine ⟨_,rfl,K,?_⟩
    simp only [aP,lI,l0,lS]
    rw [HP.out]
    have hz':=(K.room _ mS).1
    refine storesC (S2:=fun _=>True) none rfl .u32 8 (tH h0 n f (nbt n)) (w.heap.size+1) 171 _ _ (by kernel_rfl) rfl rfl rfl rfl rfl (room_of hz') (bst_info' _) (by kernel_rfl) ?_; simp only [Act.put]
    refine wpAnyH_done (by kernel_rfl) ?_ _
    have hB:=(K.fill _ _ mS (row .u32 8 (tH h0 n f (nbt n)))).below; clear K HP hs hp; generalize hGe:tH h0 n f (nbt n)=G at *; go_wp2
    exact bodyPost_ret (v:=(.agg (row .u32 8 (G)).toArray)) (results_row Tryz.results112 rfl (Has.all hz' .u32 G).range Tryz.underlying171 rfl (bst_info G)) rfl ⟨by first | rfl | rw [hGe] | (rw [← hGe]; done) | (rw [← hGe,Nat.zero_add]; done) | (rw [← hGe,Nat.add_zero]; done),hB⟩
theorem brun_any (h0:Nat→Int) (hh:In V 8 h0) (fp:Option Addr) (fl fc:Nat) (hfl:fl=0∨fl=64) (hfc:fl≤fc) (y:Nat→Int) (hy:In 256 fl y) (sp:Option Addr) (len cap:Nat) (hlen:len≤140737488355072) (hcap:len≤cap) (z:Nat→Int) (hz:In 256 len z) (w:World) (hg:BGlob w) (hf:Src w fp fl y) (hs:Src w sp len z) :
 Calls Tryz.prog 108 #[(.agg (row .u32 8 (h0)).toArray),.slice fp fl fc,.slice sp len cap] w fun e w'=>e=.returned (.agg (row .u32 8 (tH h0 (fl+len) (tx2 fl y len z) (nbt (fl+len)))).toArray)∧Below w.heap.size w w':=by
 have K:=Kr.init w; replace K:=K.box .u32 8 h0 171 (w.heap.size) rfl; replace K:=K.make 8 zu32_8 171 (w.heap.size+1) (by simp) (bst_zero _ _ _ (by simp)).there
 go_enter Tryz.func108,Tryz.ntmps108
 go_upto_region 1 with fail; generalize ((w.alloc (.cells (row .u32 8 h0).toArray 171)).alloc (.cells zu32_8 171))=w0 at K ⊢
 rcases hfl with rfl | rfl
 · go_upto_region 2 with fail
   refine wp_region_list ?_; refine rowKL .u32 8 (h0) (w.heap.size) 0 171 _ _ rfl rfl rfl Tryz.underlying171 rfl (bst_info _) ((K.get _ _ _ _ mS).range) ?_; simp only [aP,lI,l0,lS]; refine xpL (.slice sp len cap) ?_
   refine xcL (bfinish_any h0 hh (0+len) (tx2 0 y len z) 0 sp len cap (by omega) (by omega) (.inl rfl) (by omega) hcap z hz (fun j=>by unfold tx2; rw [if_neg (xnZ _),Nat.sub_zero,Nat.mul_zero,Nat.zero_add]) _ (hg.below K.below hg.size) (hs.below K.below (xnR _))) ?_
   rintro e w1 ⟨rfl,l⟩; replace K:=K.call l; clear l; refine xeL ?_
   have hz':=(K.room _ mS).1
   refine storesL .u32 8 (tH h0 (0+len) (tx2 0 y len z) (nbt (0+len))) (w.heap.size+1) 171 _ _ rfl rfl rfl rfl (room_of hz') (bst_info' _) ?_; simp only [Act.put]; have hB:=(K.fill _ _ mS (row .u32 8 (tH h0 (0+len) (tx2 0 y len z) (nbt (0+len))))).below; clear K; generalize hGe:(tH h0 (0+len) (tx2 0 y len z) (nbt (0+len)))=G at *; show Exit.then _ _ _ _ _; go_wp2
   exact bodyPost_ret (v:=(.agg (row .u32 8 (G)).toArray)) (results_row Tryz.results108 rfl (Has.all hz' .u32 G).range Tryz.underlying171 rfl (bst_info G)) rfl ⟨by first | rfl | rw [hGe] | (rw [← hGe]; done) | (rw [← hGe,Nat.zero_add]; done) | (rw [← hGe,Nat.add_zero]; done),hB⟩
 · by_cases hl0:len=0
   · subst hl0
     go_upto_region 4 with fail; refine wp_region_list ?_; refine rowKL .u32 8 (h0) (w.heap.size) 0 171 _ _ rfl rfl rfl Tryz.underlying171 rfl (bst_info _) ((K.get _ _ _ _ mS).range) ?_; simp only [aP,lI,l0,lS]; refine xpL (.slice fp 64 fc) ?_
     refine xcL (bfinish_any h0 hh (64+0) (tx2 64 y 0 z) 0 fp 64 fc (by omega) (by omega) (.inl rfl) (by omega) hfc y hy (tx2_none y z) _ (hg.below K.below hg.size) (hf.below K.below (xnR _))) ?_; rintro e w1 ⟨rfl,l⟩; replace K:=K.call l; clear l; refine xeL ?_
     have hz':=(K.room _ mS).1
     refine storesL .u32 8 (tH h0 (64+0) (tx2 64 y 0 z) (nbt (64+0))) (w.heap.size+1) 171 _ _ rfl rfl rfl rfl (room_of hz') (bst_info' _) ?_; simp only [Act.put]; have hB:=(K.fill _ _ mS (row .u32 8 (tH h0 (64+0) (tx2 64 y 0 z) (nbt (64+0))))).below; clear K; generalize hGe:(tH h0 (64+0) (tx2 64 y 0 z) (nbt (64+0)))=G at *; show Exit.then _ _ _ _ _; go_wp2
     exact bodyPost_ret (v:=(.agg (row .u32 8 (G)).toArray)) (results_row Tryz.results108 rfl (Has.all hz' .u32 G).range Tryz.underlying171 rfl (bst_info G)) rfl ⟨by first | rfl | rw [hGe] | (rw [← hGe]; done) | (rw [← hGe,Nat.zero_add]; done) | (rw [← hGe,Nat.add_zero]; done),hB⟩
   · have g1:(len:Int)≠0:=by omega
     have HP:=show Hid _ from (show bpr h0 (padz 64 y) ((64:Nat):Int) false=tH h0 (64+len) (tx2 64 y len z) 1 from by
      have e1:min (64*0+64) (64+len)=64:=by omega
      have e2:decide (0+1=nbt (64+len))=false:=decide_eq_false (by unfold nbt; rw [if_neg (by omega)]; omega)
      conv=>rhs; unfold tH; rw [e1,e2]
      refine bpr_congr _ _ _ _ _ (fun j hj=>?_)
      unfold padz tx2
      rw [if_pos hj,if_pos (show 64*0+j<64 by omega),Nat.mul_zero,Nat.zero_add])
     go_upto_region 5 with fail; refine wp_region_C (S:=fun w'=>Kr w (w.heap.size+1+1) [(w.heap.size,.u32,8,h0)] [(w.heap.size+1,8)] w') 6 (by kernel_rfl) K.drew ?_; clear K; intro K
     refine rowC (i:=0) (some 19) rfl .u32 8 (h0) (w.heap.size) 0 171 _ _ rfl rfl (by kernel_rfl) rfl rfl rfl (by kernel_rfl) (by kernel_rfl) (by kernel_rfl) (by kernel_rfl) (fun _ _ _ h=>h) Tryz.underlying171 rfl (bst_info _) K (fun _ h=>(h.get _ _ _ _ mS).range) ?_; simp only [aP,lI,l0,lS]; refine xpC 1 20 (.slice fp 64 fc) K ?_; refine xpC 4 23 (.slice sp len cap) K ?_
     refine callMC (i:=2) (some 21) rfl (by kernel_rfl) rfl rfl (fun _=>by kernel_rfl) (bload_any fp 64 fc (xnR _) y hy _ (hf.below K.below (xnR _))) ?_; rintro e w2 ⟨rfl,l⟩; replace K:=K.call l; clear l
     refine ⟨_,rfl,K,?_⟩
     simp only [aP,lI,l0,lS]; refine callMC (i:=3) (some 22) rfl (by kernel_rfl) rfl rfl (fun _=>by kernel_rfl) (bpress_any h0 hh (padz 64 y) ((64:Nat):Int) false _ (hg.below K.below hg.size)) ?_; rintro e w3 ⟨rfl,l⟩; replace K:=K.call l; clear l
     refine ⟨_,rfl,K,?_⟩
     simp only [aP,lI,l0,lS]
     rw [HP.out]
     refine callMC (i:=5) (some 24) rfl (by kernel_rfl) rfl rfl (fun _=>by kernel_rfl) (bfinish_any h0 hh (64+len) (tx2 64 y len z) 1 sp len cap (by omega) (by omega) (.inr (by omega)) (by omega) hcap z hz (fun j=>by unfold tx2; rw [if_neg (show ¬ 64*1+j<64 by omega),show 64*1+j-64=j by omega]) _ (hg.below K.below hg.size) (hs.below K.below (xnR _))) ?_
     rintro e w4 ⟨rfl,l⟩; replace K:=K.call l; clear l
     refine ⟨_,rfl,K,?_⟩
     simp only [aP,lI,l0,lS]
     have hz':=(K.room _ mS).1
     refine storesC (S2:=fun _=>True) none rfl .u32 8 (tH h0 (64+len) (tx2 64 y len z) (nbt (64+len))) (w.heap.size+1) 171 _ _ (by kernel_rfl) rfl rfl rfl rfl rfl (room_of hz') (bst_info' _) (by kernel_rfl) ?_; simp only [Act.put]
     refine wpAnyH_done (by kernel_rfl) ?_ _
     have hB:=(K.fill _ _ mS (row .u32 8 (tH h0 (64+len) (tx2 64 y len z) (nbt (64+len))))).below; clear K HP hs; generalize hGe:(tH h0 (64+len) (tx2 64 y len z) (nbt (64+len)))=G at *; go_wp2
     exact bodyPost_ret (v:=(.agg (row .u32 8 (G)).toArray)) (results_row Tryz.results108 rfl (Has.all hz' .u32 G).range Tryz.underlying171 rfl (bst_info G)) rfl ⟨by first | rfl | rw [hGe] | (rw [← hGe]; done) | (rw [← hGe,Nat.zero_add]; done) | (rw [← hGe,Nat.add_zero]; done),hB⟩
theorem bbehind_any (fp:Option Addr) (fl fc:Nat) (hfl:fl=0∨fl=64) (hfc:fl≤fc) (y:Nat→Int) (hy:In 256 fl y) (sp:Option Addr) (len cap:Nat) (hlen:len≤140737488355072) (hcap:len≤cap) (z:Nat→Int) (hz:In 256 len z) (w:World) (hg:BGlob w) (hf:Src w fp fl y) (hs:Src w sp len z) :
 Calls Tryz.prog 99 #[.slice fp fl fc,.slice sp len cap] w fun e w'=>e=.returned (.agg (row .u8 32 (bhash (fl+len) (app y fl z))).toArray)∧Below w.heap.size w w':=by
 have HE:=show Hid _ from bhash_tx2 fl y len z; have K:=Kr.init w; replace K:=K.make 32 zu8_32 23 (w.heap.size) rfl (key_zero _ _ _ rfl).there
 go_enter Tryz.func99,Tryz.ntmps99
 go_upto_region 1 with fail; generalize (w.alloc (.cells zu8_32 23))=w0 at K ⊢; refine wp_region_list ?_; refine xcL (bbegin_any 0 32 (by decide) (by decide) _ (hg.below K.below hg.size)) ?_; rintro e w1 ⟨rfl,l⟩; replace K:=K.call l; clear l; refine xeL ?_; refine xpL (.slice fp fl fc) ?_; refine xpL (.slice sp len cap) ?_
 refine xcL (brun_any (bh0 0 32) (bh0_in 0 32 (by decide) (by decide)) fp fl fc hfl hfc y hy sp len cap hlen hcap z hz _ (hg.below K.below hg.size) (hf.below K.below (xnR _)) (hs.below K.below (xnR _))) ?_; rintro e w2 ⟨rfl,l⟩; replace K:=K.call l; clear l; refine xeL ?_; refine xcL (bbytes_any (tH (bh0 0 32) (fl+len) (tx2 fl y len z) (nbt (fl+len))) _) ?_; rintro e w3 ⟨rfl,l⟩
 replace K:=K.call l; clear l; refine xeL ?_
 rw [← HE.out]
 have hz':=(K.room _ mS).1
 refine storesL .u8 32 (bhash (fl+len) (app y fl z)) (w.heap.size) 23 _ _ rfl rfl rfl rfl (room_of hz') (key_info' _) ?_; simp only [Act.put]; have hB:=(K.fill _ _ mS (row .u8 32 (bhash (fl+len) (app y fl z)))).below; clear K HE; generalize hGe:bhash (fl+len) (app y fl z)=G at *; show Exit.then _ _ _ _ _; go_wp2
 exact bodyPost_ret (v:=(.agg (row .u8 32 (G)).toArray)) (results_row Tryz.results99 rfl (Has.all hz' .u8 G).range Tryz.underlying23 rfl (key_info G)) rfl ⟨by first | rfl | rw [hGe] | (rw [← hGe]; done) | (rw [← hGe,Nat.zero_add]; done) | (rw [← hGe,Nat.add_zero]; done),hB⟩
theorem bpad_any (kp:Option Addr) (kl kc:Nat) (hkl:kl≤64) (key:Nat→Int) (c:Int) (w:World) (hk:Src w kp kl key) :
 Calls Tryz.prog 100 #[.slice kp kl kc,.int .u8 c] w fun e w'=>∃ g,e=.returned (.slice (some ⟨g,0,none⟩) 64 64)∧Has w' g .u8 64 (bxx c (padz kl key))∧(w.heap.size≤g∧g<w'.heap.size)∧Below w.heap.size w w':=by
 go_enter Tryz.func100,Tryz.ntmps100
 go_upto_region 1 with fail; have K:=(Kr.init w).box .u8 64 (fun _=>0) 5 (w.heap.size) rfl; refine wp_region_list ?_; refine actL (w':=w.alloc (.cells (row .u8 64 (fun _=>0)).toArray 5)) (.slice (some ⟨w.heap.size,0,none⟩) 64 64) rfl (makeOp 29 _ _ _ _ _ rfl rfl rfl (made8 64 (by decide) w)) ?_; simp only [aP,lI,l0,lS]; refine xpL (.slice (some ⟨w.heap.size,0,none⟩) 64 64) ?_
 show Exit.then _ _ _ _ _; go_upto_region 2 with fail; generalize w.alloc (.cells (row .u8 64 (fun _=>0)).toArray 5)=w0 at K ⊢; have HR:=K.get _ _ _ _ mS; replace K:=K.loose [] (w.heap.size) .u8 64 (fun _=>0) mS (fun _ hp=>by cases hp) (fun _ hp=>by cases hp) (xnR _); refine wp_region_list ?_; refine xpL (.slice (some ⟨w.heap.size,0,none⟩) 64 64) ?_; refine xpL (.slice kp kl kc) ?_
 refine xaL (.int .i64 (kl:Int)) (run_copy_src _ _ 29 29 5 rfl Tryz.underlying29 (by kernel_rfl) (w.heap.size) 64 64 kl kc 64 kp key rfl rfl hkl hkl HR.there (hk.below K.below (xnR _))) ?_; replace K:=K.fill (w.heap.size) 64 mS (row .u8 kl key)
 replace HR:=(HR.part 0 kl (by omega) key).congr (g:=padz kl key) (fun j hj=>by
  unfold over padz
  by_cases e:j<kl
  · rw [if_pos (by omega),if_pos e,Nat.sub_zero]
  · rw [if_neg (by omega),if_neg e])
 replace K:=K.settle [] (w.heap.size) .u8 64 (padz kl key) mS (fun _ hq=>by cases hq) (fun _ hq=>by cases hq) HR; generalize w0.setCells (w.heap.size) 0 (row .u8 kl key)=w1 at K ⊢; clear HR w0 hk hkl; show Exit.then _ _ _ _ _; generalize hpe:padz kl key=p at K; go_wp2
 go_loopw [13] (fun i w'=>∃ (n:Nat) (f:Nat→Int),n≤64∧i=.int .i64 n∧Kr w (w.heap.size+1) [(w.heap.size,.u8,64,f)] [] w'∧(∀ j,j<n→f j=bxx c p j)∧∀ j,n≤j→f j=p j) (fun i _=>64-(intOf i).toNat)
 case atStart=>exact ⟨0,p,by omega,rfl,K,fun j hj=>by omega,fun _ _=>rfl⟩
 case round =>
  clear K
  obtain ⟨n,f,hn,rfl,K,hd,hk⟩:=hrel
  have g1:(0:Int)≤(n:Int):=by omega
  by_cases hlt:n<64
  · have g2:(n:Int)<64:=by omega
    have HX:bits .xor .u8 (f n) c=bxx c p n:=by rw [hk n (xnR _)]; rfl
    go_upto_region 6 with fail; refine wp_region_list ?_; refine xpL (.slice (some ⟨w.heap.size,0,none⟩) 64 64) ?_; refine xpL (.int .i64 (n:Int)) ?_; refine xqL (.pointer (some ⟨w.heap.size,n,none⟩)) (fun w'=>idxO (w.heap.size) 64 64 n hlt w' _ _ rfl rfl rfl) ?_; refine cellL .u8 (.int .u8 (f n)) (w.heap.size) n 5 _ rfl rfl rfl Tryz.underlying5 ((K.get _ _ _ _ mS).cell n hlt) ?_
    simp only [aP,lI,l0,lS]; refine xpL (.int .u8 c) ?_; refine xqL (.int .u8 (bxx c p n)) (fun w=>xorI .u8 _ _ _ _ _ _ _ rfl rfl rfl HX w) ?_; refine xqL (.pointer (some ⟨w.heap.size,n,none⟩)) (fun w'=>idxO (w.heap.size) 64 64 n hlt w' _ _ rfl rfl rfl) ?_
    refine storeL .u8 (bxx c p n) (w.heap.size) n 5 _ _ rfl rfl rfl rfl (by rw [(K.get _ _ _ _ mS).cell n hlt]; rfl) ((K.get _ _ _ _ mS).free n hlt) (by kernel_rfl) ?_
    simp only [Act.put]; replace K:=K.setCell [] (w.heap.size) .u8 64 f n hlt (bxx c p n) mS (fun _ hp=>by cases hp) (fun _ hp=>by cases hp) (xnR _)
    have HS:=show Hid _ from (And.intro K (And.intro (show ∀ j,j<n+1→upd f n (bxx c p n) j=bxx c p j from fun j hj=>by
     by_cases e:j=n
     · subst e; rw [upd_same]
     · rw [upd_other _ _ _ _ e]; exact hd j (by omega)) (show ∀ j,n+1≤j→upd f n (bxx c p n) j=p j from fun j hj=>by rw [upd_other _ _ _ _ (show j≠n by omega)]; exact hk j (by omega))))
    clear K hd hk HX; generalize wr.setCell ⟨w.heap.size,n,none⟩ (.int .u8 (bxx c p n))=w5 at HS ⊢; generalize upd f n (bxx c p n)=f' at HS
    show Exit.inBlock _ _ _ _ _
    go_wp2
    go_roundw
    case rel=>first | exact ⟨n+1,f',by omega,by go_num,HS.out⟩ | ((repeat apply Exists.intro); refine ⟨⟨n+1,f',by omega,by go_num,HS.out⟩,rfl⟩)
    case measure=>simp [intOf]; omega
  · obtain rfl:n=64:=by omega
    have HR:=(K.get _ _ _ _ mS).congr (g:=bxx c p) (fun j hj=>hd j hj); have hB:=K.below; have hz:=K.size; clear K hd hk hlt hn g1; go_wp2; go_ret
    exact ⟨w.heap.size,rfl,by rw [hpe]; exact HR,⟨xnR _,by omega⟩,hB⟩
theorem bcutAll_key (b:Nat) (w:World):(Instr.sliceAt 23 (.pointer (some ⟨b,0,none⟩)) none none none).run Tryz.prog w=.ok (.slice (some ⟨b,0,none⟩) 32 32) w:=by kernel_rfl
theorem app_none (y z:Nat→Int):app y 0 z=z:=by
 funext j
 unfold app
 rw [if_neg (xnZ j),Nat.sub_zero]
theorem bhash_any:BHashOK:=by
 intro sp len cap hlen hcap _ z hz w hg hs; have K:=Kr.init w; replace K:=K.make 32 zu8_32 23 (w.heap.size) rfl (key_zero _ _ _ rfl).there
 go_enter Tryz.func98,Tryz.ntmps98
 go_upto_region 1 with fail; generalize (w.alloc (.cells zu8_32 23))=w0 at K ⊢; refine wp_region_list ?_; refine xpL (.slice sp len cap) ?_; refine xcL (bbehind_any none 0 0 (.inl rfl) (xnR _) (fun _=>0) (fun j hj=>absurd hj (xnZ j)) sp len cap hlen hcap z hz _ (hg.below K.below hg.size) (fun j hj=>absurd hj (xnZ j)) (hs.below K.below (xnR _))) ?_; rintro e w1 ⟨rfl,l⟩
 replace K:=K.call l; clear l; refine xeL ?_
 rw [app_none,Nat.zero_add]
 have hz':=(K.room _ mS).1
 refine storesL .u8 32 (bhash len z) (w.heap.size) 23 _ _ rfl rfl rfl rfl (room_of hz') (key_info' _) ?_; simp only [Act.put]; have hB:=(K.fill _ _ mS (row .u8 32 (bhash len z))).below; clear K; generalize hGe:bhash len z=G at *; show Exit.then _ _ _ _ _; go_wp2
 exact bodyPost_ret (v:=(.agg (row .u8 32 (G)).toArray)) (results_row Tryz.results98 rfl (Has.all hz' .u8 G).range Tryz.underlying23 rfl (key_info G)) rfl ⟨by first | rfl | rw [hGe] | (rw [← hGe]; done),hB⟩
theorem bkk_short (kl:Nat) (key:Nat→Int) (h:kl≤64):bkk kl key=padz kl key:=by
 funext j
 unfold bkk padz
 rw [if_pos h]
theorem bkk_long (kl:Nat) (key:Nat→Int) (h:¬ kl≤64):bkk kl key=padz 32 (bhash kl key):=by
 funext j
 unfold bkk padz
 rw [if_neg h]
theorem bmac_any:BMacOK:=by
 intro kp kl kc hkl hkc _ key hkk sp len cap hlen hcap _ z hz w hg hk hs; have K:=Kr.init w; replace K:=K.make 32 zu8_32 23 (w.heap.size) rfl (key_zero _ _ _ rfl).there
 go_enter Tryz.func83,Tryz.ntmps83
 go_upto_region 1 with fail; generalize (w.alloc (.cells zu8_32 23))=w0 at K ⊢
 by_cases hl:kl≤64
 · have g1:(kl:Int)≤64:=by omega
   have HE:=show Hid _ from (show (bhash (64+32) (app (bxx 92 (padz (kl) key)) 64 (bhash (64+len) (app (bxx 54 (padz (kl) key)) 64 z))))=bmac kl key len z from by unfold bmac; rw [bkk_short kl key hl]); have hp54:=bxx_in 54 (by decide) (padz (kl) key) 64 (padz_in (kl) key hkk 64); have hp92:=bxx_in 92 (by decide) (padz (kl) key) 64 (padz_in (kl) key hkk 64); go_upto_region 4 with fail
   refine wp_region_list ?_; refine xpL (.slice kp kl kc) ?_; refine xcL (bpad_any kp (kl) kc hl key 54 _ (hk.below K.below (xnR _))) ?_; rintro e wa ⟨g,rfl,hG,⟨_,hgl⟩,l⟩; replace K:=K.call l; clear l; refine xeL ?_; refine xpL (.slice sp len cap) ?_
   refine xcL (bbehind_any (some ⟨g,0,none⟩) 64 64 (.inr rfl) (xnR _) (bxx 54 (padz (kl) key)) hp54 sp len cap (by omega) hcap z hz _ (hg.below K.below hg.size) hG.src0 (hs.below K.below (xnR _))) ?_; rintro e wb ⟨rfl,l⟩; replace K:=K.call l; clear l; refine xeL ?_; clear hG hgl; refine allocL zu8_32 23 rfl (fun _=>by kernel_rfl) ?_; simp only [aP,lI,l0,lS]
   refine storesL .u8 32 ((bhash (64+len) (app (bxx 54 (padz (kl) key)) 64 z))) wb.heap.size 23 _ _ rfl rfl rfl rfl (room_of (key_zero _ _ _ rfl).there) (key_info' _) ?_; simp only [Act.put]; have zJ:=K.size; replace K:=K.fresh .u8 32 ((bhash (64+len) (app (bxx 54 (padz (kl) key)) 64 z))) zu8_32 23 (key_zero _ _ _ rfl).there
   generalize ((wb.alloc (.cells zu8_32 23)).setCells wb.heap.size 0 (row .u8 32 ((bhash (64+len) (app (bxx 54 (padz (kl) key)) 64 z)))))=wc at K ⊢; generalize wb.heap.size=J at *; show Exit.then _ _ _ _ _; go_upto_region 5 with fail
   refine wp_region_C (S:=fun w'=>Kr w (J+1) [(J,.u8,32,(bhash (64+len) (app (bxx 54 (padz (kl) key)) 64 z)))] [(w.heap.size,32)] w') 4 (by kernel_rfl) K.drew ?_; clear K; intro K; refine xpC 0 17 (.slice kp kl kc) K ?_; refine xqC 2 19 rfl (.slice (some ⟨J,0,none⟩) 32 32) (fun w'=>cutAll _ _ _ _ rfl rfl (bcutAll_key J w')) K ?_
   refine callMC (i:=1) (some 18) rfl (by kernel_rfl) rfl rfl (fun _=>by kernel_rfl) (bpad_any kp (kl) kc hl key 92 _ (hk.below K.below (xnR _))) ?_; rintro e wd ⟨g2,rfl,hG,⟨_,hgl⟩,l⟩; replace K:=K.call l; clear l
   refine ⟨_,rfl,K,?_⟩
   simp only [aP,lI,l0,lS]; refine callMC (i:=3) (some 20) rfl (by kernel_rfl) rfl rfl (fun _=>by kernel_rfl) (bbehind_any (some ⟨g2,0,none⟩) 64 64 (.inr rfl) (xnR _) (bxx 92 (padz (kl) key)) hp92 (some ⟨J,0,none⟩) 32 32 (by decide) (xnR _) (bhash (64+len) (app (bxx 54 (padz (kl) key)) 64 z)) (bhash_in _ _ 32) _ (hg.below K.below hg.size) hG.src0 (K.get _ _ _ _ mS).src0) ?_
   rintro e we ⟨rfl,l⟩; replace K:=K.call l; clear l
   refine ⟨_,rfl,K,?_⟩
   simp only [aP,lI,l0,lS]
   rw [HE.out]
   have hz':=(K.room _ mS).1
   refine storesC (S2:=fun _=>True) none rfl .u8 32 (bmac kl key len z) (w.heap.size) 23 _ _ (by kernel_rfl) rfl rfl rfl rfl rfl (room_of hz') (key_info' _) (by kernel_rfl) ?_; simp only [Act.put]
   refine wpAnyH_done (by kernel_rfl) ?_ _
   have hB:=(K.fill _ _ mS (row .u8 32 (bmac kl key len z))).below; clear K HE hG hgl; generalize hGe:bmac kl key len z=G at *; go_wp2
   exact bodyPost_ret (v:=(.agg (row .u8 32 (G)).toArray)) (results_row Tryz.results83 rfl (Has.all hz' .u8 G).range Tryz.underlying23 rfl (key_info G)) rfl ⟨by first | rfl | rw [hGe] | (rw [← hGe]; done),hB⟩
 · have g1:(64:Int)<(kl:Int):=by omega
   go_upto_region 2 with fail; refine wp_region_list ?_; refine xpL (.slice kp kl kc) ?_; refine xcL (bhash_any kp kl kc hkl hkc (fun e=>by have h0:=hk.none e; omega) key hkk _ (hg.below K.below hg.size) (hk.below K.below (xnR _))) ?_; rintro e w1 ⟨rfl,l⟩; replace K:=K.call l; clear l; refine xeL ?_; refine allocL zu8_32 23 rfl (fun _=>by kernel_rfl) ?_; simp only [aP,lI,l0,lS]
   refine storesL .u8 32 (bhash kl key) w1.heap.size 23 _ _ rfl rfl rfl rfl (room_of (key_zero _ _ _ rfl).there) (key_info' _) ?_; simp only [Act.put]; have zX:=K.size; replace K:=K.fresh .u8 32 (bhash kl key) zu8_32 23 (key_zero _ _ _ rfl).there; generalize ((w1.alloc (.cells zu8_32 23)).setCells w1.heap.size 0 (row .u8 32 (bhash kl key)))=w2 at K ⊢; generalize w1.heap.size=X at *
   show Exit.then _ _ _ _ _; go_upto_region 3 with fail; refine wp_region_list ?_; refine xqL (.slice (some ⟨X,0,none⟩) 32 32) (fun w'=>cutAll _ _ _ _ rfl rfl (bcutAll_key X w')) ?_; refine xpL (.slice (some ⟨X,0,none⟩) 32 32) ?_; show Exit.then _ _ _ _ _
   have HE:=show Hid _ from (show (bhash (64+32) (app (bxx 92 (padz (32) (bhash kl key))) 64 (bhash (64+len) (app (bxx 54 (padz (32) (bhash kl key))) 64 z))))=bmac kl key len z from by unfold bmac; rw [bkk_long kl key hl]); have hp54:=bxx_in 54 (by decide) (padz (32) (bhash kl key)) 64 (padz_in (32) (bhash kl key) (bhash_in kl key 32) 64)
   have hp92:=bxx_in 92 (by decide) (padz (32) (bhash kl key)) 64 (padz_in (32) (bhash kl key) (bhash_in kl key 32) 64); go_upto_region 4 with fail; refine wp_region_list ?_; refine xpL (.slice (some ⟨X,0,none⟩) 32 32) ?_; refine xcL (bpad_any (some ⟨X,0,none⟩) (32) 32 (by decide) (bhash kl key) 54 _ (K.get _ _ _ _ mS).src0) ?_; rintro e wa ⟨g,rfl,hG,⟨_,hgl⟩,l⟩; replace K:=K.call l
   clear l; refine xeL ?_; refine xpL (.slice sp len cap) ?_; refine xcL (bbehind_any (some ⟨g,0,none⟩) 64 64 (.inr rfl) (xnR _) (bxx 54 (padz (32) (bhash kl key))) hp54 sp len cap (by omega) hcap z hz _ (hg.below K.below hg.size) hG.src0 (hs.below K.below (xnR _))) ?_; rintro e wb ⟨rfl,l⟩; replace K:=K.call l; clear l; refine xeL ?_; clear hG hgl
   refine allocL zu8_32 23 rfl (fun _=>by kernel_rfl) ?_; simp only [aP,lI,l0,lS]; refine storesL .u8 32 ((bhash (64+len) (app (bxx 54 (padz (32) (bhash kl key))) 64 z))) wb.heap.size 23 _ _ rfl rfl rfl rfl (room_of (key_zero _ _ _ rfl).there) (key_info' _) ?_; simp only [Act.put]; have zJ:=K.size
   replace K:=K.fresh .u8 32 ((bhash (64+len) (app (bxx 54 (padz (32) (bhash kl key))) 64 z))) zu8_32 23 (key_zero _ _ _ rfl).there; generalize ((wb.alloc (.cells zu8_32 23)).setCells wb.heap.size 0 (row .u8 32 ((bhash (64+len) (app (bxx 54 (padz (32) (bhash kl key))) 64 z)))))=wc at K ⊢; generalize wb.heap.size=J at *; show Exit.then _ _ _ _ _; go_upto_region 5 with fail
   refine wp_region_C (S:=fun w'=>Kr w (J+1) [(J,.u8,32,(bhash (64+len) (app (bxx 54 (padz (32) (bhash kl key))) 64 z))),(X,.u8,32,bhash kl key)] [(w.heap.size,32)] w') 4 (by kernel_rfl) K.drew ?_; clear K; intro K; refine xpC 0 17 (.slice (some ⟨X,0,none⟩) 32 32) K ?_
   refine xqC 2 19 rfl (.slice (some ⟨J,0,none⟩) 32 32) (fun w'=>cutAll _ _ _ _ rfl rfl (bcutAll_key J w')) K ?_; refine callMC (i:=1) (some 18) rfl (by kernel_rfl) rfl rfl (fun _=>by kernel_rfl) (bpad_any (some ⟨X,0,none⟩) (32) 32 (by decide) (bhash kl key) 92 _ (K.get _ _ _ _ (mT _ mS)).src0) ?_; rintro e wd ⟨g2,rfl,hG,⟨_,hgl⟩,l⟩; replace K:=K.call l; clear l
   refine ⟨_,rfl,K,?_⟩
   simp only [aP,lI,l0,lS]
   refine callMC (i:=3) (some 20) rfl (by kernel_rfl) rfl rfl (fun _=>by kernel_rfl) (bbehind_any (some ⟨g2,0,none⟩) 64 64 (.inr rfl) (xnR _) (bxx 92 (padz (32) (bhash kl key))) hp92 (some ⟨J,0,none⟩) 32 32 (by decide) (xnR _) (bhash (64+len) (app (bxx 54 (padz (32) (bhash kl key))) 64 z)) (bhash_in _ _ 32) _ (hg.below K.below hg.size) hG.src0 (K.get _ _ _ _ mS).src0) ?_
   rintro e we ⟨rfl,l⟩; replace K:=K.call l; clear l
   refine ⟨_,rfl,K,?_⟩
   simp only [aP,lI,l0,lS]
   rw [HE.out]
   have hz':=(K.room _ mS).1
   refine storesC (S2:=fun _=>True) none rfl .u8 32 (bmac kl key len z) (w.heap.size) 23 _ _ (by kernel_rfl) rfl rfl rfl rfl rfl (room_of hz') (key_info' _) (by kernel_rfl) ?_; simp only [Act.put]
   refine wpAnyH_done (by kernel_rfl) ?_ _
   have hB:=(K.fill _ _ mS (row .u8 32 (bmac kl key len z))).below; clear K HE hG hgl; generalize hGe:bmac kl key len z=G at *; go_wp2
   exact bodyPost_ret (v:=(.agg (row .u8 32 (G)).toArray)) (results_row Tryz.results83 rfl (Has.all hz' .u8 G).range Tryz.underlying23 rfl (key_info G)) rfl ⟨by first | rfl | rw [hGe] | (rw [← hGe]; done),hB⟩
section
def vcap:Value→Nat
 | .slice _ _ c=>c
 | _=>0
section
variable {P:Program}
theorem run_append_Room {w:World} {base:Nat} {t ty e:TypeId} {k:IntKind} {bytes n:Nat} {f:Nat→Int} {v:Value} (ht:P.underlying t=some (.slice e)) (he:One P e k bytes) (h:Own w base e k n f v)
 (sp:Option Addr) (m c:Nat) (hv:Nat→Int) (hs:∀ j,j<m→∃ ad,sp=some ad∧w.cell? (ad.add j)=some (.int k (hv j))) (hz:sp=none→c=0) (hroom:n+m≤vcap v) :
 ∃ v' w',(Builtin.append_ #[t,t] ty #[v,.slice sp m c]).run P w=.ok v' w'∧Own w' base e k (n+m) (app f n hv) v'∧w.grownBy w' v.ownBlock∧vcap v'=vcap v∧v'.ownBlock=v.ownBlock:=by
 obtain ⟨i,hi,hq⟩:=Option.map_eq_some_iff.1 he.info
 simp only [Prod.mk.injEq] at hq
 obtain ⟨_,_,h3⟩:=hq
 cases sp with
 | none =>
   have hm:m=0:=by
    rcases Nat.eq_zero_or_pos m with h0 | h0
    · exact h0
    · obtain ⟨ad,e,_⟩:=hs 0 h0; cases e
   subst hm
   obtain rfl:=hz rfl
   exact ⟨v,w,run_append_owned_none (P:=P) (w:=w) base t ty e i 1 ht hi v n _ h,h.congr fun j hj=>by unfold app; rw [if_pos hj],⟨rfl,rfl,rfl,xnR _,fun _ _ _=>rfl⟩,rfl,rfl⟩
 | some ad =>
   have hnews:∀ j u,(row k m hv)[j]?=some u→w.cell? (ad.add j)=some u:=fun j u hu=>by
    obtain ⟨hj,rfl⟩:=row_get_some hu
    obtain ⟨ad',e',hc⟩:=hs j hj
    injection e' with e'
    subst e'
    exact hc
   have hml:(row k m hv).length=m*i.size:=by rw [row_length,h3,Nat.mul_one]
   have hlen:(row k n f++row k m hv).length=(n+m)*1:=by rw [List.length_append,row_length,row_length,Nat.mul_one]
   rcases h.2 with ⟨rfl,rfl⟩ | ⟨g,cap,cur,rfl,hbg,hgg,hnc,hcm,hcs,htake⟩
   · have hm:m=0:=by simp only [vcap] at hroom; omega
     subst hm
     refine ⟨.slice none 0 0,w,?_,h.congr fun j hj=>absurd hj (xnZ j),⟨rfl,rfl,rfl,xnR _,fun _ _ _=>rfl⟩,rfl,rfl⟩
     simp [Builtin.append_,run_underlying ht,sizeOf,typeInfo,hi,Builtin.lenOf,Builtin.firstCells,loadCells,loadCellsFrom]
   · have hroom':n+m≤cap:=hroom
     have hr2:=run_append_room (P:=P) w t ty e i ht hi g n cap cur hgg ad m c (row k m hv) hml hnews (row_one k m hv) hroom' (by rw [hml,hcs,h3]; omega)
     refine ⟨_,_,hr2,?_,⟨rfl,rfl,rfl,by simp,fun q _ hq=>setRow_other w g q _ (fun e=>hq (by simp [Value.ownBlock,e]))⟩,rfl,rfl⟩
     unfold Own
     rw [← row_app]
     rw [Nat.mul_one] at htake hcs
     refine ⟨hlen,.inr ⟨g,cap,_,rfl,hbg,setRow_heap w g cur _ e _ hgg,hroom',hcm,?_,?_⟩⟩
     · simp only [List.size_toArray,List.length_append,List.length_take,List.length_drop,Array.length_toList,row_length,h3,Nat.mul_one]
       omega
     · simp only [h3,Nat.mul_one,htake]
       have e2:n+m=(row k n f++row k m hv).length:=by rw [hlen,Nat.mul_one]
       rw [e2]
       exact List.take_left
theorem run_append_full {w:World} {t u ty e:TypeId} (ht:P.underlying t=some (.slice e)) (hu:P.underlying u=some (.int .i64)) (he:One P e .u8 1) (sp:Option Addr) (len:Nat) (z:Nat→Int) (hs:Src w sp len z) (m:Nat) (hm:m≤281474976710656) (hl:len+m+(len+m)/4+192≤281474976710656) :
 ∃ sp' cap' w',(Builtin.append_ #[t,u] ty #[.slice sp len len,.int .i64 (m:Int)]).run P w=.ok (.slice sp' (len+m) cap') w'∧len+m≤cap'∧Src w' sp' (len+m) (padz len z)∧Below w.heap.size w w'∧(sp'=none→cap'=0):=by
 obtain ⟨i,hi,hq⟩:=Option.map_eq_some_iff.1 he.info
 simp only [Prod.mk.injEq] at hq
 obtain ⟨h1,h2,h3⟩:=hq
 rcases Nat.eq_zero_or_pos m with h0 | h0
 · subst h0
   refine ⟨sp,len,w,?_,xnR _,hs.congr (fun j hj=>by unfold padz; rw [if_pos hj]),Below.refl _ _,fun e=>hs.none e⟩
   have hasI':∀ w,(asInt (.int .i64 0)).run P w=.ok 0 w:=fun w=>by simp [asInt,asIntOf]
   cases sp with
   | none=>simp [Builtin.append_,run_underlying ht,run_underlying hu,sizeOf,typeInfo,hi,h2,hasI',xw6]
   | some ad=>simp [Builtin.append_,run_underlying ht,run_underlying hu,sizeOf,typeInfo,hi,h2,hasI',xw6,storeCells]
 · have hold:(Builtin.firstCells i.size len (.slice sp len len)).run P w.drew=.ok (row .u8 len z).toArray w.drew:=by
    cases sp with
    | none =>
      obtain rfl:=hs.none rfl
      rfl
    | some ad =>
      rw [h3]
      exact run_firstCells_some (P:=P) w.drew 1 len ad len len (row .u8 len z) (by rw [row_length,Nat.mul_one]) (fun j u hj=>by
       obtain ⟨hjl,rfl⟩:=row_get_some hj
       obtain ⟨ad',he',hc⟩:=hs j hjl
       injection he' with he'
       subst he'
       exact hc)
   have hr:=Lib.run_append_grow_zeros (P:=P) w t u ty e i (.int .u8 0) .i64 .i64 ht hu hi h1 sp len len (row .u8 len z) hold m h0 (by rw [h3]; decide) (by omega) (by omega) (by rw [h2]; omega) (by rw [h2]; exact growslice_fits_wide (by omega) (by omega)); have hge:=grownCap_ge w (len+m) len e
   refine ⟨_,_,_,hr,hge,fun j hj=>⟨_,rfl,?_⟩,(Below.refl _ _).drew.alloc (xnR _) _,fun e=>by cases e⟩
   rw [Addr.add_mid,Nat.zero_add]
   show (w.drew.alloc _).cell? ⟨w.drew.heap.size,j,none⟩=_
   rw [World.cell?_alloc_at _ _ _ _ rfl,zeros_row]
   unfold padz
   by_cases ej:j<len
   · rw [if_pos ej]
     rw [Array.append_assoc,Array.getElem?_append_left (by rw [List.size_toArray,row_length]; exact ej)]
     simpa using row_get .u8 len z j ej
   · rw [if_neg ej]
     rw [Array.getElem?_append_left (by rw [Array.size_append,List.size_toArray,List.size_toArray,row_length,row_length]; exact hj),Array.getElem?_append_right (by rw [List.size_toArray,row_length]; omega),List.size_toArray,row_length]
     simpa using row_get .u8 m (fun _=>0) (j-len) (by omega)
end
section
variable {P:Program} {o:Oper} {a:Act}
theorem cut_full {t:TypeId} (ht:P.underlying t=some (.slice (P.elem t))) (hsz:∀ w,(sizeOf (P.elem t)).run P w=.ok 1 w) (sp:Option Addr) (len cap:Nat) (hc:len≤cap) :
 ∃ sp',(∀ w,(Instr.sliceAt t (.slice sp len cap) none (some (.int .i64 (len:Int))) (some (.int .i64 (len:Int)))).run P w=.ok (.slice sp' len len) w)∧∀ w z,Src w sp len z→Src w sp' len z:=by
 refine ⟨if len=0 then sp else sp.map (·.add (0*1)),fun w=>?_,fun w z h j hj=>?_⟩
 · rw [run_sliceAt_slice w t _ _ _ _ ht,run_slice_hm w t sp len cap ht .i64 .i64 (len:Int) (len:Int) (by omega) (by omega) (by omega),hsz]
   simp only [Result.andThen,sliced,Int.toNat_natCast,Nat.sub_zero]
 · obtain ⟨ad,rfl,hc'⟩:=h j (by omega)
   rw [if_neg (by omega)]
   exact ⟨ad.add (0*1),rfl,by rw [Nat.zero_mul,Addr.add_add,Nat.zero_add]; exact hc'⟩
theorem cutHMop {w:World} (t:TypeId) (x y z:Operand) (p q r v:Value) (ho:o.op=.slice t x none (some y) (some z)) (hx:a.eval x=p) (hy:a.eval y=q) (hz:a.eval z=r) (hr:(Instr.sliceAt t p none (some q) (some r)).run P w=.ok v w) :
 (execOp a.eval o).run P w=.ok (.value v) w:=by
 unfold execOp
 simp only [ho,hx,hy,hz,Option.map_some,Option.map_none,Sem.run_bind,hr,Result.andThen_ok,Sem.run_pure]
theorem appendNOp {w w':World} (s x:Operand) (t u:TypeId) (v n r:Value) (ho:o.op=.call { callee:=.builtin .append,args:=#[s,x],argTypes:=#[t,u] }) (hs:a.eval s=v) (hx:a.eval x=n) (hr:(Builtin.append_ #[t,u] o.type #[v,n]).run P w=.ok r w') :
 (execOp a.eval o).run P w=.ok (.value r) w':=by
 unfold execOp
 simp only [ho,resolve,invoke,builtin,Sem.run_bind,Sem.run_pure,Result.andThen_ok,List.map_toArray,List.map_cons,List.map_nil,hs,hx,hr]
end
end
end Go.Proofs.YtknodedhcdpbiaaGreatDoor
