/- Texts of Iz Sl Sg Sj Sh, joined. -/
import Derived.Test.YtknodedhcdpbiaaGreatDoorP12GuardEnds
set_option maxRecDepth 20000
set_option maxHeartbeats 64000000
namespace Go.Proofs.YtknodedhcdpbiaaGreatDoor
open Go.RowKit
theorem loadArr {P:Program} {o:Oper} {a:Act} {w:World} (ty:TypeId) (x:Operand) (ad:Addr) (n:Nat) (f:Nat→Int) (d:TypeDesc) (ho:o.op=.load ty x) (hx:a.eval x=.pointer (some ad)) (hu:P.underlying ty=some d) (hd:d.isRow=true) (hz:(P.info? ty).map (·.size)=some n) (hs:Src w (some ad) n f) :
 (execOp a.eval o).run P w=.ok (.value (.agg (row .u8 n f).toArray)) w:=by
 have hl:(loadCells ad n).run P w=.ok (row .u8 n f).toArray w:=by
  have:=run_loadCells_list (P:=P) w ad (row .u8 n f) (fun j v hv=>by
   obtain ⟨hj,rfl⟩:=row_get_some hv
   obtain ⟨ad',he,hc⟩:=hs j hj
   injection he with he
   subst he
   exact hc)
  rw [row_length] at this
  exact this
 have e:(loadVar ty ad).run P w=.ok (.agg (row .u8 n f).toArray) w:=by
  cases hq:P.info? ty with
  | none=>simp [hq] at hz
  | some i =>
    have hs':i.size=n:=by simpa [hq] using hz
    have hagg:(isAgg ty).run P w=.ok true w:=by
     unfold isAgg
     rw [Sem.run_bind,run_underlying hu w]
     cases d <;> simp_all
    simp [loadVar,Sem.run_bind,hagg,sizeOf,typeInfo,hq,hs',hl]
 unfold execOp
 simp only [ho,hx,Instr.loadAt,Instr.sureAddr,Sem.run_bind,Sem.run_pure,Result.andThen_ok,e]
theorem run_copy_mid {P:Program} {o:Oper} {a:Act} {w:World} (d s:Operand) (dT sT elem:TypeId) (ho:o.op=.call { callee:=.builtin .copy,args:=#[d,s],argTypes:=#[dT,sT] }) (hu:P.underlying dT=some (.slice elem)) (hsz:(P.info? elem).map (·.size)=some 1)
 (b o' dCap m n sCap:Nat) (f z:Nat→Int) (ad:Addr) (hd:a.eval d=.slice (some ⟨b,o',none⟩) m dCap) (hs:a.eval s=.slice (some ad) m sCap) (hb:Has w b .u8 n f) (hm:o'+m≤n) (hc:Src w (some ad) m z) :
 (execOp a.eval o).run P w=.ok (.value (.int .i64 (m:Int))) (w.setCells b o' (row .u8 m z)):=by
 have hrun:=run_copy_cells (P:=P) w dT sT o.type elem b o' m dCap ad m sCap (row .u8 m z) hu hsz (by rw [row_length]; exact (Nat.min_self m).symm) (fun j v hv=>by
  obtain ⟨hj,rfl⟩:=row_get_some hv
  obtain ⟨ad',he,hc'⟩:=hc j hj
  injection he with he
  subst he
  exact hc') (fun j hj=>by rw [row_length] at hj; rw [hb.cell (o'+j) (by omega)]; rfl) (fun j hj=>by rw [row_length] at hj; exact hb.free (o'+j) (by omega)) (row_one .u8 m z)
 rw [row_length] at hrun
 simp [execOp,ho,resolve,invoke,builtin,hd,hs,hrun,Result.andThen,goInt]
theorem icut (g n c:Nat) (hn:n+16≤c) (w:World):(Instr.sliceAt 29 (.slice (some ⟨g,0,none⟩) (n+16) c) (some (.int .i64 (n:Int))) none none).run Tryz.prog w=.ok (.slice (some ⟨g,n,none⟩) 16 (c-n)) w:=by
 rw [run_sliceAt_slice w 29 _ _ _ _ (by kernel_rfl),run_slice_l w 29 _ (n+16) c (by kernel_rfl) .i64 (n:Int) (by omega) (by omega),show (sizeOf (Tryz.prog.elem 29)).run Tryz.prog w=.ok 1 w by kernel_rfl]
 have h1:¬ c=n:=by omega
 simp [Result.andThen,sliced,Addr.add_mid,h1]
theorem aseal_any:ASealOK:=by
 intro k n hk hn bp bl bc hbl hbc hbn b hb sp len cap hlen hcap hsn z hz w hg hsb hs; have K:=Kr.init w; replace K:=K.box .u8 32 k 23 (w.heap.size) rfl; replace K:=K.box .u8 12 n 75 (w.heap.size+1) (by simp)
 go_enter Tryz.func24,Tryz.ntmps24
 go_upto_region 1 with fail; generalize ((w.alloc (.cells (row .u8 32 k).toArray 23)).alloc (.cells (row .u8 12 n).toArray 75))=w0 at K ⊢; refine wp_region_list ?_; refine rowKL .u8 32 (k) (w.heap.size) 0 23 _ _ rfl rfl rfl Tryz.underlying23 rfl (key_info _) ((K.get _ _ _ _ (mT _ mS)).range) ?_; simp only [aP,lI,l0,lS]
 refine rowKL .u8 12 (n) (w.heap.size+1) 0 75 _ _ rfl rfl rfl Tryz.underlying75 rfl (hn_info _) ((K.get _ _ _ _ mS).range) ?_; simp only [aP,lI,l0,lS]; refine xpL (.slice sp len cap) ?_; refine xcL (hxor_any k 1 n hk hn (by decide) sp len cap (by omega) z _ (hg.h.below K.below hg.size) (hs.below K.below (xnR _))) ?_; rintro e w1 ⟨X,rfl,⟨hX1,hX2,HX⟩,l⟩; have zX:=K.size
 replace K:=(K.call l).own (by omega) hX2 HX; clear l HX; refine xeL ?_; refine xpL (.slice (some ⟨X,0,none⟩) len len) ?_; generalize w1.heap.size=m1 at K hX2; show Exit.then _ _ _ _ _; go_upto_region 2 with fail; refine wp_region_list ?_; refine rowKL .u8 32 (k) (w.heap.size) 0 23 _ _ rfl rfl rfl Tryz.underlying23 rfl (key_info _) ((K.get _ _ _ _ (mI 2 rfl)).range) ?_
 simp only [aP,lI,l0,lS]; refine rowKL .u8 12 (n) (w.heap.size+1) 0 75 _ _ rfl rfl rfl Tryz.underlying75 rfl (hn_info _) ((K.get _ _ _ _ (mT _ mS)).range) ?_; simp only [aP,lI,l0,lS]; refine xpL (.slice bp bl bc) ?_; refine xpL (.slice (some ⟨X,0,none⟩) len len) ?_
 refine xcL (tagOf_any k n hk hn bp bl bc hbl hbc b hb (some ⟨X,0,none⟩) len len hlen (xnR _) (hxor k 1 n z) (hxor_in k 1 n z len hz) _ (hg.below K.below hg.size) (hsb.below K.below (xnR _)) (K.get _ _ _ _ mS).src0) ?_; rintro e w2 ⟨rfl,l⟩; replace K:=K.call l; clear l; refine xeL ?_; refine allocL zu8_16 89 rfl (fun _=>by kernel_rfl) ?_; simp only [aP,lI,l0,lS]
 refine storesL .u8 16 (atag k n bl b len (hxor k 1 n z)) w2.heap.size 89 _ _ rfl rfl rfl rfl (room_of (tag_zero _ _ _ rfl).there) (tag_info' _) ?_; simp only [Act.put]; have zT:=K.size; replace K:=K.fresh .u8 16 (atag k n bl b len (hxor k 1 n z)) zu8_16 89 (tag_zero _ _ _ rfl).there
 generalize ((w2.alloc (.cells zu8_16 89)).setCells w2.heap.size 0 (row .u8 16 (atag k n bl b len (hxor k 1 n z))))=w3 at K ⊢; generalize w2.heap.size=T at *; show Exit.then _ _ _ _ _; go_upto_region 3 with fail; refine wp_region_list ?_; refine xpL (.slice (some ⟨X,0,none⟩) len len) ?_
 refine xqL (.int .i64 (len:Int)) (fun w=>lenS _ 29 5 (some ⟨X,0,none⟩) (len) (len) rfl Tryz.underlying29 rfl w) ?_; refine xqL (.int .i64 ((len+16:Nat):Int)) (fun w=>addI .i64 _ _ _ _ _ _ _ rfl rfl rfl (by rw [xw6]; omega) w) ?_
 refine actL (w':=w3.alloc (.cells (row .u8 (len+16) (fun _=>0)).toArray 5)) (.slice (some ⟨w3.heap.size,0,none⟩) (len+16) (len+16)) rfl (makeOp 29 _ _ _ _ _ rfl rfl rfl (made8 (len+16) (by omega) w3)) ?_; simp only [aP,lI,l0,lS]; have zY:=K.size; replace K:=K.box .u8 (len+16) (fun _=>0) 5 w3.heap.size rfl
 generalize w3.alloc (.cells (row .u8 (len+16) (fun _=>0)).toArray 5)=w4 at K ⊢; generalize w3.heap.size=Y at *; refine xpL (.slice (some ⟨Y,0,none⟩) (len+16) (len+16)) ?_; show Exit.then _ _ _ _ _; go_upto_region 4 with fail; refine wp_region_list ?_; refine xpL (.slice (some ⟨Y,0,none⟩) (len+16) (len+16)) ?_; refine xpL (.slice (some ⟨X,0,none⟩) len len) ?_
 refine xaL (.int .i64 (len:Int)) (run_copy_src _ _ 29 29 5 rfl Tryz.underlying29 (by kernel_rfl) Y (len+16) (len+16) len len (len+16) (some ⟨X,0,none⟩) (hxor k 1 n z) rfl rfl (by omega) (by omega) (K.get _ _ _ _ mS).there (K.get _ _ _ _ (mI 2 rfl)).src0) ?_
 replace K:=K.part [(T,.u8,16,atag k n bl b len (hxor k 1 n z)),(X,.u8,len,hxor k 1 n z)] Y .u8 (len+16) _ 0 len (by omega) (hxor k 1 n z) mS (fun p hp=>by rcases xc1 hp with rfl | hp; exact (mT _ mS); obtain rfl:=xm1 hp; exact (mI 2 rfl)) (fun p hp=>by rcases xc1 hp with rfl | hp; simp only; omega; obtain rfl:=xm1 hp; simp only; omega) (by omega)
 generalize w4.setCells Y 0 (row .u8 len (hxor k 1 n z))=w5 at K ⊢; show Exit.then _ _ _ _ _; go_upto_region 5 with fail; have HY:=K.get _ _ _ _ mS
 replace K:=K.loose [(T,.u8,16,atag k n bl b len (hxor k 1 n z)),(X,.u8,len,hxor k 1 n z)] Y .u8 (len+16) _ mS (fun p hp=>mT _ hp) (fun p hp=>by rcases xc1 hp with rfl | hp; simp only; omega; obtain rfl:=xm1 hp; simp only; omega) (by omega)
 refine wp_region_held_drew (S:=fun w'=>Kr w (Y+1) [(T,.u8,16,atag k n bl b len (hxor k 1 n z)),(X,.u8,len,hxor k 1 n z)] [(Y,len+16)] w') (by kernel_rfl) K.drew ?_; clear K; intro K; replace HY:=HY.drew; generalize w5.drew=w6 at K HY ⊢; refine xpH 0 28 (.slice (some ⟨Y,0,none⟩) (len+16) (len+16)) K ?_; refine xpH 1 29 (.slice (some ⟨X,0,none⟩) len len) K ?_
 refine xqH 2 30 rfl (.int .i64 (len:Int)) (fun w=>lenS _ 29 5 (some ⟨X,0,none⟩) (len) (len) rfl Tryz.underlying29 rfl w) K ?_; refine xqH 3 31 rfl (.slice (some ⟨Y,len,none⟩) 16 (len+16-len)) (fun w=>cutOp _ _ _ _ _ _ rfl rfl rfl (icut Y len (len+16) (xnR _) w)) K ?_; refine xpH 4 32 (.slice (some ⟨T,0,none⟩) 16 16) K ?_
 refine actH (i:=5) (some 33) rfl (.int .i64 ((16:Nat):Int)) (by kernel_rfl) rfl rfl (run_copy_mid _ _ 29 29 5 rfl Tryz.underlying29 (by kernel_rfl) Y len (len+16-len) 16 (len+16) 16 _ (atag k n bl b len (hxor k 1 n z)) ⟨T,0,none⟩ rfl rfl HY (by omega) (K.get _ _ _ _ mS).src0) (K.poke Y (len+16) mS len _) ?_; simp only [aP,lI,l0,lS]
 refine wpAnyH_done (by kernel_rfl) ?_ _
 have hY:=(HY.part len 16 (by omega) (atag k n bl b len (hxor k 1 n z))).congr (g:=aout k n bl b len z) (fun j hj=>by
  unfold aout app over
  by_cases e:j<len
  · rw [if_neg (by omega),if_pos (by omega),if_pos e,Nat.sub_zero]
  · rw [if_pos (by omega),if_neg e])
 have hB:=(K.poke Y (len+16) mS len (row .u8 16 (atag k n bl b len (hxor k 1 n z)))).below; have hs6:=K.size; clear K HY; generalize hw7:w6.setCells Y len (row .u8 16 (atag k n bl b len (hxor k 1 n z)))=w7 at hY hB ⊢
 have hs7:Y<w7.heap.size:=by rw [← hw7,size_setAll]; omega
 clear hw7 hs6
 have hYl:w.heap.size≤Y:=by omega
 go_wp2; go_ret
 exact ⟨Y,len+16,rfl,⟨xnR _,hYl,hs7,hY⟩,hB⟩
theorem aopen_short (k n:Nat→Int) (bp:Option Addr) (bl bc:Nat) (sp:Option Addr) (len cap:Nat) (hl:len<16) (w:World) :
 Calls Tryz.prog 49 #[(.agg (row .u8 32 (k)).toArray),(.agg (row .u8 12 (n)).toArray),.slice bp bl bc,.slice sp len cap] w fun e w'=>e=.returned (.tuple #[.slice none 0 0,.int .i64 3])∧Below w.heap.size w w':=by
 have g1:(len:Int)<16:=by omega
 have K:=Kr.init w; replace K:=K.box .u8 32 k 23 (w.heap.size) rfl; replace K:=K.box .u8 12 n 75 (w.heap.size+1) (by simp)
 go_enter Tryz.func49,Tryz.ntmps49
 go_upto_region 1 with fail; generalize ((w.alloc (.cells (row .u8 32 k).toArray 23)).alloc (.cells (row .u8 12 n).toArray 75))=w0 at K ⊢; have hB:=K.below; clear K; go_wp2; go_ret2
 exact ⟨rfl,hB⟩
theorem NewF.of_has {w:World} {base n c B:Nat} {f:Nat→Int} (h:Has w B .u8 n f) (hc:n≤c) (h1:base≤B) (h2:B<w.heap.size):NewF w base n f (.slice (some ⟨B,0,none⟩) n c):=⟨_,c,rfl,hc,fun e=>(by cases e),h.src0,fun a e=>by cases e; exact ⟨h1,h2⟩⟩
theorem aopen_long (k n:Nat→Int) (hk:In 256 32 k) (hn:In 256 12 n) (bp:Option Addr) (bl bc:Nat) (hbl:bl≤140737488351232) (hbc:bl≤bc) (b:Nat→Int) (hb:In 256 bl b) (sp:Option Addr) (len cap:Nat) (hlen:len≤140737488351248) (hcap:len≤cap) (hl:16≤len) (z:Nat→Int) (hz:In 256 len z) (w:World) (hg:AGlob w) (hsb:Src w bp bl b) (hs:Src w sp len z) :
 Calls Tryz.prog 49 #[(.agg (row .u8 32 (k)).toArray),(.agg (row .u8 12 (n)).toArray),.slice bp bl bc,.slice sp len cap] w fun e w'=>(∃ v,e=.returned (.tuple #[v,.int .i64 (aoE k n bl b len z)])∧NewF w' w.heap.size (aoL k n bl b len z) (hxor k 1 n z) v)∧Below w.heap.size w w':=by
 have g1:¬ (len:Int)<16:=by omega
 have hz1:In 256 (len-16) z:=fun j hj=>hz j (by omega)
 have hz2:In 256 16 (fun j=>z (len-16+j)):=fun j hj=>hz _ (by omega)
 obtain ⟨q,hq1,hq2⟩:=cut_hi (P:=Tryz.prog) (t:=29) (by kernel_rfl) (fun _=>by kernel_rfl) sp len cap (len-16) (by omega) hcap
 obtain ⟨q',hr1,hr2⟩:=cut_lo (P:=Tryz.prog) (t:=29) (by kernel_rfl) (fun _=>by kernel_rfl) sp len cap (len-16) (by omega) hcap
 rw [show len-(len-16)=16 by omega] at hr1 hr2
 obtain ⟨ad,rfl,_⟩:=hr2 w z hs 0 (by decide)
 have hcq:len-16≤cap:=by omega
 have K:=Kr.init w; replace K:=K.box .u8 32 k 23 (w.heap.size) rfl; replace K:=K.box .u8 12 n 75 (w.heap.size+1) (by simp)
 go_enter Tryz.func49,Tryz.ntmps49
 go_upto_region 1 with fail; generalize ((w.alloc (.cells (row .u8 32 k).toArray 23)).alloc (.cells (row .u8 12 n).toArray 75))=w0 at K ⊢; go_upto_region 3 with fail; clear g1; refine wp_region_list ?_; refine xpL (.slice sp len cap) ?_; refine xqL (.int .i64 (len:Int)) (fun w=>lenS _ 29 5 (sp) (len) (cap) rfl Tryz.underlying29 rfl w) ?_
 refine xqL (.int .i64 ((len-16:Nat):Int)) (fun w=>subI .i64 _ _ _ _ _ _ _ rfl rfl rfl (by rw [xw6]; omega) w) ?_; refine xpL (.int .i64 ((len-16:Nat):Int)) ?_; show Exit.then _ _ _ _ _; go_upto_region 4 with fail; have zX:=K.size
 refine wp_region_held_drew (S:=fun w'=>Kr w (w.heap.size+1+1) [(w.heap.size+1,.u8,12,n),(w.heap.size,.u8,32,k)] [] w') (by kernel_rfl) K.drew ?_; clear K; intro K; refine xpH 0 19 (.slice sp len cap) K ?_; refine xpH 1 20 (.int .i64 ((len-16:Nat):Int)) K ?_; refine xqH 2 21 rfl (.slice q (len-16) cap) (fun w=>cutHi _ _ _ _ _ _ rfl rfl rfl (hq1 w)) K ?_
 refine xpH 3 22 (.slice sp len cap) K ?_; refine xpH 4 23 (.int .i64 ((len-16:Nat):Int)) K ?_; refine xqH 5 24 rfl (.slice (some ad) 16 (cap-(len-16))) (fun w=>cutOp _ _ _ _ _ _ rfl rfl rfl (hr1 w)) K ?_; refine xpH 6 25 (.pointer (some ad)) K ?_
 refine xrH 7 26 rfl (.agg (row .u8 16 ((fun j=>z (len-16+j)))).toArray) (fun w' h=>loadArr 89 _ ad 16 (fun j=>z (len-16+j)) _ rfl rfl Tryz.underlying89 rfl (by kernel_rfl) (hr2 w' z (hs.below h.below (xnR _)))) K ?_; generalize w0.drew=w1 at K ⊢
 refine actH (i:=8) (w':=w1.alloc (.cells zu8_16 89)) (some 12) rfl (.pointer (some ⟨w1.heap.size,0,none⟩)) (by kernel_rfl) rfl rfl (by kernel_rfl) (K.call ((Below.refl w1.heap.size w1).alloc (xnR _) _)) ?_; simp only [aP,lI,l0,lS]; refine xpH 9 11 (.slice q (len-16) cap) (K.call ((Below.refl w1.heap.size w1).alloc (xnR _) _)) ?_
 have KF:=K.fresh .u8 16 (fun j=>z (len-16+j)) zu8_16 89 (tag_zero _ _ _ rfl).there; have zT:=K.size
 refine storesH (i:=10) none rfl .u8 16 (fun j=>z (len-16+j)) w1.heap.size 89 _ _ (by kernel_rfl) rfl rfl rfl rfl rfl (room_of (tag_zero _ _ _ rfl).there) (tag_info' _) (KF.sub _ (fun p hp=>mT _ hp) |>.back _ _ (fun _ hp=>hp) (fun p hp=>by rcases xc1 hp with rfl | hp; simp only; omega; obtain rfl:=xm1 hp; simp only; omega) (fun _ hq=>by cases hq) (by omega) (by omega)) ?_
 simp only [Act.put]
 refine wpAnyH_done (by kernel_rfl) ?_ _
 clear K; generalize ((w1.alloc (.cells zu8_16 89)).setCells w1.heap.size 0 (row .u8 16 (fun j=>z (len-16+j))))=w2 at KF ⊢; generalize w1.heap.size=T at *; go_upto_region 5 with fail; refine wp_region_held_drew (S:=fun w'=>Kr w (T+1) [(T,.u8,16,(fun j=>z (len-16+j))),(w.heap.size+1,.u8,12,n),(w.heap.size,.u8,32,k)] [] w') (by kernel_rfl) KF.drew ?_; clear KF
 intro K; refine rowKH (i:=0) (some 27) rfl .u8 16 ((fun j=>z (len-16+j))) (T) 0 89 _ _ rfl rfl rfl rfl (by kernel_rfl) (by kernel_rfl) (by kernel_rfl) (fun _ _ _ h=>h) Tryz.underlying89 rfl (tag_info _) K (fun _ h=>(h.get _ _ _ _ mS).range) ?_; simp only [aP,lI,l0,lS]
 refine rowKH (i:=1) (some 28) rfl .u8 32 (k) (w.heap.size) 0 23 _ _ rfl rfl rfl rfl (by kernel_rfl) (by kernel_rfl) (by kernel_rfl) (fun _ _ _ h=>h) Tryz.underlying23 rfl (key_info _) K (fun _ h=>(h.get _ _ _ _ (mI 2 rfl)).range) ?_; simp only [aP,lI,l0,lS]
 refine rowKH (i:=2) (some 29) rfl .u8 12 (n) (w.heap.size+1) 0 75 _ _ rfl rfl rfl rfl (by kernel_rfl) (by kernel_rfl) (by kernel_rfl) (fun _ _ _ h=>h) Tryz.underlying75 rfl (hn_info _) K (fun _ h=>(h.get _ _ _ _ (mT _ mS)).range) ?_; simp only [aP,lI,l0,lS]; refine xpH 3 30 (.slice bp bl bc) K ?_; refine xpH 4 31 (.slice q (len-16) cap) K ?_
 refine callH (i:=5) (some 32) rfl (by kernel_rfl) rfl rfl (fun _=>by kernel_rfl) (tagOf_any k n hk hn bp bl bc hbl hbc b hb q (len-16) cap (by omega) hcq z hz1 _ (hg.below K.below hg.size) (hsb.below K.below (xnR _)) (hq2 _ z (hs.below K.below (xnR _)))) ?_; rintro e w4 ⟨rfl,l⟩; replace K:=K.call l; clear l
 refine ⟨_,rfl,K,?_⟩
 simp only [aP,lI,l0,lS]; refine callH (i:=6) (some 33) rfl (by kernel_rfl) rfl rfl (fun _=>by kernel_rfl) (psame_any (fun j=>z (len-16+j)) (atag k n bl b (len-16) z) hz2 (atag_in _ _ _ _ _ _ _) _ (hg.c.below K.below hg.size)) ?_; rintro e w5 ⟨rfl,l⟩; replace K:=K.call l; clear l
 refine ⟨_,rfl,K,?_⟩
 simp only [aP,lI,l0,lS]
 by_cases hok:aok k n bl b len z
 · have hd:decide (val 256 (fun j=>z (len-16+j)) 16=val 256 (atag k n bl b (len-16) z) 16)=true:=decide_eq_true (by rw [atag_val]; exact hok.2.symm)
   rw [hd]
   have e1:aoL k n bl b len z=len-16:=by unfold aoL; rw [if_pos hok]
   have e2:aoE k n bl b len z=0:=by unfold aoE; rw [if_neg (by omega),if_pos hok]
   have HE:=show Hid _ from And.intro e1 e2; clear e1 e2; refine xpH 7 34 (.bool false) K ?_
   refine wpAnyH_done (by kernel_rfl) ?_ _
   clear hd hok; go_upto_region 7 with fail; refine wp_region_list ?_; refine rowKL .u8 32 (k) (w.heap.size) 0 23 _ _ rfl rfl rfl Tryz.underlying23 rfl (key_info _) ((K.get _ _ _ _ (mI 2 rfl)).range) ?_; simp only [aP,lI,l0,lS]; refine rowKL .u8 12 (n) (w.heap.size+1) 0 75 _ _ rfl rfl rfl Tryz.underlying75 rfl (hn_info _) ((K.get _ _ _ _ (mT _ mS)).range) ?_; simp only [aP,lI,l0,lS]
   refine xpL (.slice q (len-16) cap) ?_; refine xcL (hxor_any k 1 n hk hn (by decide) q (len-16) cap (by omega) z _ (hg.h.below K.below hg.size) (hq2 _ z (hs.below K.below (xnR _)))) ?_; rintro e w6 ⟨X,rfl,⟨hX1,hX2,HX⟩,l⟩; replace hX1:=xnT K.below.size hX1; replace K:=K.call l; clear l; refine xeL ?_; refine xpL (.slice (some ⟨X,0,none⟩) (len-16) (len-16)) ?_
   refine xpL (.int .i64 0) ?_; have hB:=K.below; clear K; show Exit.then _ _ _ _ _; go_wp2; go_ret2
   exact ⟨⟨.slice (some ⟨X,0,none⟩) (len-16) (len-16),by rw [HE.out.2]; rfl,by rw [HE.out.1]; exact NewF.of_has HX (xnR _) hX1 hX2⟩,hB⟩
 · have hd:decide (val 256 (fun j=>z (len-16+j)) 16=val 256 (atag k n bl b (len-16) z) 16)=false:=decide_eq_false (by rw [atag_val]; exact fun h=>hok ⟨hl,h.symm⟩)
   rw [hd]
   have e1:aoL k n bl b len z=0:=by unfold aoL; rw [if_neg hok]
   have e2:aoE k n bl b len z=70:=by unfold aoE; rw [if_neg (by omega),if_neg hok]
   have HE:=show Hid _ from And.intro e1 e2; clear e1 e2; refine xpH 7 34 (.bool true) K ?_
   refine wpAnyH_done (by kernel_rfl) ?_ _
   have hB:=K.below; clear hd hok K; go_wp2; go_ret2
   exact ⟨⟨.slice none 0 0,by rw [HE.out.2]; rfl,by rw [HE.out.1]; exact NewF.nil _ _ _⟩,hB⟩
theorem aopen_new (k n:Nat→Int) (hk:In 256 32 k) (hn:In 256 12 n) (bp:Option Addr) (bl bc:Nat) (hbl:bl≤140737488351232) (hbc:bl≤bc) (b:Nat→Int) (hb:In 256 bl b) (sp:Option Addr) (len cap:Nat) (hlen:len≤140737488351248) (hcap:len≤cap) (z:Nat→Int) (hz:In 256 len z) (w:World) (hg:AGlob w) (hsb:Src w bp bl b) (hs:Src w sp len z) :
 Calls Tryz.prog 49 #[(.agg (row .u8 32 (k)).toArray),(.agg (row .u8 12 (n)).toArray),.slice bp bl bc,.slice sp len cap] w fun e w'=>(∃ v,e=.returned (.tuple #[v,.int .i64 (aoE k n bl b len z)])∧NewF w' w.heap.size (aoL k n bl b len z) (hxor k 1 n z) v)∧Below w.heap.size w w':=by
 by_cases hl:len<16
 · have e1:aoL k n bl b len z=0:=by unfold aoL; rw [if_neg (fun h=>by have:=h.1; omega)]
   have e2:aoE k n bl b len z=3:=by unfold aoE; rw [if_pos hl]
   rw [e1,e2]
   exact (aopen_short k n bp bl bc sp len cap hl w).mono fun e w' h=>⟨⟨_,h.1,NewF.nil _ _ _⟩,h.2⟩
 · exact aopen_long k n hk hn bp bl bc hbl hbc b hb sp len cap hlen hcap (by omega) z hz w hg hsb hs
section
section
variable {P:Program} {ops:Array Oper} {Q:Exit→Act→World→Prop} {md:Region.Mode} {S:World→Prop}
def Flt (P:Program) (ops:Array Oper) (Q:Exit→Act→World→Prop) (md:Region.Mode) (S:World→Prop) (z:Nat) (t:Tmp) (n w0 fuel:Nat):Nat→Array Bool→Act→Prop
 | 0,L,a=>Region.ready md ops L=[z]∧∀ B w,S w→Fb n w0 B w→wpAnyH P md ops Q S fuel (L.setIfInBounds z true) (a.put (some t) (.pointer (some ⟨B,0,none⟩))) w
 | k+1,L,a=>(∃ (c:Nat) (r:Tmp) (x:Oper) (f:FuncId) (g:Array Value) (V:Value→Prop),Region.ready md ops L=[c,z]∧Region.ready md ops (L.setIfInBounds z true)=[c]∧ops[c]?=some x∧x.guard=none∧x.dst=some r∧z≠c∧t≠r∧(∀ cs b,x.op≠.select cs b)∧t∉x.looksAt ops∧(∀ w,(execOp a.eval x).run P w=.ok (.enter f g) w) ∧
    (∀ w,S w→Calls P f g w fun e w'=>∃ v,e=.returned v∧V v∧Below w.heap.size w w')∧∀ v,V v→Flt P ops Q md S z t n w0 fuel k (L.setIfInBounds c true) (a.put (some r) v)) ∨
   ∃ (q:Nat) (r:Tmp) (x:Oper) (v:Value),ops[q]?=some x∧x.guard=none∧x.dst=some r∧z≠q∧t≠r∧(∀ cs b,x.op≠.select cs b)∧t∉x.looksAt ops∧(∀ w,(execOp a.eval x).run P w=.ok (.value v) w)∧Region.noSelect ops=true∧(Region.free md ops L q=true∧(Region.ready md ops L).contains q=true)∧(Region.free md ops (L.setIfInBounds z true) q=true∧(Region.ready md ops (L.setIfInBounds z true)).contains q=true) ∧
    (∀ c a w,Q (.panic c) (a.put (some r) v) w→Q (.panic c) a w)∧Flt P ops Q md S z t n w0 fuel k (L.setIfInBounds q true) (a.put (some r) v)
theorem Flt.last {z:Nat} {t:Tmp} {n w0 fuel:Nat} {L:Array Bool} {a:Act} (hr:Region.ready md ops L=[z]) (h:∀ B w,S w→Fb n w0 B w→wpAnyH P md ops Q S fuel (L.setIfInBounds z true) (a.put (some t) (.pointer (some ⟨B,0,none⟩))) w):Flt P ops Q md S z t n w0 fuel 0 L a:=⟨hr,h⟩
theorem Flt.call {z:Nat} {t:Tmp} {n w0 fuel k:Nat} {L:Array Bool} {a:Act} (c:Nat) (r:Tmp) {x:Oper} {f:FuncId} {g:Array Value} (V:Value→Prop) (hr:Region.ready md ops L=[c,z]) (hr':Region.ready md ops (L.setIfInBounds z true)=[c]) (hx:ops[c]?=some x) (hg:x.guard=none) (hd:x.dst=some r)
 (hz:z≠c) (ht:t≠r) (hs:∀ cs b,x.op≠.select cs b) (hl:t∉x.looksAt ops) (he:∀ w,(execOp a.eval x).run P w=.ok (.enter f g) w)
 (hc:∀ w,S w→Calls P f g w fun e w'=>∃ v,e=.returned v∧V v∧Below w.heap.size w w') (h:∀ v,V v→Flt P ops Q md S z t n w0 fuel k (L.setIfInBounds c true) (a.put (some r) v)):Flt P ops Q md S z t n w0 fuel (k+1) L a :=
 .inl ⟨c,r,x,f,g,V,hr,hr',hx,hg,hd,hz,ht,hs,hl,he,hc,h⟩
theorem Flt.read {z:Nat} {t:Tmp} {n w0 fuel k:Nat} {L:Array Bool} {a:Act} (q:Nat) (r:Tmp) {x:Oper} (v:Value) (hx:ops[q]?=some x) (hg:x.guard=none) (hd:x.dst=some r) (hz:z≠q) (ht:t≠r) (hs:∀ cs b,x.op≠.select cs b) (hl:t∉x.looksAt ops) (he:∀ w,(execOp a.eval x).run P w=.ok (.value v) w)
 (hn:Region.noSelect ops=true) (h1:Region.free md ops L q=true) (h2:(Region.ready md ops L).contains q=true) (h3:Region.free md ops (L.setIfInBounds z true) q=true) (h4:(Region.ready md ops (L.setIfInBounds z true)).contains q=true)
 (hQ:∀ c a w,Q (.panic c) (a.put (some r) v) w→Q (.panic c) a w) (h:Flt P ops Q md S z t n w0 fuel k (L.setIfInBounds q true) (a.put (some r) v)):Flt P ops Q md S z t n w0 fuel (k+1) L a :=
 .inr ⟨q,r,x,v,hx,hg,hd,hz,ht,hs,hl,he,hn,⟨h1,h2⟩,⟨h3,h4⟩,hQ,h⟩
theorem Flt.made {z:Nat} {t:Tmp} {n w0 fuel k:Nat} {L:Array Bool} {a:Act} (h:Flt P ops Q md S z t n w0 fuel k L a) (hSc:∀ w w',S w→Below w.heap.size w w'→S w') :
 ∀ B w,S w→Fb n w0 B w→wpAnyH P md ops Q S (fuel+k) (L.setIfInBounds z true) (a.put (some t) (.pointer (some ⟨B,0,none⟩))) w:=by
 induction k generalizing L a with
 | zero=>exact fun B w hS hB=>h.2 B w hS hB
 | succ k ih =>
   rcases h with ⟨c,r,x,f,g,V,_,hr',hx,hg,hd,hz,ht,hs,hl,he,hc,h'⟩ | ⟨q,r,x,v,hx,hg,hd,hz,ht,hs,hl,he,hn,_,⟨h3,h4⟩,hQ,h'⟩
   · intro B w hS hB
     refine wpAnyH_all hr' (by simp) fun j hj=>?_
     obtain rfl:=xm1 hj
     refine callOp hx hg (by rw [eval_one (ops:=ops) t _ hs hl]; exact he w) (hc w hS) fun e w' hR=>?_
     obtain ⟨v,rfl,hv,l⟩:=hR
     have hs1:=hSc _ _ hS l
     refine ⟨v,rfl,hs1,?_⟩
     rw [hd]
     refine wpAnyH_cast (ih (h' v hv) B w' hs1 (hB.call l)) ?_ ?_
     · rw [Array.setIfInBounds_comm _ _ hz]
     · rw [put_comm' _ _ _ ht]
   · intro B w hS hB
     refine readH (i:=q) (some r) hd v hx (by unfold Region.wanted; rw [hg]) (fun w' _=>by rw [eval_one (ops:=ops) t _ hs hl]; exact he w') hn h3 h4 hQ hS ?_
     refine wpAnyH_cast (ih h' B w hS hB) ?_ ?_
     · rw [Array.setIfInBounds_comm _ _ hz]
     · rw [put_comm' _ _ _ ht]
theorem Flt.go {z:Nat} {t:Tmp} {n w0 fuel k:Nat} {L:Array Bool} {a:Act} (h:Flt P ops Q md S z t n w0 fuel k L a) {xz:Oper} (cs:Array Value) (ty:TypeId) (iz:ops[z]?=some xz) (gz:xz.guard=none) (dz:xz.dst=some t)
 (ez:∀ (b:Act) (w:World),(execOp b.eval xz).run P w=.ok (.value (.pointer (some ⟨w.heap.size,0,none⟩))) (w.alloc (.cells cs ty)))
 (hn:∀ w:World,(w.alloc (.cells cs ty)).there w.heap.size 0 n) (hS0:∀ w,S w→w0≤w.heap.size) (hSc:∀ w w',S w→Below w.heap.size w w'→S w') :
 ∀ w,S w→wpAnyH P md ops Q S (fuel+k+1) L a w:=by
 have hSa:∀ w:World,S w→S (w.alloc (.cells cs ty)):=fun w h=>hSc w _ h ((Below.refl w.heap.size w).alloc (xnR _) _)
 have hNew:∀ w:World,S w→Fb n w0 w.heap.size (w.alloc (.cells cs ty)):=fun w h=>⟨hS0 w h,by simp,hn w⟩
 induction k generalizing L a with
 | zero =>
   intro w hS; refine wpAnyH_all h.1 (by simp) fun j hj=>?_
   obtain rfl:=xm1 hj
   refine allocOp iz gz (ez _ w) ?_
   rw [dz]
   exact ⟨hSa _ hS,h.2 _ _ (hSa _ hS) (hNew _ hS)⟩
 | succ k ih =>
   rcases h with ⟨c,r,x,f,g,V,hr,hr',hx,hg,hd,hz,ht,hs,hl,he,hc,h'⟩ | ⟨q,r,x,v,hx,hg,hd,hz,ht,hs,hl,he,hn',⟨h1,h2⟩,_,hQ,h'⟩
   · intro w hS
     refine wpAnyH_all hr (by simp) fun j hj=>?_
     simp only [List.mem_cons,List.not_mem_nil,or_false] at hj
     rcases hj with rfl | rfl
     · refine callOp hx hg (he w) (hc w hS) fun e w' hR=>?_
       obtain ⟨v,rfl,hv,l⟩:=hR
       have hs1:=hSc _ _ hS l
       refine ⟨v,rfl,hs1,?_⟩
       rw [hd]
       exact ih (h' v hv) w' hs1
     · refine allocOp iz gz (ez _ w) ?_
       rw [dz]
       exact ⟨hSa _ hS,Flt.made (Flt.call c r V hr hr' hx hg hd hz ht hs hl he hc h') hSc _ _ (hSa _ hS) (hNew _ hS)⟩
   · intro w hS
     exact readH (i:=q) (some r) hd v hx (by unfold Region.wanted; rw [hg]) (fun w' _=>he w') hn' h1 h2 hQ hS (ih h' w hS)
end
end
section
theorem Mm.land {w0 w:World} {l:List (Nat × List Value)} (M:Mm w0 l w) {n m B:Nat} (b:Fb n m B w) (hm:∀ p∈l,p.1<m) (h0:w0.heap.size≤m) (cs:List Value) (hc:cs.length=n):Mm w0 ((B,cs)::l) (w.setCells B 0 cs):=by
 have hlo:=b.lo
 have hM:Mm w0 ((B,(List.range n).map fun j=>(w.cell? ⟨B,j,none⟩).getD undef)::l) w:=by
  refine ⟨fun p hp=>?_,List.pairwise_cons.2 ⟨fun p hp e=>?_,M.apart⟩,M.below⟩
  · rcases xc1 hp with rfl | hp
    · refine ⟨fun j hj=>?_,by omega,b.hi⟩
      rw [List.length_map,List.length_range] at hj
      have h1:=b.th j hj
      rw [Nat.zero_add] at h1
      refine ⟨?_,h1.2⟩
      rw [List.getElem?_map,List.getElem?_range hj]
      obtain ⟨v,hv⟩:=Option.isSome_iff_exists.1 h1.1
      show w.cell? ⟨B,j,none⟩=some ((w.cell? ⟨B,j,none⟩).getD undef)
      rw [hv]
      rfl
    · exact M.rows p hp
  · have:=hm p hp
    have e':B=p.1:=e
    omega
 exact hM.setAll cs (by rw [List.length_map,List.length_range]; exact hc)
theorem Mm.newF {w0 w w':World} {l:List (Nat × List Value)} (M:Mm w0 l w) (b:Below w.heap.size w w') {n:Nat} {f:Nat→Int} {sp:Option Addr} {cap:Nat} (h:NewF w' w.heap.size n f (.slice sp n cap)):Mm w0 (obs sp++l) w':=by
 have M':=M.call b
 cases sp with
 | none=>exact M'
 | some a =>
   have h1:=h.at a rfl; refine M'.addB (xnT M.below.size h1.1) h1.2 fun p hp e=>?_
   have:=(M.rows p hp).2.2
   omega
theorem seal_perm {α:Type} (a b c:α) (m t:List α):(a::b::c::(m++t)).Perm (c::(m++(a::b::t))):=by
 have h:(m++(a::b::t)).Perm (a::b::(m++t)):=List.perm_middle.trans (List.perm_middle.cons a)
 exact (List.perm_middle (l₁:=[a,b]) (a:=c) (l₂:=m++t)).trans (h.symm.cons c)
theorem out_perm {α:Type} (c:α) (o m t:List α):(o++(c::(m++t))).Perm (c::(m++(o++t))):=List.perm_middle.trans ((pull0 o m t).cons c)
theorem yk_in (k:Kys) (n:Int):In 256 32 (ykK k n):=by
 unfold ykK
 split
 · exact yof_in _
 · split
   · exact yof_in _
   · exact fun _ _=>⟨Int.le_refl 0,show (0:Int)<256 by decide⟩
theorem yn_in (k:Kys):In 256 32 (ynK k):=by
 unfold ynK
 split
 · exact fun _ _=>⟨Int.le_refl 0,show (0:Int)<256 by decide⟩
 · exact yof_in _
def nou (n:Nat):List Int:=List.replicate n 0
theorem nou_len (n:Nat):(nou n).length=n:=List.length_replicate
theorem nou_bl (n:Nat):bl (nou n)=fun _=>0:=by
 funext j
 unfold bl nou
 simp [List.getD_eq_getElem?_getD,List.getElem?_replicate]
 split <;> rfl
theorem nou_byts (n:Nat):Byts (nou n):=fun x hx=>by
 obtain ⟨_,rfl⟩:=List.mem_replicate.1 hx
 exact ⟨by decide,by decide⟩
section
variable {g:Grd} {p:Int} {t:List Int}
theorem gpk_nou (hg:GrdW g) (h:gsE g p t.length=0):pok (gpk g p (nou (t.length+16)))=true:=by
 obtain ⟨h1,h2,h3⟩:=gsE_ok h
 have h4:=hg.role; have h5:=hg.out.lo; have h6:=hg.out.hi; have h7:=(hg.cnt p).1
 rw [pok_rec rfl]
 have hl:=nou_len (t.length+16)
 exact decide_eq_true ⟨⟨show 0≤g.role by omega,show g.role≤1 by omega⟩,h1,⟨h5,h6⟩,⟨h7,h3⟩,show 16≤(nou (t.length+16)).length by omega,show (nou (t.length+16)).length≤272 by omega⟩
theorem gpk_pno (hg:GrdW g) (h:gsE g p t.length=0):pno (gpk g p (nou (t.length+16)))=rno (gpk g p []):=rno_pno rfl (gpk_nou hg h)
theorem gpk_phd (hg:GrdW g) (h:gsE g p t.length=0):phd (gpk g p (nou (t.length+16)))=hdr (gpk g p []):=hdr_phd rfl (gpk_nou hg h)
theorem gpk_pv (hg:GrdW g) (h:gsE g p t.length=0) {w:World} {b:List Int} {bp:Option Addr} {bc:Nat} (hb:Byts b) (hl:b.length≤272) (hs:Src w bp b.length (bl b)) (hc:b.length≤bc) (hn:bp=none→bc=0):PV w (gpk g p b) bp bc:=by
 obtain ⟨h1,h2,h3⟩:=gsE_ok h
 have h4:=hg.role; have h5:=hg.out.lo; have h6:=hg.out.hi; have h7:=(hg.cnt p).1
 exact ⟨hs,hc,hn,show b.length≤_ by omega,hb,show i64 3 by unfold i64; decide,show i64 g.role by unfold i64; omega,show i64 p by unfold i64; omega,show i64 g.out.e by unfold i64; omega,show i64 (g.cnt p) by unfold i64; omega⟩
theorem rno_in (q:Pkt) (h:0≤q.path∧q.path<256):In 256 12 (bl (rno q)):=by
 have hb:Byts (rno q):=fun x hx=>by
  rcases xc1 hx with rfl | hx
  · exact h
  rcases List.mem_append.1 hx with hx | hx
  · exact flst_byts _ _ x hx
  rcases xc1 hx with rfl | hx
  · exact ⟨by decide,by decide⟩
  rcases xc1 hx with rfl | hx
  · exact ⟨by decide,by decide⟩
  rcases xc1 hx with rfl | hx
  · exact ⟨by decide,by decide⟩
  exact flst_byts _ _ x hx
 have:=hb.bl
 rw [rno_len] at this
 exact this
theorem gpk_out (hg:GrdW g) (h:gsE g p t.length=0):pE (gpk g p (gsT g p t))=0∧pL (gpk g p (gsT g p t))=gsB g p t:=⟨if_pos (gpk_ok hg h),by rw [gsB_ok h]; exact if_pos (gpk_ok hg h)⟩
end
end
section
open Go.RowKit Go.MapKept Go.ChangeMaps Go.WideShapes
theorem gwnew_any (w0 w:World) (l:List (Nat × List Value)) (M:Mm w0 l w) :
 Calls Tryz.prog 64 #[] w fun e w'=>∃ B W,e=.returned (.pointer (some ⟨B,0,none⟩))∧w.heap.size≤B∧Wds W []∧Mm w0 ((B,wcv (wtop []) W)::l) w'∧Below w.heap.size w w':=by
 have hB:=Below.refl w.heap.size w
 go_enter Tryz.func64,Tryz.ntmps64
 go_upto_region 0 with fail; refine wp_region_list ?_; refine xpL (.pointer none) ?_; refine xT ?_; go_upto_region 1 with fail; refine wp_region_list ?_; refine xpL (.agg (wcv (-1) (fun _=>0)).toArray) ?_; have hlb:=(Below.refl w.heap.size w).alloc (xnR _) (.cells (wcv (-1) (fun _=>0)).toArray 122)
 refine actL (w':=w.alloc (.cells (wcv (-1) (fun _=>0)).toArray 122)) (.pointer (some ⟨w.heap.size,0,none⟩)) rfl (by kernel_rfl) ?_; simp only [aP,lI,l0,lS]; replace hB:=hB.trans (hlb.mono hB.size); replace M:=M.box (wcv (-1) (fun _=>0)).toArray 122 w.heap.size rfl; clear hlb; generalize w.alloc (.cells (wcv (-1) (fun _=>0)).toArray 122)=w1 at M hB ⊢
 generalize eB:w.heap.size=B at M ⊢
 have hBz:w.heap.size≤B:=by rw [← eB]; exact xnR _
 clear eB
 replace M:Mm w0 ((B,wcv (-1) (fun _=>0))::l) w1:=M
 refine xpL (.pointer (some ⟨B,0,none⟩)) ?_; refine xT ?_; have HS:=show Hid _ from (And.intro hBz (And.intro M hB)); clear M hB hBz; go_wp2; go_ret
 exact ⟨B,fun _=>0,rfl,HS.out.1,Bts.nil,HS.out.2.1,HS.out.2.2⟩
def gkK (k:Kys) (n:Int):Nat→Int:=if n=k.e+1 then ynK k else ykK k n
def gkL (k:Kys) (n:Int):Int:=if n=k.e+1 then ynE k else ykE k n
theorem gkK_next {k:Kys} {n:Int} (h:n=k.e+1):gkK k n=ynK k:=if_pos h
theorem gkL_next {k:Kys} {n:Int} (h:n=k.e+1):gkL k n=ynE k:=if_pos h
theorem gkK_key {k:Kys} {n:Int} (h:¬ n=k.e+1):gkK k n=ykK k n:=if_neg h
theorem gkL_key {k:Kys} {n:Int} (h:¬ n=k.e+1):gkL k n=ykE k n:=if_neg h
theorem gkK_in (k:Kys) (n:Int):In 256 32 (gkK k n):=by
 unfold gkK
 split
 · exact yn_in k
 · exact yk_in k n
theorem gkey_any (w0 w:World) (R:Nat) (T:List (Nat × List Value)) (r:Int) (ko ki:Kys) (mc m0 m1:Option Nat) (hgb:BGlob w0) (hki:KysW ki) (n:Int) (M:Mm w0 ((R,gcf r ko ki mc m0 m1)::T) w) :
 Calls Tryz.prog 46 #[.pointer (some ⟨R,0,none⟩),.int .i64 n] w fun e' w'=>e'=.returned (.tuple #[.agg (row .u8 32 (gkK ki n)).toArray,.int .i64 (gkL ki n)])∧Below w.heap.size w w':=by
 replace M:Mm w0 ((R,[[Value.int .i64 r],kck ko,kck ki,[Value.map mc],[Value.map m0],[Value.map m1]].flatten)::T) w:=M
 have hb0:=M.below; have hwz:=xnR w.heap.size; have OF:=Off.refl [] w
 go_enter Tryz.func46,Tryz.ntmps46
 have hlo:=hki.lo; have hhi:=hki.hi; go_upto_region 0 with fail; refine wp_region_list ?_; have hlb:=(Below.refl w.heap.size w).alloc (xnR _) (.cells zu8_32 23); refine actL (w':=w.alloc (.cells zu8_32 23)) (.pointer (some ⟨w.heap.size,0,none⟩)) rfl (by kernel_rfl) ?_; simp only [aP,lI,l0,lS]; have hB_:=hwz; replace hwz:=xnT hwz hlb.size; replace OF:=OF.below hlb
 replace M:=M.box zu8_32 23 w.heap.size rfl; clear hlb; generalize w.alloc (.cells zu8_32 23)=w1 at M hwz OF ⊢; generalize eB_:w.heap.size=B1 at M ⊢
 have hB_B1:w.heap.size≤B1:=by rw [← eB_]; exact hB_
 clear hB_ eB_
 replace M:Mm w0 ((B1,row .u8 32 (fun _=>0))::(R,[[Value.int .i64 r],kck ko,kck ki,[Value.map mc],[Value.map m0],[Value.map m1]].flatten)::T) w1:=M
 refine xpL (.int .i64 0) ?_; refine xT ?_
 by_cases h1:n=ki.e+1
 · go_upto_region 1 with fail
   refine wp_region_list ?_; refine xpL (.int .i64 n) ?_; refine xpL (.pointer (some ⟨R,0,none⟩)) ?_; refine xpL (.pointer (some ⟨R,0,none⟩)) ?_; refine xpL (.pointer (some ⟨R,99,none⟩)) ?_; replace M:=M.swap
   replace M:Mm w0 ((R,[[Value.int .i64 r],kck ko,kck ki,[Value.map mc],[Value.map m0],[Value.map m1]].flatten)::(B1,row .u8 32 (fun _=>0))::T) w1:=M
   refine xcL (ginn_epoch M) ?_; rintro e w2 ⟨rfl,l⟩; replace M:=M.call l; replace hwz:=xnT hwz l.size; replace OF:=OF.below l; clear l; refine xeL ?_; refine xaL (.int .i64 (ki.e+1)) (addI .i64 _ _ _ _ _ _ _ rfl rfl rfl (by rw [xw6]; omega) _) ?_; refine xaL (.bool true) (eqlI .i64 _ _ _ _ _ _ rfl rfl rfl true (beq_iff_eq.2 h1) _) ?_; refine xT ?_; go_upto_region 2 with fail
   refine wp_region_list ?_; refine xpL (.pointer (some ⟨R,0,none⟩)) ?_; refine xpL (.pointer (some ⟨R,0,none⟩)) ?_; refine xpL (.pointer (some ⟨R,99,none⟩)) ?_
   replace M:Mm w0 ((R,[[Value.int .i64 r],kck ko,kck ki,[Value.map mc],[Value.map m0],[Value.map m1]].flatten)::(B1,row .u8 32 (fun _=>0))::T) w2:=M
   refine xcL (ginn_next hgb hki M) ?_; rintro e w3 ⟨rfl,l⟩; replace M:=M.call l; replace hwz:=xnT hwz l.size; replace OF:=OF.below l; clear l; refine xeL ?_; refine xpL (.agg (row .u8 32 (ynK ki)).toArray) ?_; refine xpL (.int .i64 (ynE ki)) ?_; replace M:=M.swap
   refine skipOpL rfl (storeP (row .u8 32 (ynK ki)) B1 0 23 _ _ rfl rfl rfl (M.thereP mS 0 32 (Nat.le_of_ble_eq_true rfl)) (by kernel_rfl) (row_one .u8 32 (ynK ki))) ?_; simp only [Act.put]; replace M:=M.setAll (row .u8 32 (ynK ki)) (by first | (rw [row32,row32]; done) | (rw [row32]; rfl) | (rw [row32]; done))
   replace hwz:=xnT hwz (Off.size ((Off.refl [B1] _).setAll (b:=B1) mS 0 (row .u8 32 (ynK ki)))); replace OF:=OF.and1 ((Off.refl [B1] _).setAll (b:=B1) mS 0 (row .u8 32 (ynK ki))) (.inr (by omega)); generalize w3.setCells B1 0 (row .u8 32 (ynK ki))=w4 at M hwz OF ⊢; refine xpL (.int .i64 (ynE ki)) ?_; refine xT ?_; have hK:=show Hid _ from (gkK_next h1)
   have hL:=show Hid _ from (gkL_next h1); have c1_:=M.part mS 0 (row .u8 32 (ynK ki)) (by rw [List.drop_zero,List.take_length])
   have hbel:Below w.heap.size w w4:=⟨M.below.os.trans hb0.os.symm,M.below.tape.trans hb0.tape.symm,M.below.output.trans hb0.output.symm,OF.size,fun b hb=>OF.blk b hb (fun h=>by cases h)⟩
   clear M OF h1; go_wp2; refine bodyPost_ret (v:=.tuple #[.agg (row .u8 32 (ynK ki)).toArray,.int .i64 (ynE ki)]) (retCellTmp 4 5 23 ⟨B1,0,none⟩ (row .u8 32 (ynK ki)) _ rfl rfl rfl (fun _=>by kernel_rfl) (fun _=>by rw [row32]; kernel_rfl) c1_) rfl ?_
   exact ⟨by rw [hK.out,hL.out],hbel⟩
 go_upto_region 1 with fail; refine wp_region_list ?_; refine xpL (.int .i64 n) ?_; refine xpL (.pointer (some ⟨R,0,none⟩)) ?_; refine xpL (.pointer (some ⟨R,0,none⟩)) ?_; refine xpL (.pointer (some ⟨R,99,none⟩)) ?_; replace M:=M.swap
 replace M:Mm w0 ((R,[[Value.int .i64 r],kck ko,kck ki,[Value.map mc],[Value.map m0],[Value.map m1]].flatten)::(B1,row .u8 32 (fun _=>0))::T) w1:=M
 refine xcL (ginn_epoch M) ?_; rintro e w5 ⟨rfl,l⟩; replace M:=M.call l; replace hwz:=xnT hwz l.size; replace OF:=OF.below l; clear l; refine xeL ?_; refine xaL (.int .i64 (ki.e+1)) (addI .i64 _ _ _ _ _ _ _ rfl rfl rfl (by rw [xw6]; omega) _) ?_; refine xaL (.bool false) (eqlI .i64 _ _ _ _ _ _ rfl rfl rfl false (beq_eq_false_iff_ne.2 h1) _) ?_; refine xT ?_; go_upto_region 3 with fail
 refine wp_region_list ?_; refine xpL (.pointer (some ⟨R,0,none⟩)) ?_; refine xpL (.pointer (some ⟨R,0,none⟩)) ?_; refine xpL (.pointer (some ⟨R,99,none⟩)) ?_; refine xpL (.int .i64 n) ?_
 replace M:Mm w0 ((R,[[Value.int .i64 r],kck ko,kck ki,[Value.map mc],[Value.map m0],[Value.map m1]].flatten)::(B1,row .u8 32 (fun _=>0))::T) w5:=M
 refine xcL (ginn_key hki n M) ?_; rintro e w6 ⟨rfl,l⟩; replace M:=M.call l; replace hwz:=xnT hwz l.size; replace OF:=OF.below l; clear l; refine xeL ?_; refine xpL (.agg (row .u8 32 (ykK ki n)).toArray) ?_; refine xpL (.int .i64 (ykE ki n)) ?_; replace M:=M.swap
 refine skipOpL rfl (storeP (row .u8 32 (ykK ki n)) B1 0 23 _ _ rfl rfl rfl (M.thereP mS 0 32 (Nat.le_of_ble_eq_true rfl)) (by kernel_rfl) (row_one .u8 32 (ykK ki n))) ?_; simp only [Act.put]; replace M:=M.setAll (row .u8 32 (ykK ki n)) (by first | (rw [row32,row32]; done) | (rw [row32]; rfl) | (rw [row32]; done))
 replace hwz:=xnT hwz (Off.size ((Off.refl [B1] _).setAll (b:=B1) mS 0 (row .u8 32 (ykK ki n)))); replace OF:=OF.and1 ((Off.refl [B1] _).setAll (b:=B1) mS 0 (row .u8 32 (ykK ki n))) (.inr (by omega)); generalize w6.setCells B1 0 (row .u8 32 (ykK ki n))=w7 at M hwz OF ⊢; refine xpL (.int .i64 (ykE ki n)) ?_; refine xT ?_; have hK:=show Hid _ from (gkK_key h1)
 have hL:=show Hid _ from (gkL_key h1); have c1_:=M.part mS 0 (row .u8 32 (ykK ki n)) (by rw [List.drop_zero,List.take_length])
 have hbel:Below w.heap.size w w7:=⟨M.below.os.trans hb0.os.symm,M.below.tape.trans hb0.tape.symm,M.below.output.trans hb0.output.symm,OF.size,fun b hb=>OF.blk b hb (fun h=>by cases h)⟩
 clear M OF h1; go_wp2; refine bodyPost_ret (v:=.tuple #[.agg (row .u8 32 (ykK ki n)).toArray,.int .i64 (ykE ki n)]) (retCellTmp 4 5 23 ⟨B1,0,none⟩ (row .u8 32 (ykK ki n)) _ rfl rfl rfl (fun _=>by kernel_rfl) (fun _=>by rw [row32]; kernel_rfl) c1_) rfl ?_
 exact ⟨by rw [hK.out,hL.out],hbel⟩
theorem gwin_now_found (w0 w:World) (R:Nat) (T:List (Nat × List Value)) (r:Int) (ko ki:Kys) (mc m0 m1:Option Nat) (hki:KysW ki) (n:Int) (hn:n=ki.e) (L:Wls) (x:Int) (hx:i64 x) (hN:NM w m0 (wpt L)) (b:Nat × List Value) (hl:L.lookup x=some b) (M:Mm w0 ((R,gcf r ko ki mc m0 m1)::T) w) :
 Calls Tryz.prog 47 #[.pointer (some ⟨R,0,none⟩),.int .i64 n,.int .i64 x] w fun e' w'=>e'=.returned (.pointer (some ⟨b.1,0,none⟩))∧Below w.heap.size w w':=by
 replace M:Mm w0 ((R,[[Value.int .i64 r],kck ko,kck ki,[Value.map mc],[Value.map m0],[Value.map m1]].flatten)::T) w:=M
 have hb0:=M.below; have hwz:=xnR w.heap.size; have OF:=Off.refl [] w
 go_enter Tryz.func47,Tryz.ntmps47
 have hlo:=hki.lo; have hhi:=hki.hi; go_upto_region 0 with fail; refine wp_region_list ?_; refine xpL (.pointer none) ?_; refine xT ?_; go_upto_region 1 with fail; refine wp_region_list ?_; refine xpL (.pointer (some ⟨R,0,none⟩)) ?_; refine xpL (.pointer (some ⟨R,0,none⟩)) ?_; refine xpL (.pointer (some ⟨R,99,none⟩)) ?_
 replace M:Mm w0 ((R,[[Value.int .i64 r],kck ko,kck ki,[Value.map mc],[Value.map m0],[Value.map m1]].flatten)::T) w:=M
 refine xcL (ginn_epoch M) ?_; rintro e w1 ⟨rfl,l⟩; replace M:=M.call l; replace hwz:=xnT hwz l.size; replace OF:=OF.below l; clear l; refine xeL ?_; refine xpL (.int .i64 n) ?_; refine xaL (.int .i64 0) (subI .i64 _ _ _ _ _ _ _ rfl rfl rfl (by rw [xw6]; omega) _) ?_; refine xpL (.int .i64 0) ?_; refine xT ?_; go_upto_region 2 with fail; refine wp_region_list ?_; refine xpL (.int .i64 0) ?_
 refine xaL (.bool true) (geqI .i64 _ _ _ _ _ _ rfl rfl rfl true (by decide) _) ?_; refine xT ?_; go_upto_region 3 with fail; refine wp_region_list ?_; refine xpL (.pointer (some ⟨R,0,none⟩)) ?_; refine xpL (.int .i64 0) ?_; refine xpL (.pointer (some ⟨R,0,none⟩)) ?_; refine xpL (.pointer (some ⟨R,198,none⟩)) ?_; refine xpL (.pointer (some ⟨R,198,none⟩)) ?_
 refine xaL (.map m0) (load1 61 _ ⟨R,198,none⟩ _ rfl rfl (fun _=>by kernel_rfl) (M.get mS 198 _ (flat_get _ [1,98,98,1,1,1] (by simp [kck_len]) 4 198 _ rfl rfl))) ?_; refine xpL (.int .i64 x) ?_
 refine xaL (.tuple #[.pointer (some ⟨b.1,0,none⟩),.bool true]) (lookOkNE (hN.off OF (fun _ _ h=>by cases h)) Tryz.underlying61 (.pointer none) (fun _=>by kernel_rfl) x hx _ (by unfold wpt; rw [hl]; rfl) true (by unfold wpt; rw [hl]; rfl) _ _ rfl rfl rfl) ?_; refine xpL (.tuple #[.pointer (some ⟨b.1,0,none⟩),.bool true]) ?_; refine xpL (.pointer (some ⟨b.1,0,none⟩)) ?_
 refine xpL (.bool true) ?_; refine xpL (.pointer (some ⟨b.1,0,none⟩)) ?_; refine xpL (.bool true) ?_; refine xT ?_; go_upto_region 4 with fail; refine wp_region_list ?_; refine xpL (.bool true) ?_; refine xT ?_; go_upto_region 5 with fail; refine wp_region_list ?_; refine xpL (.pointer (some ⟨b.1,0,none⟩)) ?_; refine xpL (.pointer (some ⟨b.1,0,none⟩)) ?_; refine xT ?_
 have hbel:Below w.heap.size w w1:=⟨M.below.os.trans hb0.os.symm,M.below.tape.trans hb0.tape.symm,M.below.output.trans hb0.output.symm,OF.size,fun b hb=>OF.blk b hb (fun h=>by cases h)⟩
 have HS:=show Hid _ from hbel; clear M OF hbel; clear hN hl; go_wp2; go_ret
 exact ⟨rfl,HS.out⟩
theorem gwin_now_new (w0 w:World) (R:Nat) (T:List (Nat × List Value)) (r:Int) (ko ki:Kys) (mc m0 m1:Option Nat) (hki:KysW ki) (n:Int) (hn:n=ki.e) (L:Wls) (x:Int) (hx:i64 x) (hN:NM w m0 (wpt L)) (hl:L.lookup x=none) (M:Mm w0 ((R,gcf r ko ki mc m0 m1)::T) w) :
 Calls Tryz.prog 47 #[.pointer (some ⟨R,0,none⟩),.int .i64 n,.int .i64 x] w fun e' w'=>∃ B W,e'=.returned (.pointer (some ⟨B,0,none⟩))∧w.heap.size≤B∧Wds W []∧Mm w0 ((B,wcv (wtop []) W)::(R,gcf r ko ki mc m0 m1)::T) w'∧Below w.heap.size w w':=by
 replace M:Mm w0 ((R,[[Value.int .i64 r],kck ko,kck ki,[Value.map mc],[Value.map m0],[Value.map m1]].flatten)::T) w:=M
 have hb0:=M.below; have hwz:=xnR w.heap.size; have OF:=Off.refl [] w
 go_enter Tryz.func47,Tryz.ntmps47
 have hlo:=hki.lo; have hhi:=hki.hi; go_upto_region 0 with fail; refine wp_region_list ?_; refine xpL (.pointer none) ?_; refine xT ?_; go_upto_region 1 with fail; refine wp_region_list ?_; refine xpL (.pointer (some ⟨R,0,none⟩)) ?_; refine xpL (.pointer (some ⟨R,0,none⟩)) ?_; refine xpL (.pointer (some ⟨R,99,none⟩)) ?_
 replace M:Mm w0 ((R,[[Value.int .i64 r],kck ko,kck ki,[Value.map mc],[Value.map m0],[Value.map m1]].flatten)::T) w:=M
 refine xcL (ginn_epoch M) ?_; rintro e w1 ⟨rfl,l⟩; replace M:=M.call l; replace hwz:=xnT hwz l.size; replace OF:=OF.below l; clear l; refine xeL ?_; refine xpL (.int .i64 n) ?_; refine xaL (.int .i64 0) (subI .i64 _ _ _ _ _ _ _ rfl rfl rfl (by rw [xw6]; omega) _) ?_; refine xpL (.int .i64 0) ?_; refine xT ?_; go_upto_region 2 with fail; refine wp_region_list ?_; refine xpL (.int .i64 0) ?_
 refine xaL (.bool true) (geqI .i64 _ _ _ _ _ _ rfl rfl rfl true (by decide) _) ?_; refine xT ?_; go_upto_region 3 with fail; refine wp_region_list ?_; refine xpL (.pointer (some ⟨R,0,none⟩)) ?_; refine xpL (.int .i64 0) ?_; refine xpL (.pointer (some ⟨R,0,none⟩)) ?_; refine xpL (.pointer (some ⟨R,198,none⟩)) ?_; refine xpL (.pointer (some ⟨R,198,none⟩)) ?_
 refine xaL (.map m0) (load1 61 _ ⟨R,198,none⟩ _ rfl rfl (fun _=>by kernel_rfl) (M.get mS 198 _ (flat_get _ [1,98,98,1,1,1] (by simp [kck_len]) 4 198 _ rfl rfl))) ?_; refine xpL (.int .i64 x) ?_
 refine xaL (.tuple #[.pointer none,.bool false]) (lookOkNE (hN.off OF (fun _ _ h=>by cases h)) Tryz.underlying61 (.pointer none) (fun _=>by kernel_rfl) x hx _ (by unfold wpt; rw [hl]; rfl) false (by unfold wpt; rw [hl]; rfl) _ _ rfl rfl rfl) ?_; refine xpL (.tuple #[.pointer none,.bool false]) ?_; refine xpL (.pointer none) ?_; refine xpL (.bool false) ?_; refine xpL (.pointer none) ?_
 refine xpL (.bool false) ?_; refine xT ?_; go_upto_region 4 with fail; refine wp_region_list ?_; refine xpL (.bool false) ?_; refine xT ?_; go_upto_region 6 with fail; refine wp_region_list ?_
 replace M:Mm w0 ((R,[[Value.int .i64 r],kck ko,kck ki,[Value.map mc],[Value.map m0],[Value.map m1]].flatten)::T) w1:=M
 refine xcL (gwnew_any w0 _ _ M) ?_; rintro e w2 ⟨BW,WW,rfl,hB_BW,hWd,M',l1⟩; clear M; have M:=M'; clear M'; replace hB_BW:=xnT hwz hB_BW; replace hwz:=xnT hwz l1.size; replace OF:=OF.below l1; clear l1; refine xeL ?_; refine xpL (.pointer (some ⟨BW,0,none⟩)) ?_; refine xT ?_
 have hbel:Below w.heap.size w w2:=⟨M.below.os.trans hb0.os.symm,M.below.tape.trans hb0.tape.symm,M.below.output.trans hb0.output.symm,OF.size,fun b hb=>OF.blk b hb (fun h=>by cases h)⟩
 have HS:=show Hid _ from (And.intro hB_BW (And.intro hWd (And.intro M hbel))); clear M OF hbel hWd hB_BW; clear hN hl; go_wp2; go_ret
 first | exact ⟨BW,WW,rfl,HS.out⟩ | exact ⟨BW,rfl,HS.out.1,WW,HS.out.2⟩ | exact ⟨BW,rfl,WW,HS.out⟩
theorem gwin_last_found (w0 w:World) (R:Nat) (T:List (Nat × List Value)) (r:Int) (ko ki:Kys) (mc m0 m1:Option Nat) (hki:KysW ki) (n:Int) (hn:n=ki.e-1) (L:Wls) (x:Int) (hx:i64 x) (hN:NM w m1 (wpt L)) (b:Nat × List Value) (hl:L.lookup x=some b) (M:Mm w0 ((R,gcf r ko ki mc m0 m1)::T) w) :
 Calls Tryz.prog 47 #[.pointer (some ⟨R,0,none⟩),.int .i64 n,.int .i64 x] w fun e' w'=>e'=.returned (.pointer (some ⟨b.1,0,none⟩))∧Below w.heap.size w w':=by
 replace M:Mm w0 ((R,[[Value.int .i64 r],kck ko,kck ki,[Value.map mc],[Value.map m0],[Value.map m1]].flatten)::T) w:=M
 have hb0:=M.below; have hwz:=xnR w.heap.size; have OF:=Off.refl [] w
 go_enter Tryz.func47,Tryz.ntmps47
 have hlo:=hki.lo; have hhi:=hki.hi; go_upto_region 0 with fail; refine wp_region_list ?_; refine xpL (.pointer none) ?_; refine xT ?_; go_upto_region 1 with fail; refine wp_region_list ?_; refine xpL (.pointer (some ⟨R,0,none⟩)) ?_; refine xpL (.pointer (some ⟨R,0,none⟩)) ?_; refine xpL (.pointer (some ⟨R,99,none⟩)) ?_
 replace M:Mm w0 ((R,[[Value.int .i64 r],kck ko,kck ki,[Value.map mc],[Value.map m0],[Value.map m1]].flatten)::T) w:=M
 refine xcL (ginn_epoch M) ?_; rintro e w1 ⟨rfl,l⟩; replace M:=M.call l; replace hwz:=xnT hwz l.size; replace OF:=OF.below l; clear l; refine xeL ?_; refine xpL (.int .i64 n) ?_; refine xaL (.int .i64 1) (subI .i64 _ _ _ _ _ _ _ rfl rfl rfl (by rw [xw6]; omega) _) ?_; refine xpL (.int .i64 1) ?_; refine xT ?_; go_upto_region 2 with fail; refine wp_region_list ?_; refine xpL (.int .i64 1) ?_
 refine xaL (.bool true) (geqI .i64 _ _ _ _ _ _ rfl rfl rfl true (by decide) _) ?_; refine xT ?_; go_upto_region 3 with fail; refine wp_region_list ?_; refine xpL (.pointer (some ⟨R,0,none⟩)) ?_; refine xpL (.int .i64 1) ?_; refine xpL (.pointer (some ⟨R,0,none⟩)) ?_; refine xpL (.pointer (some ⟨R,198,none⟩)) ?_; refine xpL (.pointer (some ⟨R,199,none⟩)) ?_
 refine xaL (.map m1) (load1 61 _ ⟨R,199,none⟩ _ rfl rfl (fun _=>by kernel_rfl) (M.get mS 199 _ (flat_get _ [1,98,98,1,1,1] (by simp [kck_len]) 5 199 _ rfl rfl))) ?_; refine xpL (.int .i64 x) ?_
 refine xaL (.tuple #[.pointer (some ⟨b.1,0,none⟩),.bool true]) (lookOkNE (hN.off OF (fun _ _ h=>by cases h)) Tryz.underlying61 (.pointer none) (fun _=>by kernel_rfl) x hx _ (by unfold wpt; rw [hl]; rfl) true (by unfold wpt; rw [hl]; rfl) _ _ rfl rfl rfl) ?_; refine xpL (.tuple #[.pointer (some ⟨b.1,0,none⟩),.bool true]) ?_; refine xpL (.pointer (some ⟨b.1,0,none⟩)) ?_
 refine xpL (.bool true) ?_; refine xpL (.pointer (some ⟨b.1,0,none⟩)) ?_; refine xpL (.bool true) ?_; refine xT ?_; go_upto_region 4 with fail; refine wp_region_list ?_; refine xpL (.bool true) ?_; refine xT ?_; go_upto_region 5 with fail; refine wp_region_list ?_; refine xpL (.pointer (some ⟨b.1,0,none⟩)) ?_; refine xpL (.pointer (some ⟨b.1,0,none⟩)) ?_; refine xT ?_
 have hbel:Below w.heap.size w w1:=⟨M.below.os.trans hb0.os.symm,M.below.tape.trans hb0.tape.symm,M.below.output.trans hb0.output.symm,OF.size,fun b hb=>OF.blk b hb (fun h=>by cases h)⟩
 have HS:=show Hid _ from hbel; clear M OF hbel; clear hN hl; go_wp2; go_ret
 exact ⟨rfl,HS.out⟩
theorem gwin_last_new (w0 w:World) (R:Nat) (T:List (Nat × List Value)) (r:Int) (ko ki:Kys) (mc m0 m1:Option Nat) (hki:KysW ki) (n:Int) (hn:n=ki.e-1) (L:Wls) (x:Int) (hx:i64 x) (hN:NM w m1 (wpt L)) (hl:L.lookup x=none) (M:Mm w0 ((R,gcf r ko ki mc m0 m1)::T) w) :
 Calls Tryz.prog 47 #[.pointer (some ⟨R,0,none⟩),.int .i64 n,.int .i64 x] w fun e' w'=>∃ B W,e'=.returned (.pointer (some ⟨B,0,none⟩))∧w.heap.size≤B∧Wds W []∧Mm w0 ((B,wcv (wtop []) W)::(R,gcf r ko ki mc m0 m1)::T) w'∧Below w.heap.size w w':=by
 replace M:Mm w0 ((R,[[Value.int .i64 r],kck ko,kck ki,[Value.map mc],[Value.map m0],[Value.map m1]].flatten)::T) w:=M
 have hb0:=M.below; have hwz:=xnR w.heap.size; have OF:=Off.refl [] w
 go_enter Tryz.func47,Tryz.ntmps47
 have hlo:=hki.lo; have hhi:=hki.hi; go_upto_region 0 with fail; refine wp_region_list ?_; refine xpL (.pointer none) ?_; refine xT ?_; go_upto_region 1 with fail; refine wp_region_list ?_; refine xpL (.pointer (some ⟨R,0,none⟩)) ?_; refine xpL (.pointer (some ⟨R,0,none⟩)) ?_; refine xpL (.pointer (some ⟨R,99,none⟩)) ?_
 replace M:Mm w0 ((R,[[Value.int .i64 r],kck ko,kck ki,[Value.map mc],[Value.map m0],[Value.map m1]].flatten)::T) w:=M
 refine xcL (ginn_epoch M) ?_; rintro e w1 ⟨rfl,l⟩; replace M:=M.call l; replace hwz:=xnT hwz l.size; replace OF:=OF.below l; clear l; refine xeL ?_; refine xpL (.int .i64 n) ?_; refine xaL (.int .i64 1) (subI .i64 _ _ _ _ _ _ _ rfl rfl rfl (by rw [xw6]; omega) _) ?_; refine xpL (.int .i64 1) ?_; refine xT ?_; go_upto_region 2 with fail; refine wp_region_list ?_; refine xpL (.int .i64 1) ?_
 refine xaL (.bool true) (geqI .i64 _ _ _ _ _ _ rfl rfl rfl true (by decide) _) ?_; refine xT ?_; go_upto_region 3 with fail; refine wp_region_list ?_; refine xpL (.pointer (some ⟨R,0,none⟩)) ?_; refine xpL (.int .i64 1) ?_; refine xpL (.pointer (some ⟨R,0,none⟩)) ?_; refine xpL (.pointer (some ⟨R,198,none⟩)) ?_; refine xpL (.pointer (some ⟨R,199,none⟩)) ?_
 refine xaL (.map m1) (load1 61 _ ⟨R,199,none⟩ _ rfl rfl (fun _=>by kernel_rfl) (M.get mS 199 _ (flat_get _ [1,98,98,1,1,1] (by simp [kck_len]) 5 199 _ rfl rfl))) ?_; refine xpL (.int .i64 x) ?_
 refine xaL (.tuple #[.pointer none,.bool false]) (lookOkNE (hN.off OF (fun _ _ h=>by cases h)) Tryz.underlying61 (.pointer none) (fun _=>by kernel_rfl) x hx _ (by unfold wpt; rw [hl]; rfl) false (by unfold wpt; rw [hl]; rfl) _ _ rfl rfl rfl) ?_; refine xpL (.tuple #[.pointer none,.bool false]) ?_; refine xpL (.pointer none) ?_; refine xpL (.bool false) ?_; refine xpL (.pointer none) ?_
 refine xpL (.bool false) ?_; refine xT ?_; go_upto_region 4 with fail; refine wp_region_list ?_; refine xpL (.bool false) ?_; refine xT ?_; go_upto_region 6 with fail; refine wp_region_list ?_
 replace M:Mm w0 ((R,[[Value.int .i64 r],kck ko,kck ki,[Value.map mc],[Value.map m0],[Value.map m1]].flatten)::T) w1:=M
 refine xcL (gwnew_any w0 _ _ M) ?_; rintro e w2 ⟨BW,WW,rfl,hB_BW,hWd,M',l1⟩; clear M; have M:=M'; clear M'; replace hB_BW:=xnT hwz hB_BW; replace hwz:=xnT hwz l1.size; replace OF:=OF.below l1; clear l1; refine xeL ?_; refine xpL (.pointer (some ⟨BW,0,none⟩)) ?_; refine xT ?_
 have hbel:Below w.heap.size w w2:=⟨M.below.os.trans hb0.os.symm,M.below.tape.trans hb0.tape.symm,M.below.output.trans hb0.output.symm,OF.size,fun b hb=>OF.blk b hb (fun h=>by cases h)⟩
 have HS:=show Hid _ from (And.intro hB_BW (And.intro hWd (And.intro M hbel))); clear M OF hbel hWd hB_BW; clear hN hl; go_wp2; go_ret
 first | exact ⟨BW,WW,rfl,HS.out⟩ | exact ⟨BW,rfl,HS.out.1,WW,HS.out.2⟩ | exact ⟨BW,rfl,WW,HS.out⟩
theorem gwin_next_new (w0 w:World) (R:Nat) (T:List (Nat × List Value)) (r:Int) (ko ki:Kys) (mc m0 m1:Option Nat) (hki:KysW ki) (n:Int) (hn:n=ki.e+1) (x:Int) (M:Mm w0 ((R,gcf r ko ki mc m0 m1)::T) w) :
 Calls Tryz.prog 47 #[.pointer (some ⟨R,0,none⟩),.int .i64 n,.int .i64 x] w fun e' w'=>∃ B W,e'=.returned (.pointer (some ⟨B,0,none⟩))∧w.heap.size≤B∧Wds W []∧Mm w0 ((B,wcv (wtop []) W)::(R,gcf r ko ki mc m0 m1)::T) w'∧Below w.heap.size w w':=by
 replace M:Mm w0 ((R,[[Value.int .i64 r],kck ko,kck ki,[Value.map mc],[Value.map m0],[Value.map m1]].flatten)::T) w:=M
 have hb0:=M.below; have hwz:=xnR w.heap.size; have OF:=Off.refl [] w
 go_enter Tryz.func47,Tryz.ntmps47
 have hlo:=hki.lo; have hhi:=hki.hi; go_upto_region 0 with fail; refine wp_region_list ?_; refine xpL (.pointer none) ?_; refine xT ?_; go_upto_region 1 with fail; refine wp_region_list ?_; refine xpL (.pointer (some ⟨R,0,none⟩)) ?_; refine xpL (.pointer (some ⟨R,0,none⟩)) ?_; refine xpL (.pointer (some ⟨R,99,none⟩)) ?_
 replace M:Mm w0 ((R,[[Value.int .i64 r],kck ko,kck ki,[Value.map mc],[Value.map m0],[Value.map m1]].flatten)::T) w:=M
 refine xcL (ginn_epoch M) ?_; rintro e w1 ⟨rfl,l⟩; replace M:=M.call l; replace hwz:=xnT hwz l.size; replace OF:=OF.below l; clear l; refine xeL ?_; refine xpL (.int .i64 n) ?_; refine xaL (.int .i64 (-1)) (subI .i64 _ _ _ _ _ _ _ rfl rfl rfl (by rw [xw6]; omega) _) ?_; refine xpL (.int .i64 (-1)) ?_; refine xT ?_; go_upto_region 2 with fail; refine wp_region_list ?_
 refine xpL (.int .i64 (-1)) ?_; refine xaL (.bool false) (geqI .i64 _ _ _ _ _ _ rfl rfl rfl false (by decide) _) ?_; refine xT ?_; go_upto_region 6 with fail; refine wp_region_list ?_
 replace M:Mm w0 ((R,[[Value.int .i64 r],kck ko,kck ki,[Value.map mc],[Value.map m0],[Value.map m1]].flatten)::T) w1:=M
 refine xcL (gwnew_any w0 _ _ M) ?_; rintro e w2 ⟨BW,WW,rfl,hB_BW,hWd,M',l1⟩; clear M; have M:=M'; clear M'; replace hB_BW:=xnT hwz hB_BW; replace hwz:=xnT hwz l1.size; replace OF:=OF.below l1; clear l1; refine xeL ?_; refine xpL (.pointer (some ⟨BW,0,none⟩)) ?_; refine xT ?_
 have hbel:Below w.heap.size w w2:=⟨M.below.os.trans hb0.os.symm,M.below.tape.trans hb0.tape.symm,M.below.output.trans hb0.output.symm,OF.size,fun b hb=>OF.blk b hb (fun h=>by cases h)⟩
 have HS:=show Hid _ from (And.intro hB_BW (And.intro hWd (And.intro M hbel))); clear M OF hbel hWd hB_BW; go_wp2; go_ret
 first | exact ⟨BW,WW,rfl,HS.out⟩ | exact ⟨BW,rfl,HS.out.1,WW,HS.out.2⟩ | exact ⟨BW,rfl,WW,HS.out⟩
theorem Mm.fetch {w0 w:World} {l:List (Nat × List Value)} (M:Mm w0 l w) {p:Nat × List Value} (h:p∈l):∃ l',l.Perm (p::l')∧Mm w0 (p::l') w:=by
 obtain ⟨s,t,rfl⟩:=List.append_of_mem h
 exact ⟨s++t,List.perm_middle,M.perm List.perm_middle⟩
def Sees (w0 w:World) (v:Value) (S:List Int):Prop:=∃ B W l,v=.pointer (some ⟨B,0,none⟩)∧Wds W S∧Mm w0 ((B,wcv (wtop S) W)::l) w
theorem sees_found {w0 w:World} {L:Wls} {m:Option Nat} {win:Int→List Int} {x:Int} {b:Nat × List Value} {l:List (Nat × List Value)} (W:Wns w m L win) (hl:L.lookup x=some b) (M:Mm w0 l w) (hL:∀ p∈L.map Prod.snd,p∈l) {w':World} (hb:Below w.heap.size w w'):Sees w0 w' (.pointer (some ⟨b.1,0,none⟩)) (win x):=by
 have hm:=lookup_mem hl
 obtain ⟨B,V,e1,e2,e3⟩:=W.is _ hm
 injection e1 with e1
 injection e1 with e1
 injection e1 with e1 _ _
 obtain ⟨l',_,M'⟩:=(M.call hb).fetch (hL b (List.mem_map.2 ⟨_,hm,rfl⟩))
 injection e3 with e3 _
 have e3':b=(B,wcv (wtop (win x)) V):=e3
 rw [e3'] at M' ⊢
 exact ⟨B,V,l',rfl,e2,M'⟩
theorem gwin_see (w0 w:World) (R:Nat) (T:List (Nat × List Value)) (r:Int) (ko ki:Kys) (mc m0 m1:Option Nat) (hki:KysW ki) (n x:Int) (hx:i64 x) (win0 win1 winx:Int→List Int) (L0 L1:Wls) (W0:Wns w m0 L0 win0) (W1:Wns w m1 L1 win1) (hS:(n=ki.e∧winx=win0)∨(n=ki.e-1∧winx=win1)∨(n=ki.e+1∧winx x=[])) (M:Mm w0 ((R,gcf r ko ki mc m0 m1)::(mbs mc++(mbs m0++(mbs m1++(L0.map Prod.snd++(L1.map Prod.snd++T)))))) w) :
 Calls Tryz.prog 47 #[.pointer (some ⟨R,0,none⟩),.int .i64 n,.int .i64 x] w fun e' w'=>(∃ v,e'=.returned v∧Sees w0 w' v (winx x))∧Below w.heap.size w w':=by
 rcases hS with ⟨hn,rfl⟩ | ⟨hn,rfl⟩ | ⟨hn,hw⟩
 · cases hl:L0.lookup x with
   | some b=>exact (gwin_now_found w0 w R _ r ko ki mc m0 m1 hki n hn L0 x hx W0.map b hl M).mono fun e w' ⟨h1,h2⟩=>⟨⟨_,h1,sees_found W0 hl M (fun p hp=>by simp only [List.mem_cons,List.mem_append]; exact .inr (.inr (.inr (.inr (.inl hp))))) h2⟩,h2⟩
   | none=>exact (gwin_now_new w0 w R _ r ko ki mc m0 m1 hki n hn L0 x hx W0.map hl M).mono fun e w' ⟨B,V,h1,_,h2,h3,h4⟩=>⟨⟨_,h1,B,V,_,rfl,by rw [W0.gone x hl]; exact h2,by rw [W0.gone x hl]; exact h3⟩,h4⟩
 · cases hl:L1.lookup x with
   | some b=>exact (gwin_last_found w0 w R _ r ko ki mc m0 m1 hki n hn L1 x hx W1.map b hl M).mono fun e w' ⟨h1,h2⟩=>⟨⟨_,h1,sees_found W1 hl M (fun p hp=>by simp only [List.mem_cons,List.mem_append]; exact .inr (.inr (.inr (.inr (.inr (.inl hp)))))) h2⟩,h2⟩
   | none=>exact (gwin_last_new w0 w R _ r ko ki mc m0 m1 hki n hn L1 x hx W1.map hl M).mono fun e w' ⟨B,V,h1,_,h2,h3,h4⟩=>⟨⟨_,h1,B,V,_,rfl,by rw [W1.gone x hl]; exact h2,by rw [W1.gone x hl]; exact h3⟩,h4⟩
 · exact (gwin_next_new w0 w R _ r ko ki mc m0 m1 hki n hn x M).mono fun e w' ⟨B,V,h1,_,h2,h3,h4⟩=>⟨⟨_,h1,B,V,_,rfl,by rw [hw]; exact h2,by rw [hw]; exact h3⟩,h4⟩
end
section
open Go.RowKit Go.MapKept Go.ChangeMaps Go.WideShapes
theorem gcounter_is (w0 w:World) (R:Nat) (T:List (Nat × List Value)) (r:Int) (ko ki:Kys) (mc m0 m1:Option Nat) (cnt:Int→Int) (C:Cts w mc cnt) (p:Int) (hp:i64 p) (c:Int) (hc:ctv cnt p=c) (M:Mm w0 ((R,gcf r ko ki mc m0 m1)::T) w) :
 Calls Tryz.prog 20 #[.pointer (some ⟨R,0,none⟩),.int .i64 p] w fun e' w'=>e'=.returned (.int .i64 c)∧Below w.heap.size w w':=by
 subst hc
 exact gcounter_any w0 w R T r ko ki mc m0 m1 cnt C p hp M
theorem gseal_any (w0 w:World) (R:Nat) (T:List (Nat × List Value)) (g:Grd) (mc m0 m1:Option Nat) (hg:GGlob w0) (hw:GrdW g) (C:Cts w mc g.cnt) (p:Int) (hp6:i64 p) (sp:Option Addr) (cap:Nat) (t:List Int) (hlen:t.length≤140737488351232) (hcap:t.length≤cap) (hnil:sp=none→cap=0) (ht:Byts t) (M:Mm w0 ((R,gcf g.role g.out g.inn mc m0 m1)::(mbs mc++T)) w) (hs:SrcA (R::(mbs mc).map Prod.fst) w sp t.length (bl t)) :
 Calls Tryz.prog 13 #[.pointer (some ⟨R,0,none⟩),.int .i64 p,.slice sp t.length cap] w fun e' w'=>∃ sq cq mc',e'=.returned (.tuple #[.slice sq (gsB g p t).length cq,.int .i64 (gsE g p t.length)])∧NewL w' w.heap.size (gsB g p t) (.slice sq (gsB g p t).length cq)∧Mm w0 ((R,gcf g.role g.out g.inn mc' m0 m1)::(mbs mc'++(obs sq++T))) w'∧Cts w' mc' (gsN g p t.length).cnt∧Off (R::(mbs mc).map Prod.fst) w w':=by
 replace M:Mm w0 ((R,[[Value.int .i64 g.role],kck g.out,kck g.inn,[Value.map mc],[Value.map m0],[Value.map m1]].flatten)::(mbs mc++T)) w:=M
 have hwz:=xnR w.heap.size; have OF:=Off.refl (R::(mbs mc).map Prod.fst) w
 go_enter Tryz.func13,Tryz.ntmps13
 have CT:=C; clear C; have hgb:=hg.b; have hrl:=hw.role; have hcn:=hw.cnt p
 by_cases hq:0≤p∧p≤255
 · by_cases hl:256<t.length
   · go_upto_region 0 with fail
     refine wp_region_list ?_; refine xpL (.slice none 0 0) ?_; refine xpL (.int .i64 0) ?_; refine xT ?_; go_upto_region 1 with fail; refine wp_region_list ?_; refine xpL (.pointer (some ⟨R,0,none⟩)) ?_; refine xpL (.int .i64 p) ?_
     replace M:Mm w0 ((R,[[Value.int .i64 g.role],kck g.out,kck g.inn,[Value.map mc],[Value.map m0],[Value.map m1]].flatten)::(mbs mc++T)) w:=M
     refine xcL (gcounter_is w0 _ R _ _ _ _ _ _ _ g.cnt CT p hp6 (g.cnt p) (ctv_in hq) M) ?_; rintro e w3 ⟨rfl,l⟩; replace M:=M.call l; replace hwz:=xnT hwz l.size; replace OF:=OF.below l; replace CT:=CT.below l; clear l; refine xeL ?_; refine xpL (.int .i64 (g.cnt p)) ?_; refine xT ?_; go_upto_region 2 with fail; refine wp_region_list ?_; refine xpL (.int .i64 p) ?_
     refine xcL (gispath_is p true (isp_yes hq) _) ?_; rintro e w4 ⟨rfl,l⟩; replace M:=M.call l; replace hwz:=xnT hwz l.size; replace OF:=OF.below l; replace CT:=CT.below l; clear l; refine xeL ?_; refine xpL (.bool false) ?_; refine xpL (.bool false) ?_; refine xT ?_; go_upto_region 4 with fail; refine wp_region_list ?_; refine xpL (.slice sp t.length cap) ?_
     refine xaL (.int .i64 ((t.length:Nat):Int)) (lenS _ 29 5 sp t.length cap rfl Tryz.underlying29 rfl _) ?_; refine xaL (.bool true) (gtrI .i64 _ _ _ _ _ _ rfl rfl rfl true (decide_eq_true (by omega)) _) ?_; refine xpL (.bool true) ?_; refine xT ?_; go_upto_region 5 with fail; refine wp_region_list ?_; refine xpL (.slice none 0 0) ?_; refine xpL (.int .i64 2) ?_; refine xT ?_
     have hE:=show Hid _ from (gsE_long (g:=g) (n:=t.length) hq hl); have HS:=show Hid _ from (And.intro M (And.intro CT OF)); clear M CT OF; go_wp2; go_ret2
     have hB0:gsB g p t=[]:=gsB_err (by rw [hE.out]; decide)
     rw [hB0,hE.out]
     first | exact ⟨none,0,rfl,NewF.nil _ _ _,mc,HS.out.1,by unfold gsN; rw [hE.out]; exact HS.out.2.1,HS.out.2.2⟩ | exact ⟨none,0,mc,rfl,NewF.nil _ _ _,HS.out.1,by unfold gsN; rw [hE.out]; exact HS.out.2.1,HS.out.2.2⟩
   by_cases hx:281474976710655<g.cnt p
   · go_upto_region 0 with fail
     refine wp_region_list ?_; refine xpL (.slice none 0 0) ?_; refine xpL (.int .i64 0) ?_; refine xT ?_; go_upto_region 1 with fail; refine wp_region_list ?_; refine xpL (.pointer (some ⟨R,0,none⟩)) ?_; refine xpL (.int .i64 p) ?_
     replace M:Mm w0 ((R,[[Value.int .i64 g.role],kck g.out,kck g.inn,[Value.map mc],[Value.map m0],[Value.map m1]].flatten)::(mbs mc++T)) w:=M
     refine xcL (gcounter_is w0 _ R _ _ _ _ _ _ _ g.cnt CT p hp6 (g.cnt p) (ctv_in hq) M) ?_; rintro e w5 ⟨rfl,l⟩; replace M:=M.call l; replace hwz:=xnT hwz l.size; replace OF:=OF.below l; replace CT:=CT.below l; clear l; refine xeL ?_; refine xpL (.int .i64 (g.cnt p)) ?_; refine xT ?_; go_upto_region 2 with fail; refine wp_region_list ?_; refine xpL (.int .i64 p) ?_
     refine xcL (gispath_is p true (isp_yes hq) _) ?_; rintro e w6 ⟨rfl,l⟩; replace M:=M.call l; replace hwz:=xnT hwz l.size; replace OF:=OF.below l; replace CT:=CT.below l; clear l; refine xeL ?_; refine xpL (.bool false) ?_; refine xpL (.bool false) ?_; refine xT ?_; go_upto_region 4 with fail; refine wp_region_list ?_; refine xpL (.slice sp t.length cap) ?_
     refine xaL (.int .i64 ((t.length:Nat):Int)) (lenS _ 29 5 sp t.length cap rfl Tryz.underlying29 rfl _) ?_; refine xaL (.bool false) (gtrI .i64 _ _ _ _ _ _ rfl rfl rfl false (decide_eq_false (by omega)) _) ?_; refine xpL (.bool false) ?_; refine xT ?_; go_upto_region 6 with fail; refine wp_region_list ?_; refine xpL (.int .i64 (g.cnt p)) ?_
     refine xaL (.bool true) (gtrI .i64 _ _ _ _ _ _ rfl rfl rfl true (decide_eq_true (by omega)) _) ?_; refine xpL (.bool true) ?_; refine xT ?_; go_upto_region 7 with fail; refine wp_region_list ?_; refine xpL (.slice none 0 0) ?_; refine xpL (.int .i64 6) ?_; refine xT ?_; have hE:=show Hid _ from (gsE_end (g:=g) hq (show t.length≤256 by omega) hx)
     have HS:=show Hid _ from (And.intro M (And.intro CT OF)); clear M CT OF; go_wp2; go_ret2
     have hB0:gsB g p t=[]:=gsB_err (by rw [hE.out]; decide)
     rw [hB0,hE.out]
     first | exact ⟨none,0,rfl,NewF.nil _ _ _,mc,HS.out.1,by unfold gsN; rw [hE.out]; exact HS.out.2.1,HS.out.2.2⟩ | exact ⟨none,0,mc,rfl,NewF.nil _ _ _,HS.out.1,by unfold gsN; rw [hE.out]; exact HS.out.2.1,HS.out.2.2⟩
   go_upto_region 0 with fail; refine wp_region_list ?_; refine xpL (.slice none 0 0) ?_; refine xpL (.int .i64 0) ?_; refine xT ?_; go_upto_region 1 with fail; refine wp_region_list ?_; refine xpL (.pointer (some ⟨R,0,none⟩)) ?_; refine xpL (.int .i64 p) ?_
   replace M:Mm w0 ((R,[[Value.int .i64 g.role],kck g.out,kck g.inn,[Value.map mc],[Value.map m0],[Value.map m1]].flatten)::(mbs mc++T)) w:=M
   refine xcL (gcounter_is w0 _ R _ _ _ _ _ _ _ g.cnt CT p hp6 (g.cnt p) (ctv_in hq) M) ?_; rintro e w7 ⟨rfl,l⟩; replace M:=M.call l; replace hwz:=xnT hwz l.size; replace OF:=OF.below l; replace CT:=CT.below l; clear l; refine xeL ?_; refine xpL (.int .i64 (g.cnt p)) ?_; refine xT ?_; go_upto_region 2 with fail; refine wp_region_list ?_; refine xpL (.int .i64 p) ?_
   refine xcL (gispath_is p true (isp_yes hq) _) ?_; rintro e w8 ⟨rfl,l⟩; replace M:=M.call l; replace hwz:=xnT hwz l.size; replace OF:=OF.below l; replace CT:=CT.below l; clear l; refine xeL ?_; refine xpL (.bool false) ?_; refine xpL (.bool false) ?_; refine xT ?_; go_upto_region 4 with fail; refine wp_region_list ?_; refine xpL (.slice sp t.length cap) ?_
   refine xaL (.int .i64 ((t.length:Nat):Int)) (lenS _ 29 5 sp t.length cap rfl Tryz.underlying29 rfl _) ?_; refine xaL (.bool false) (gtrI .i64 _ _ _ _ _ _ rfl rfl rfl false (decide_eq_false (by omega)) _) ?_; refine xpL (.bool false) ?_; refine xT ?_; go_upto_region 6 with fail; refine wp_region_list ?_; refine xpL (.int .i64 (g.cnt p)) ?_
   refine xaL (.bool false) (gtrI .i64 _ _ _ _ _ _ rfl rfl rfl false (decide_eq_false (by omega)) _) ?_; refine xpL (.bool false) ?_; refine xT ?_; have hE:=gsE_zero (g:=g) hq (show t.length≤256 by omega) (show g.cnt p≤281474976710655 by omega)
   replace M:Mm w0 ((R,[[Value.int .i64 g.role],kck g.out,kck g.inn,[Value.map mc],[Value.map m0],[Value.map m1]].flatten)::(mbs mc++T)) w8:=M
   go_upto_region 8 with fail; refine wp_region_held_drew (S:=fun w'=>Mm w0 ((R,[[Value.int .i64 g.role],kck g.out,kck g.inn,[Value.map mc],[Value.map m0],[Value.map m1]].flatten)::(mbs mc++T)) w'∧Below w8.drew.heap.size w8.drew w') (by kernel_rfl) ⟨M.drew,Below.refl _ _⟩ ?_; intro _; replace M:=M.drew; have hdr:=(Below.refl w8.heap.size w8).drew
   replace hwz:=xnT hwz hdr.size; replace OF:=OF.below hdr; replace CT:=CT.below hdr; clear hdr; generalize w8.drew=w9 at M hwz OF CT ⊢; refine xrH 0 26 rfl (.pointer (some ⟨R,0,none⟩)) (fun _ ⟨M,_⟩=>(by kernel_rfl)) ⟨M,Below.refl _ _⟩ ?_; refine xrH 1 27 rfl (.pointer (some ⟨R,0,none⟩)) (fun _ ⟨M,_⟩=>(by kernel_rfl)) ⟨M,Below.refl _ _⟩ ?_
   refine xrH 2 28 rfl (.pointer (some ⟨R,0,none⟩)) (fun _ ⟨M,_⟩=>(by kernel_rfl)) ⟨M,Below.refl _ _⟩ ?_; refine xrH 3 29 rfl (.int .i64 g.role) (fun _ ⟨M,_⟩=>load1 3 _ ⟨R,0,none⟩ _ rfl rfl (fun _=>by kernel_rfl) (M.get mS 0 _ (flat_get _ [1,98,98,1,1,1] (by simp [kck_len]) 0 0 _ rfl rfl))) ⟨M,Below.refl _ _⟩ ?_
   refine xrH 4 30 rfl (.int .i64 p) (fun _ ⟨M,_⟩=>(by kernel_rfl)) ⟨M,Below.refl _ _⟩ ?_; refine xrH 5 31 rfl (.pointer (some ⟨R,0,none⟩)) (fun _ ⟨M,_⟩=>(by kernel_rfl)) ⟨M,Below.refl _ _⟩ ?_; refine xrH 6 32 rfl (.pointer (some ⟨R,0,none⟩)) (fun _ ⟨M,_⟩=>(by kernel_rfl)) ⟨M,Below.refl _ _⟩ ?_
   refine xrH 7 33 rfl (.pointer (some ⟨R,1,none⟩)) (fun _ ⟨M,_⟩=>(by kernel_rfl)) ⟨M,Below.refl _ _⟩ ?_; refine xrH 9 35 rfl (.int .i64 (g.cnt p)) (fun _ ⟨M,_⟩=>(by kernel_rfl)) ⟨M,Below.refl _ _⟩ ?_; have hlt_:=fun q hq=>(M.rows q hq).2.2; have h0_:=M.below.size
   refine Flt.go (z:=11) (t:=9) (n:=6) (w0:=w9.heap.size) (k:=2) ?_ #[.int .i64 0,.int .i64 0,.int .i64 0,.int .i64 0,.int .i64 0,.slice none 0 0] 70 rfl rfl rfl (fun _ _=>by kernel_rfl) (fun w_=>((Mm.init w_).box #[.int .i64 0,.int .i64 0,.int .i64 0,.int .i64 0,.int .i64 0,.slice none 0 0] 70 w_.heap.size rfl).there mS 6 rfl) (fun _ h=>h.2.size) (fun _ _ h l=>⟨h.1.call l,h.2.trans (l.mono h.2.size)⟩) _ ⟨M,Below.refl _ _⟩
   refine Flt.call 8 34 (fun v=>v=.int .i64 g.out.e) (by kernel_rfl) (by kernel_rfl) rfl rfl rfl (by decide) (by decide) (by intros; simp) (by decide +kernel) (fun _=>by kernel_rfl) (fun w_ h=>(gout_epoch h.1).mono fun e w'' ⟨he,l⟩=>⟨_,he,rfl,l⟩) ?_; rintro _ rfl; simp only [aP,lI,l0,lS]
   refine Flt.read 10 36 (.agg #[.int .i64 3,.int .i64 g.role,.int .i64 p,.int .i64 g.out.e,.int .i64 (g.cnt p),.slice none 0 0]) rfl rfl rfl (by decide) (by decide) (by intros; simp) (by decide +kernel) (fun _=>by kernel_rfl) (by kernel_rfl) (by kernel_rfl) (by kernel_rfl) (by kernel_rfl) (by kernel_rfl) (fun _ _ _ h=>h) ?_; simp only [aP,lI,l0,lS]; refine Flt.last (by kernel_rfl) ?_
   rintro B10 w10 ⟨M',hbw⟩ hFb; simp only [aP,lI,l0,lS]; clear M; have M:=M'; clear M'
   have hB_B10:w.heap.size≤B10:=xnT hwz hFb.lo
   replace hwz:=xnT hwz hbw.size; replace OF:=OF.below hbw; replace CT:=CT.below hbw; have ML:=Mm.land M hFb hlt_ h0_ [.int .i64 3,.int .i64 g.role,.int .i64 p,.int .i64 g.out.e,.int .i64 (g.cnt p),.slice none 0 0] rfl
   refine doesH (i:=12) none rfl (by kernel_rfl) rfl rfl (storeP [.int .i64 3,.int .i64 g.role,.int .i64 p,.int .i64 g.out.e,.int .i64 (g.cnt p),.slice none 0 0] B10 0 70 _ _ rfl rfl rfl hFb.th (by kernel_rfl) (List.all_eq_true.1 (rfl:([.int .i64 3,.int .i64 g.role,.int .i64 p,.int .i64 g.out.e,.int .i64 (g.cnt p),.slice none 0 0]:List Value).all (fun u=>u.oneCell')=true))) ⟨ML.tail,below_setAll hbw B10 hFb.lo 0 [.int .i64 3,.int .i64 g.role,.int .i64 p,.int .i64 g.out.e,.int .i64 (g.cnt p),.slice none 0 0]⟩ ?_
   simp only [Act.put]; replace hbw:=below_setAll hbw B10 hFb.lo 0 [.int .i64 3,.int .i64 g.role,.int .i64 p,.int .i64 g.out.e,.int .i64 (g.cnt p),.slice none 0 0]; clear M; have M:=ML; clear ML hFb hlt_ h0_; replace hwz:=xnT hwz (Off.size ((Off.refl [B10] _).setAll (b:=B10) mS 0 [.int .i64 3,.int .i64 g.role,.int .i64 p,.int .i64 g.out.e,.int .i64 (g.cnt p),.slice none 0 0]))
   replace OF:=OF.and1 ((Off.refl [B10] _).setAll (b:=B10) mS 0 [.int .i64 3,.int .i64 g.role,.int .i64 p,.int .i64 g.out.e,.int .i64 (g.cnt p),.slice none 0 0]) (.inr (by omega))
   replace CT:=CT.off ((Off.refl [B10] _).setAll (b:=B10) mS 0 [.int .i64 3,.int .i64 g.role,.int .i64 p,.int .i64 g.out.e,.int .i64 (g.cnt p),.slice none 0 0]) (M.aside (g:=[_]) (fun p hp=>mT _ (List.mem_append_left _ hp))); generalize w10.setCells B10 0 [.int .i64 3,.int .i64 g.role,.int .i64 p,.int .i64 g.out.e,.int .i64 (g.cnt p),.slice none 0 0]=w11 at M hbw hwz OF CT ⊢
   replace M:Mm w0 ((B10,[.int .i64 3,.int .i64 g.role,.int .i64 p,.int .i64 g.out.e,.int .i64 (g.cnt p),.slice none 0 0])::(R,[[Value.int .i64 g.role],kck g.out,kck g.inn,[Value.map mc],[Value.map m0],[Value.map m1]].flatten)::(mbs mc++T)) w11:=M
   clear hbw
   refine wpAnyH_done (by kernel_rfl) ?_ _
   first | show Exit.then _ _ _ _ _ | show Exit.inBlock _ _ _ _ _
   replace M:=M.swap
   replace M:Mm w0 ((R,[[Value.int .i64 g.role],kck g.out,kck g.inn,[Value.map mc],[Value.map m0],[Value.map m1]].flatten)::(B10,[.int .i64 3,.int .i64 g.role,.int .i64 p,.int .i64 g.out.e,.int .i64 (g.cnt p),.slice none 0 0])::(mbs mc++T)) w11:=M
   go_upto_region 9 with fail
   refine wp_region_held_drew (S:=fun w'=>Mm w0 ((R,[[Value.int .i64 g.role],kck g.out,kck g.inn,[Value.map mc],[Value.map m0],[Value.map m1]].flatten)::(B10,[.int .i64 3,.int .i64 g.role,.int .i64 p,.int .i64 g.out.e,.int .i64 (g.cnt p),.slice none 0 0])::(mbs mc++T)) w'∧Below w11.drew.heap.size w11.drew w') (by kernel_rfl) ⟨M.drew,Below.refl _ _⟩ ?_; intro _
   replace M:=M.drew; have hdr:=(Below.refl w11.heap.size w11).drew; replace hwz:=xnT hwz hdr.size; replace OF:=OF.below hdr; replace CT:=CT.below hdr; clear hdr; generalize w11.drew=w12 at M hwz OF CT ⊢; refine xrH 0 38 rfl (.pointer (some ⟨R,0,none⟩)) (fun _ ⟨M,_⟩=>(by kernel_rfl)) ⟨M,Below.refl _ _⟩ ?_
   refine xrH 1 39 rfl (.pointer (some ⟨R,0,none⟩)) (fun _ ⟨M,_⟩=>(by kernel_rfl)) ⟨M,Below.refl _ _⟩ ?_; refine xrH 2 40 rfl (.pointer (some ⟨R,1,none⟩)) (fun _ ⟨M,_⟩=>(by kernel_rfl)) ⟨M,Below.refl _ _⟩ ?_; refine xrH 3 41 rfl (.pointer (some ⟨B10,3,none⟩)) (fun _ ⟨M,_⟩=>(by kernel_rfl)) ⟨M,Below.refl _ _⟩ ?_
   refine xrH 4 42 rfl (.int .i64 g.out.e) (fun _ ⟨M,_⟩=>load1 3 _ ⟨B10,3,none⟩ _ rfl rfl (fun _=>by kernel_rfl) (M.get (mT _ mS) 3 _ rfl)) ⟨M,Below.refl _ _⟩ ?_; have hlt_:=fun q hq=>(M.rows q hq).2.2; have h0_:=M.below.size
   refine Flt.go (z:=9) (t:=10) (n:=32) (w0:=w12.heap.size) (k:=4) ?_ zu8_32 23 rfl rfl rfl (fun _ _=>by kernel_rfl) (fun w_=>((Mm.init w_).box zu8_32 23 w_.heap.size rfl).there mS 32 rfl) (fun _ h=>h.2.size) (fun _ _ h l=>⟨h.1.call l,h.2.trans (l.mono h.2.size)⟩) _ ⟨M,Below.refl _ _⟩
   refine Flt.call 5 43 (fun v=>v=.tuple #[.agg (row .u8 32 (ykK g.out g.out.e)).toArray,.int .i64 (ykE g.out g.out.e)]) (by kernel_rfl) (by kernel_rfl) rfl rfl rfl (by decide) (by decide) (by intros; simp) (by decide +kernel) (fun _=>by kernel_rfl) (fun w_ h=>(gout_key hw.out g.out.e (h.1.perm (List.Perm.refl _))).mono fun e w'' ⟨he,l⟩=>⟨_,he,rfl,l⟩) ?_; rintro _ rfl
   simp only [aP,lI,l0,lS]; refine Flt.read 6 37 (.tuple #[.agg (row .u8 32 (ykK g.out g.out.e)).toArray,.int .i64 (ykE g.out g.out.e)]) rfl rfl rfl (by decide) (by decide) (by intros; simp) (by decide +kernel) (fun _=>by kernel_rfl) (by kernel_rfl) (by kernel_rfl) (by kernel_rfl) (by kernel_rfl) (by kernel_rfl) (fun _ _ _ h=>h) ?_; simp only [aP,lI,l0,lS]
   refine Flt.read 7 44 (.agg (row .u8 32 (ykK g.out g.out.e)).toArray) rfl rfl rfl (by decide) (by decide) (by intros; simp) (by decide +kernel) (fun _=>by kernel_rfl) (by kernel_rfl) (by kernel_rfl) (by kernel_rfl) (by kernel_rfl) (by kernel_rfl) (fun _ _ _ h=>h) ?_; simp only [aP,lI,l0,lS]
   refine Flt.read 8 45 (.int .i64 (ykE g.out g.out.e)) rfl rfl rfl (by decide) (by decide) (by intros; simp) (by decide +kernel) (fun _=>by kernel_rfl) (by kernel_rfl) (by kernel_rfl) (by kernel_rfl) (by kernel_rfl) (by kernel_rfl) (fun _ _ _ h=>h) ?_; simp only [aP,lI,l0,lS]; refine Flt.last (by kernel_rfl) ?_; rintro B13 w13 ⟨M',hbw⟩ hFb; simp only [aP,lI,l0,lS]; clear M
   have M:=M'; clear M'
   have hB_B13:w.heap.size≤B13:=xnT hwz hFb.lo
   replace hwz:=xnT hwz hbw.size; replace OF:=OF.below hbw; replace CT:=CT.below hbw; have ML:=Mm.land M hFb hlt_ h0_ (row .u8 32 (ykK g.out g.out.e)) (row32 (ykK g.out g.out.e))
   refine doesH (i:=10) none rfl (by kernel_rfl) rfl rfl (storeP (row .u8 32 (ykK g.out g.out.e)) B13 0 23 _ _ rfl rfl rfl hFb.th (by kernel_rfl) (row_one .u8 32 (ykK g.out g.out.e))) ⟨ML.tail,below_setAll hbw B13 hFb.lo 0 (row .u8 32 (ykK g.out g.out.e))⟩ ?_; simp only [Act.put]; replace hbw:=below_setAll hbw B13 hFb.lo 0 (row .u8 32 (ykK g.out g.out.e)); clear M; have M:=ML
   clear ML hFb hlt_ h0_; replace hwz:=xnT hwz (Off.size ((Off.refl [B13] _).setAll (b:=B13) mS 0 (row .u8 32 (ykK g.out g.out.e)))); replace OF:=OF.and1 ((Off.refl [B13] _).setAll (b:=B13) mS 0 (row .u8 32 (ykK g.out g.out.e))) (.inr (by omega))
   replace CT:=CT.off ((Off.refl [B13] _).setAll (b:=B13) mS 0 (row .u8 32 (ykK g.out g.out.e))) (M.aside (g:=[_]) (fun p hp=>mT _ (mT _ (List.mem_append_left _ hp)))); generalize w13.setCells B13 0 (row .u8 32 (ykK g.out g.out.e))=w14 at M hbw hwz OF CT ⊢
   replace M:Mm w0 ((B13,row .u8 32 (ykK g.out g.out.e))::(R,[[Value.int .i64 g.role],kck g.out,kck g.inn,[Value.map mc],[Value.map m0],[Value.map m1]].flatten)::(B10,[.int .i64 3,.int .i64 g.role,.int .i64 p,.int .i64 g.out.e,.int .i64 (g.cnt p),.slice none 0 0])::(mbs mc++T)) w14:=M
   refine xrH 11 11 rfl (.int .i64 (ykE g.out g.out.e)) (fun _ ⟨M,_⟩=>(by kernel_rfl)) ⟨M.tail,hbw⟩ ?_; clear hbw
   refine wpAnyH_done (by kernel_rfl) ?_ _
   first | show Exit.then _ _ _ _ _ | show Exit.inBlock _ _ _ _ _
   go_upto_region 10 with fail; refine wp_region_list ?_; refine xpL (.int .i64 (ykE g.out g.out.e)) ?_; refine xaL (.bool false) (neqI .i64 _ _ _ _ _ _ rfl rfl rfl false (by rw [ykE_now rfl]; rfl) _) ?_; refine xT ?_; go_upto_region 12 with fail; refine wp_region_list ?_; refine xpL (.pointer (some ⟨R,0,none⟩)) ?_; refine xpL (.int .i64 p) ?_; refine xpL (.int .i64 (g.cnt p)) ?_
   refine xaL (.int .i64 (g.cnt p+1)) (addI .i64 _ _ _ _ _ _ _ rfl rfl rfl (by rw [xw6]; omega) _) ?_; replace M:=M.swap; replace M:=M.rot3; replace M:=M.rot3
   replace M:Mm w0 ((R,[[Value.int .i64 g.role],kck g.out,kck g.inn,[Value.map mc],[Value.map m0],[Value.map m1]].flatten)::(mbs mc++((B13,row .u8 32 (ykK g.out g.out.e))::(B10,[.int .i64 3,.int .i64 g.role,.int .i64 p,.int .i64 g.out.e,.int .i64 (g.cnt p),.slice none 0 0])::T))) w14:=M.perm (seal_perm _ _ _ _ _)
   refine xcL (gset_any w0 _ R _ _ _ _ mc _ _ g.cnt CT p (g.cnt p+1) hq M) ?_; rintro e w15 ⟨mc2,rfl,M',C2,o1⟩; clear M CT; have M:=M'.perm (seal_perm _ _ _ _ _).symm; clear M'; replace OF:=OF.trans o1; replace hwz:=xnT hwz o1.size; clear o1
   replace M:Mm w0 ((B13,row .u8 32 (ykK g.out g.out.e))::(B10,[.int .i64 3,.int .i64 g.role,.int .i64 p,.int .i64 g.out.e,.int .i64 (g.cnt p),.slice none 0 0])::(R,[[Value.int .i64 g.role],kck g.out,kck g.inn,[Value.map mc2],[Value.map m0],[Value.map m1]].flatten)::(mbs mc2++T)) w15:=M
   refine xeL ?_; refine xT ?_; go_upto_region 13 with fail; refine wp_region_list ?_; refine xpL (.slice sp t.length cap) ?_; refine xaL (.int .i64 ((t.length:Nat):Int)) (lenS _ 29 5 sp t.length cap rfl Tryz.underlying29 rfl _) ?_; refine xaL (.int .i64 ((t.length+16:Nat):Int)) (addI .i64 _ _ _ _ _ _ _ rfl rfl rfl (by rw [xw6]; omega) _) ?_
   have hlb:=(Below.refl w15.heap.size w15).alloc (xnR _) (.cells (row .u8 (t.length+16) (fun _=>0)).toArray 5); refine actL (w':=w15.alloc (.cells (row .u8 (t.length+16) (fun _=>0)).toArray 5)) (.slice (some ⟨w15.heap.size,0,none⟩) (t.length+16) (t.length+16)) rfl (makeOp _ _ _ _ _ _ rfl rfl rfl (made8 (t.length+16) (by omega) _)) ?_; simp only [aP,lI,l0,lS]
   have hB_:=hwz; replace hwz:=xnT hwz hlb.size; replace OF:=OF.below hlb; replace C2:=C2.below hlb; replace M:=M.box (row .u8 (t.length+16) (fun _=>0)).toArray 5 w15.heap.size rfl; clear hlb; generalize w15.alloc (.cells (row .u8 (t.length+16) (fun _=>0)).toArray 5)=w16 at M hwz OF C2 ⊢; generalize eB_:w15.heap.size=B16 at M ⊢
   have hB_B16:w.heap.size≤B16:=by rw [← eB_]; exact hB_
   clear hB_ eB_
   replace M:Mm w0 ((B16,row .u8 (t.length+16) (fun _=>0))::(B13,row .u8 32 (ykK g.out g.out.e))::(B10,[.int .i64 3,.int .i64 g.role,.int .i64 p,.int .i64 g.out.e,.int .i64 (g.cnt p),.slice none 0 0])::(R,[[Value.int .i64 g.role],kck g.out,kck g.inn,[Value.map mc2],[Value.map m0],[Value.map m1]].flatten)::(mbs mc2++T)) w16:=M
   refine xpL (.pointer (some ⟨B10,5,none⟩)) ?_; replace M:=M.rot3; refine skipOpL rfl (storeAny (.slice (some ⟨B16,0,none⟩) (t.length+16) (t.length+16)) B10 5 29 _ _ rfl rfl rfl rfl rfl (M.isSome mS 5 (by simp)) (M.free mS 5 (by simp)) (by kernel_rfl)) ?_; simp only [Act.put]; replace M:=M.set 5 (by simp) (.slice (some ⟨B16,0,none⟩) (t.length+16) (t.length+16))
   replace hwz:=xnT hwz (Off.size ((Off.refl [B10] _).set (b:=B10) mS 5 (.slice (some ⟨B16,0,none⟩) (t.length+16) (t.length+16)))); replace OF:=OF.and1 ((Off.refl [B10] _).set (b:=B10) mS 5 (.slice (some ⟨B16,0,none⟩) (t.length+16) (t.length+16))) (.inr (by omega))
   replace C2:=C2.off ((Off.refl [B10] _).set (b:=B10) mS 5 (.slice (some ⟨B16,0,none⟩) (t.length+16) (t.length+16))) (M.aside (g:=[_]) (fun p hp=>mT _ (mT _ (mT _ (List.mem_append_left _ hp))))); generalize w16.setCell ⟨B10,5,none⟩ (.slice (some ⟨B16,0,none⟩) (t.length+16) (t.length+16))=w17 at M hwz OF C2 ⊢
   replace M:Mm w0 ((B10,[.int .i64 3,.int .i64 g.role,.int .i64 p,.int .i64 g.out.e,.int .i64 (g.cnt p),.slice (some ⟨B16,0,none⟩) (t.length+16) (t.length+16)])::(B16,row .u8 (t.length+16) (fun _=>0))::(B13,row .u8 32 (ykK g.out g.out.e))::(R,[[Value.int .i64 g.role],kck g.out,kck g.inn,[Value.map mc2],[Value.map m0],[Value.map m1]].flatten)::(mbs mc2++T)) w17:=M
   refine xT ?_; replace M:=M.swap
   have PV:PV w17 (gpk g p (nou (t.length+16))) (some ⟨B16,0,none⟩) (t.length+16):=gpk_pv hw hE (nou_byts _) (by rw [nou_len]; omega) (by rw [nou_len,nou_bl]; exact M.srcRow mS 0 _ _ (by rw [List.drop_zero,List.take_length])) (by rw [nou_len]; exact xnR _) (fun e=>by cases e)
   replace M:Mm w0 ((B16,row .u8 (t.length+16) (fun _=>0))::(B10,[.int .i64 3,.int .i64 g.role,.int .i64 p,.int .i64 g.out.e,.int .i64 (g.cnt p),.slice (some ⟨B16,0,none⟩) ((nou (t.length+16)).length) (t.length+16)])::(B13,row .u8 32 (ykK g.out g.out.e))::(R,[[Value.int .i64 g.role],kck g.out,kck g.inn,[Value.map mc2],[Value.map m0],[Value.map m1]].flatten)::(mbs mc2++T)) w17:=by
    rw [nou_len]
    exact M
   go_upto_region 14 with fail
   refine wp_region_C (S:=fun w'=>Mm w0 ((B16,row .u8 (t.length+16) (fun _=>0))::(B10,[.int .i64 3,.int .i64 g.role,.int .i64 p,.int .i64 g.out.e,.int .i64 (g.cnt p),.slice (some ⟨B16,0,none⟩) ((nou (t.length+16)).length) (t.length+16)])::(B13,row .u8 32 (ykK g.out g.out.e))::(R,[[Value.int .i64 g.role],kck g.out,kck g.inn,[Value.map mc2],[Value.map m0],[Value.map m1]].flatten)::(mbs mc2++T)) w') 8 (by kernel_rfl) M.drew ?_
   clear M; intro M; have hdr:=(Below.refl w17.heap.size w17).drew; replace hwz:=xnT hwz hdr.size; replace OF:=OF.below hdr; replace C2:=C2.below hdr; replace PV:=PV.below hdr (xnR _); clear hdr; generalize w17.drew=w18 at M hwz OF C2 PV ⊢
   refine readC (i:=0) (some 59) rfl (.agg (row .u8 32 (ykK g.out g.out.e)).toArray) rfl rfl (by kernel_rfl) rfl (fun _ M=>loadN 23 _ ⟨B13,0,none⟩ (row .u8 32 (ykK g.out g.out.e)) rfl rfl (fun _=>by kernel_rfl) (fun _=>by rw [row32]; kernel_rfl) (M.part (mI 2 rfl) 0 _ (by rw [List.drop_zero,List.take_length]))) (by kernel_rfl) (by kernel_rfl) (by kernel_rfl) (by kernel_rfl) (fun _ _ _ h=>h) M ?_
   simp only [aP,lI,l0,lS]
   refine readC (i:=1) (some 60) rfl (.agg #[.int .i64 3,.int .i64 g.role,.int .i64 p,.int .i64 g.out.e,.int .i64 (g.cnt p),.slice (some ⟨B16,0,none⟩) ((nou (t.length+16)).length) (t.length+16)]) rfl rfl (by kernel_rfl) rfl (fun _ M=>loadN 70 _ ⟨B10,0,none⟩ [.int .i64 3,.int .i64 g.role,.int .i64 p,.int .i64 g.out.e,.int .i64 (g.cnt p),.slice (some ⟨B16,0,none⟩) ((nou (t.length+16)).length) (t.length+16)] rfl rfl (fun _=>by kernel_rfl) (fun _=>by kernel_rfl) (M.rangeAt (mT _ mS))) (by kernel_rfl) (by kernel_rfl) (by kernel_rfl) (by kernel_rfl) (fun _ _ _ h=>h) M ?_
   simp only [aP,lI,l0,lS]
   refine readC (i:=3) (some 62) rfl (.agg #[.int .i64 3,.int .i64 g.role,.int .i64 p,.int .i64 g.out.e,.int .i64 (g.cnt p),.slice (some ⟨B16,0,none⟩) ((nou (t.length+16)).length) (t.length+16)]) rfl rfl (by kernel_rfl) rfl (fun _ M=>loadN 70 _ ⟨B10,0,none⟩ [.int .i64 3,.int .i64 g.role,.int .i64 p,.int .i64 g.out.e,.int .i64 (g.cnt p),.slice (some ⟨B16,0,none⟩) ((nou (t.length+16)).length) (t.length+16)] rfl rfl (fun _=>by kernel_rfl) (fun _=>by kernel_rfl) (M.rangeAt (mT _ mS))) (by kernel_rfl) (by kernel_rfl) (by kernel_rfl) (by kernel_rfl) (fun _ _ _ h=>h) M ?_
   simp only [aP,lI,l0,lS]; refine readC (i:=5) (some 64) rfl (.slice sp t.length cap) rfl rfl (by kernel_rfl) rfl (fun _ M=>(by kernel_rfl)) (by kernel_rfl) (by kernel_rfl) (by kernel_rfl) (by kernel_rfl) (fun _ _ _ h=>h) M ?_; simp only [aP,lI,l0,lS]
   refine callMC (i:=2) (some 61) rfl (by kernel_rfl) rfl rfl (fun _=>by kernel_rfl) (vnonce_any (gpk g p (nou (t.length+16))) (some ⟨B16,0,none⟩) _ _ (hg.p.mm M) PV) ?_; rintro e w19 ⟨rfl,l⟩; replace M:=M.call l; replace hwz:=xnT hwz l.size; replace OF:=OF.below l; replace C2:=C2.below l; replace PV:=PV.below l (xnR _); clear l
   refine ⟨_,rfl,M,?_⟩
   simp only [aP,lI,l0,lS]; have hz_:=hwz; refine callMC (i:=4) (some 63) rfl (by kernel_rfl) rfl rfl (fun _=>by kernel_rfl) (vhead_any (gpk g p (nou (t.length+16))) (some ⟨B16,0,none⟩) _ _ (hg.p.mm M) PV) ?_; rintro e w20 ⟨⟨v,rfl,hN⟩,l⟩; replace M:=M.call l; replace hwz:=xnT hwz l.size; replace OF:=OF.below l; replace C2:=C2.below l; replace PV:=PV.below l (xnR _)
   have N_20:=NewF.lower hN hz_; clear l hN hz_
   obtain ⟨p20,c20,rfl,hcc_20,hnn_20,_,_⟩:=id N_20
   refine ⟨_,rfl,M,?_⟩
   simp only [aP,lI,l0,lS]; have hlt2:=M.lt (mT _ mS)
   refine callMC (i:=6) (some 65) rfl (by kernel_rfl) rfl rfl (fun _=>by kernel_rfl) (aseal_any (ykK g.out g.out.e) (bl (pno (gpk g p (nou (t.length+16))))) (yk_in _ _) (by rw [gpk_pno hw hE]; exact rno_in _ ⟨hq.1,show p<256 by omega⟩) p20 _ c20 (by rw [gpk_phd hw hE,hdr_length]; decide) hcc_20 hnn_20 (bl (phd (gpk g p (nou (t.length+16))))) (by rw [gpk_phd hw hE]; exact (hdr_byts (p:=gpk g p []) ⟨show 0≤g.role by omega,show g.role<256 by omega⟩ ⟨hq.1,show p<256 by omega⟩).bl) sp t.length cap hlen hcap hnil (bl t) ht.bl _ (hg.mm M).a N_20.src (hs.off OF).1) ?_
   rintro e w21 ⟨B',c21,rfl,⟨hcc_21,hB1,hB2,HA⟩,l⟩; replace M:=M.call l
   have N_21:NewF w21 w.heap.size (t.length+16) (bl (gsT g p t)) (.slice (some ⟨B',0,none⟩) (t.length+16) c21):=by
    refine (NewF.of_has HA hcc_21 (xnT hwz hB1) hB2).congr (fun j hj=>?_)
    unfold gsT
    rw [asl_bl _ _ _ _ _ hj,gpk_pno hw hE,gpk_phd hw hE,ykK_now rfl]
   replace hwz:=xnT hwz l.size; replace OF:=OF.below l; replace C2:=C2.below l; replace N_20:=NewF.below N_20 l; replace PV:=PV.below l (xnR _)
   have hne_:B10≠B':=by omega
   clear l HA hB1 hB2 hlt2 N_20
   refine ⟨_,rfl,M,?_⟩
   simp only [aP,lI,l0,lS]; refine readC (i:=7) (some 66) rfl (.pointer (some ⟨B10,5,none⟩)) rfl rfl (by kernel_rfl) rfl (fun _ M=>(by kernel_rfl)) (by kernel_rfl) (by kernel_rfl) (by kernel_rfl) (by kernel_rfl) (fun _ _ _ h=>h) M ?_; simp only [aP,lI,l0,lS]; replace M:=M.swap; clear PV
   refine skipC (S2:=fun _=>True) none rfl (by kernel_rfl) rfl rfl (storeAny (.slice (some ⟨B',0,none⟩) (t.length+16) c21) B10 5 29 _ _ rfl rfl rfl rfl rfl (M.isSome mS 5 (by simp)) (M.free mS 5 (by simp)) (by kernel_rfl)) (by kernel_rfl) ?_; simp only [Act.put]; replace M:=M.set 5 (by simp) (.slice (some ⟨B',0,none⟩) (t.length+16) c21)
   replace hwz:=xnT hwz (Off.size ((Off.refl [B10] _).set (b:=B10) mS 5 (.slice (some ⟨B',0,none⟩) (t.length+16) c21))); replace OF:=OF.and1 ((Off.refl [B10] _).set (b:=B10) mS 5 (.slice (some ⟨B',0,none⟩) (t.length+16) c21)) (.inr (by omega))
   replace C2:=C2.off ((Off.refl [B10] _).set (b:=B10) mS 5 (.slice (some ⟨B',0,none⟩) (t.length+16) c21)) (M.aside (g:=[_]) (fun p hp=>mT _ (mT _ (mT _ (List.mem_append_left _ hp)))))
   replace N_21:=NewF.offB N_21 ((Off.refl [B10] _).set (b:=B10) mS 5 (.slice (some ⟨B',0,none⟩) (t.length+16) c21)) (fun b hb=>by rw [List.mem_singleton] at hb; subst hb; exact fun c=>hne_ (xm1 c)); generalize w21.setCell ⟨B10,5,none⟩ (.slice (some ⟨B',0,none⟩) (t.length+16) c21)=w22 at M hwz OF C2 N_21 ⊢
   replace M:Mm w0 ((B10,[.int .i64 3,.int .i64 g.role,.int .i64 p,.int .i64 g.out.e,.int .i64 (g.cnt p),.slice (some ⟨B',0,none⟩) (t.length+16) c21])::(B16,row .u8 (t.length+16) (fun _=>0))::(B13,row .u8 32 (ykK g.out g.out.e))::(R,[[Value.int .i64 g.role],kck g.out,kck g.inn,[Value.map mc2],[Value.map m0],[Value.map m1]].flatten)::(mbs mc2++T)) w22:=M
   refine wpAnyH_done (by kernel_rfl) ?_ _
   first | show Exit.then _ _ _ _ _ | show Exit.inBlock _ _ _ _ _
   have PV:PV w22 (gpk g p (gsT g p t)) (some ⟨B',0,none⟩) c21:=gpk_pv hw hE (asl_byts ht) (by rw [gsT_len]; omega) (by rw [gsT_len]; exact N_21.src) (by rw [gsT_len]; exact hcc_21) (fun e=>by cases e)
   replace M:Mm w0 ((B10,[.int .i64 3,.int .i64 g.role,.int .i64 p,.int .i64 g.out.e,.int .i64 (g.cnt p),.slice (some ⟨B',0,none⟩) ((gsT g p t).length) c21])::(B16,row .u8 (t.length+16) (fun _=>0))::(B13,row .u8 32 (ykK g.out g.out.e))::(R,[[Value.int .i64 g.role],kck g.out,kck g.inn,[Value.map mc2],[Value.map m0],[Value.map m1]].flatten)::(mbs mc2++T)) w22:=by
    rw [gsT_len]
    exact M
   clear N_21; go_upto_region 15 with fail; refine wp_region_list ?_
   refine xaL (.agg #[.int .i64 3,.int .i64 g.role,.int .i64 p,.int .i64 g.out.e,.int .i64 (g.cnt p),.slice (some ⟨B',0,none⟩) ((gsT g p t).length) c21]) (loadN 70 _ ⟨B10,0,none⟩ [.int .i64 3,.int .i64 g.role,.int .i64 p,.int .i64 g.out.e,.int .i64 (g.cnt p),.slice (some ⟨B',0,none⟩) ((gsT g p t).length) c21] rfl rfl (fun _=>by kernel_rfl) (fun _=>by kernel_rfl) (M.rangeAt mS)) ?_
   refine xcL (vprint_any (gpk g p (gsT g p t)) (some ⟨B',0,none⟩) _ _ (hg.p.mm M) PV) ?_; rintro e w23 ⟨⟨v,rfl,hO⟩,l⟩; have hN:=NewF.of_own hO
   rw [(gpk_out hw hE).2] at hN
   obtain ⟨sq,cq,rfl,_,_,_,_⟩:=id hN
   have M2:=Mm.newF M l hN; replace hN:=NewF.lower hN hwz; clear hO PV; replace hwz:=xnT hwz l.size; replace OF:=OF.below l; replace C2:=C2.below l; replace M:=M.call l; clear l; refine xeL ?_; refine xpL (.slice sq ((gsB g p t).length) cq) ?_; refine xpL (.int .i64 (pE (gpk g p (gsT g p t)))) ?_; refine xpL (.slice sq ((gsB g p t).length) cq) ?_
   refine xpL (.int .i64 (pE (gpk g p (gsT g p t)))) ?_; refine xT ?_; replace M:=M.rot4
   have MF:Mm w0 ((R,gcf g.role g.out g.inn mc2 m0 m1)::(mbs mc2++(obs sq++T))) w23:=(M2.sub (obs sq++((R,gcf g.role g.out g.inn mc2 m0 m1)::(mbs mc2++T))) ((List.Sublist.refl _).append (List.Sublist.cons _ (List.Sublist.cons _ (List.Sublist.cons _ (List.Sublist.refl _)))))).perm (out_perm _ _ _ _)
   have hE2:=show Hid _ from hE; have hP:=show Hid _ from (gpk_out hw hE).1; have HS:=show Hid _ from (And.intro hN (And.intro MF (And.intro C2 OF))); clear M M2 MF C2 OF hN hE; go_wp2; go_ret2
   first | exact ⟨sq,cq,by rw [hE2.out,← hP.out]; rfl,HS.out.1,mc2,HS.out.2.1,by unfold gsN; rw [hE2.out]; exact HS.out.2.2.1,HS.out.2.2.2⟩ | exact ⟨sq,cq,mc2,by rw [hE2.out,← hP.out]; rfl,HS.out.1,HS.out.2.1,by unfold gsN; rw [hE2.out]; exact HS.out.2.2.1,HS.out.2.2.2⟩
 go_upto_region 0 with fail; refine wp_region_list ?_; refine xpL (.slice none 0 0) ?_; refine xpL (.int .i64 0) ?_; refine xT ?_; go_upto_region 1 with fail; refine wp_region_list ?_; refine xpL (.pointer (some ⟨R,0,none⟩)) ?_; refine xpL (.int .i64 p) ?_
 replace M:Mm w0 ((R,[[Value.int .i64 g.role],kck g.out,kck g.inn,[Value.map mc],[Value.map m0],[Value.map m1]].flatten)::(mbs mc++T)) w:=M
 refine xcL (gcounter_is w0 _ R _ _ _ _ _ _ _ g.cnt CT p hp6 (ctv g.cnt p) rfl M) ?_; rintro e w1 ⟨rfl,l⟩; replace M:=M.call l; replace hwz:=xnT hwz l.size; replace OF:=OF.below l; replace CT:=CT.below l; clear l; refine xeL ?_; refine xpL (.int .i64 (ctv g.cnt p)) ?_; refine xT ?_; go_upto_region 2 with fail; refine wp_region_list ?_; refine xpL (.int .i64 p) ?_
 refine xcL (gispath_is p false (isp_no hq) _) ?_; rintro e w2 ⟨rfl,l⟩; replace M:=M.call l; replace hwz:=xnT hwz l.size; replace OF:=OF.below l; replace CT:=CT.below l; clear l; refine xeL ?_; refine xpL (.bool true) ?_; refine xpL (.bool true) ?_; refine xT ?_; go_upto_region 3 with fail; refine wp_region_list ?_; refine xpL (.slice none 0 0) ?_; refine xpL (.int .i64 1) ?_
 refine xT ?_; have hE:=show Hid _ from (gsE_arg (g:=g) (p:=p) (n:=t.length) hq); have HS:=show Hid _ from (And.intro M (And.intro CT OF)); clear M CT OF; go_wp2; go_ret2
 have hB0:gsB g p t=[]:=gsB_err (by rw [hE.out]; decide)
 rw [hB0,hE.out]
 first | exact ⟨none,0,rfl,NewF.nil _ _ _,mc,HS.out.1,by unfold gsN; rw [hE.out]; exact HS.out.2.1,HS.out.2.2⟩ | exact ⟨none,0,mc,rfl,NewF.nil _ _ _,HS.out.1,by unfold gsN; rw [hE.out]; exact HS.out.2.1,HS.out.2.2⟩
end
end Go.Proofs.YtknodedhcdpbiaaGreatDoor
