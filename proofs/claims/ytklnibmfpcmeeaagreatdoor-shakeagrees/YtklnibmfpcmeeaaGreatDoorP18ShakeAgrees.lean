/- Texts of Ps Iy Nw Iz Bg Ye Zl Zm Gm, joined. -/
import Derived.Test.YtklnibmfpcmeeaaGreatDoorP17ShakeAgrees
set_option maxRecDepth 20000
set_option maxHeartbeats 64000000
namespace Go.Proofs.YtklnibmfpcmeeaaGreatDoor
open Go.RowKit
theorem Has.mid {w:World} {b:Nat} {k:IntKind} {n:Nat} {f:Nat→Int} (h:Has w b k n f) (o m:Nat) (ho:o+m≤n):w.rangeAt b o (row k m (fun j=>f (o+j))):=fun j v hv=>by
 obtain ⟨hj,rfl⟩:=row_get_some hv
 exact h.cell (o+j) (by omega)
theorem pfactor_any (r:Nat→Int) (hr:In 256 16 r) (w:World) (hg:Glob w) :
 Calls Tryz.prog 150 #[(.agg (row .u8 16 (r)).toArray)] w fun e w'=>e=.returned (.agg (row .u8 17 (byB (trimT r))).toArray)∧Below w.heap.size w w':=by
 have K:=Kr.init w; replace K:=K.box .u8 16 r 51 (w.heap.size) rfl; replace K:=K.make 17 zu8_17 160 (w.heap.size+1) (by simp) (big_zero _ _ _ (by simp)).there
 go_enter Tryz.func150,Tryz.ntmps150
 go_upto_region 1 with fail; generalize ((w.alloc (.cells (row .u8 16 r).toArray 51)).alloc (.cells zu8_17 160))=w0 at K ⊢; refine wp_region_list ?_; refine rowKL .u8 16 (r) (w.heap.size) 0 51 _ _ rfl rfl rfl Tryz.underlying51 rfl (tag_info _) ((K.get _ _ _ _ mS).range) ?_; simp only [aP,lI,l0,lS]; refine xcL (ctrim_any r hr _ (hg.below K.below hg.size)) ?_; rintro e w1 ⟨rfl,l⟩
 replace K:=K.call l; clear l; refine xeL ?_; refine storesL .u8 16 (trimT r) (w.heap.size) 51 _ _ rfl rfl rfl rfl (tag_there (K.get _ _ _ _ mS)) (tag_info' _) ?_; simp only [Act.put]; replace K:=K.set [] (w.heap.size) .u8 16 r (trimT r) mS (fun _ hp=>by cases hp) (fun _ hp=>by cases hp) (xnR _); generalize w1.setCells (w.heap.size) 0 (row .u8 16 (trimT r))=w2 at K ⊢
 show Exit.then _ _ _ _ _; go_upto_region 2 with fail; have zX:=K.size; replace K:=K.boxO .u8 17 (fun _=>0) (.cells zu8_17 160) w2.heap.size rfl (big_zero _ _ _ rfl); go_upto_region 3 with fail; generalize hw:w2.alloc (.cells zu8_17 160)=w3 at K ⊢; clear hw; generalize w2.heap.size=X at *; have HR:=K.get _ _ _ _ mS
 replace K:=K.loose [(w.heap.size,.u8,16,trimT r)] X .u8 17 (fun _=>0) mS (fun p hp=>by obtain rfl:=xm1 hp; exact (mT _ mS)) (fun p hp=>by obtain rfl:=xm1 hp; simp only; omega) (by omega); refine wp_region_held_drew (S:=fun w'=>Kr w (X+1) [(w.heap.size,.u8,16,trimT r)] [(X,17),(w.heap.size+1,17)] w') (by kernel_rfl) K.drew ?_; clear K; intro K; replace HR:=HR.drew
 generalize w3.drew=w4 at K HR ⊢; refine xpH 0 6 (.slice (some ⟨X,0,none⟩) 17 17) K ?_; refine xpH 1 7 (.slice (some ⟨w.heap.size,0,none⟩) 16 16) K ?_
 refine actH (i:=2) (some 8) rfl (.int .i64 ((16:Nat):Int)) (by kernel_rfl) rfl rfl (run_copy_src _ _ 32 32 5 rfl Tryz.underlying32 (by kernel_rfl) X 17 17 16 16 17 (some ⟨w.heap.size,0,none⟩) (trimT r) rfl rfl (by decide) (by decide) HR.there (K.get _ _ _ _ mS).src0) (K.fill X 17 mS (row .u8 16 (trimT r))) ?_; simp only [aP,lI,l0,lS]
 refine wpAnyH_done (by kernel_rfl) ?_ _
 replace K:=K.fill X 17 mS (row .u8 16 (trimT r))
 replace HR:=(HR.part 0 16 (by decide) (trimT r)).congr (g:=byB (trimT r)) (fun j hj=>by
  unfold over byB
  by_cases e:j<16
  · rw [if_pos (by omega),if_pos e,Nat.sub_zero]
  · rw [if_neg (by omega),if_neg e])
 generalize w4.setCells X 0 (row .u8 16 (trimT r))=w5 at K HR ⊢; go_upto_region 4 with fail; have hz:=(K.room _ (mT _ mS)).1; have hB:=(K.fill _ _ (mT _ mS) (row .u8 17 (byB (trimT r)))).below; clear K; generalize hj:byB (trimT r)=f at *
 go_wp2_with (first | (refine wpList_load_mid rfl 160 _ rfl (X) 0 rfl (row .u8 17 (f)) _ (Has.range (HR)) Tryz.underlying160 rfl (big_info _) ?_) | (refine wpList_store_mid rfl 160 _ _ rfl (w.heap.size+1) 0 (row .u8 17 f).toArray rfl rfl (room_of hz) (big_info' _) (all_oneCell_toArray (row_one _ _ _)) ?_))
 exact bodyPost_ret (v:=(.agg (row .u8 17 (f)).toArray)) (results_row Tryz.results150 rfl (Has.all hz .u8 f).range Tryz.underlying160 rfl (big_info f)) rfl ⟨rfl,hB⟩
theorem pnumber_any (sp:Option Addr) (len cap:Nat) (z:Nat→Int) (w:World) (hs:Src w sp len z) :
 Calls Tryz.prog 153 #[.slice sp len cap] w fun e w'=>e=.returned (.agg (row .u8 17 (blk len z)).toArray)∧Below w.heap.size w w':=by
 have K:=Kr.init w; replace K:=K.make 17 zu8_17 160 (w.heap.size) rfl (big_zero _ _ _ rfl).there
 go_enter Tryz.func153,Tryz.ntmps153
 go_upto_region 1 with fail; generalize (w.alloc (.cells zu8_17 160))=w0 at K ⊢; refine wp_region_list ?_; refine xpL (.slice sp len cap) ?_; refine xcL (cblock_any sp len cap z _ (hs.below K.below (xnR _))) ?_; rintro e w1 ⟨rfl,l⟩; replace K:=K.call l; clear l; refine xeL ?_; refine xpL (.tuple #[.agg (row .u8 17 (blk len z)).toArray,.int .i64 (blkE len)]) ?_
 refine xpL (.agg (row .u8 17 (blk len z)).toArray) ?_; refine xpL (.int .i64 (blkE len)) ?_; refine allocL zu8_17 160 rfl (fun _=>by kernel_rfl) ?_; simp only [aP,lI,l0,lS]; refine storesL .u8 17 (blk len z) w1.heap.size 160 _ _ rfl rfl rfl rfl (room_of (big_zero _ _ _ rfl).there) (big_info' _) ?_; simp only [Act.put]; have zG:=K.size
 replace K:=K.fresh .u8 17 (blk len z) zu8_17 160 (big_zero _ _ _ rfl).there; generalize ((w1.alloc (.cells zu8_17 160)).setCells w1.heap.size 0 (row .u8 17 (blk len z)))=w2 at K ⊢; generalize w1.heap.size=G at *; refine xpL (.int .i64 (blkE len)) ?_; show Exit.then _ _ _ _ _; go_upto_region 2 with fail; have HR:=K.get _ _ _ _ mS; have hz:=(K.room _ mS).1
 have hB:=(K.fill _ _ mS (row .u8 17 (blk len z))).below; clear K hs; generalize hj:blk len z=f at *
 go_wp2_with (first | (refine wpList_load_mid rfl 160 _ rfl (G) 0 rfl (row .u8 17 (f)) _ (Has.range (HR)) Tryz.underlying160 rfl (big_info _) ?_) | (refine wpList_store_mid rfl 160 _ _ rfl (w.heap.size) 0 (row .u8 17 f).toArray rfl rfl (room_of hz) (big_info' _) (all_oneCell_toArray (row_one _ _ _)) ?_))
 exact bodyPost_ret (v:=(.agg (row .u8 17 (f)).toArray)) (results_row Tryz.results153 rfl (Has.all hz .u8 f).range Tryz.underlying160 rfl (big_info f)) rfl ⟨rfl,hB⟩
theorem psum_any:SumOK:=by
 intro k hk sp len cap hlen hcap z hz w hg hs
 have hk1:In 256 16 k:=fun j hj=>hk j (by omega)
 have hk2:In 256 16 (fun j=>k (16+j)):=fun j hj=>hk (16+j) (by omega)
 have K:=Kr.init w; replace K:=K.box .u8 32 k 23 (w.heap.size) rfl; replace K:=K.make 16 zu8_16 51 (w.heap.size+1) (by simp) (tag_zero _ _ _ (by simp)).there
 go_enter Tryz.func125,Tryz.ntmps125
 go_upto_region 1 with fail; generalize ((w.alloc (.cells (row .u8 32 k).toArray 23)).alloc (.cells zu8_16 51))=w0 at K ⊢; refine wp_region_list ?_; refine xpL (.slice (some ⟨w.heap.size,0,none⟩) 16 32) ?_; refine xpL (.pointer (some ⟨w.heap.size,0,none⟩)) ?_
 refine rowKL .u8 16 k (w.heap.size) 0 51 _ _ rfl rfl rfl Tryz.underlying51 rfl (tag_info _) (by have h:=(K.get _ _ _ _ mS).mid 0 16 (by decide); simpa using h) ?_
 simp only [aP,lI,l0,lS]; refine xcL (pfactor_any k hk1 _ (hg.below K.below hg.size)) ?_; rintro e w1 ⟨rfl,l⟩; replace K:=K.call l; clear l; refine xeL ?_; refine allocL zu8_17 160 rfl (fun _=>by kernel_rfl) ?_; simp only [aP,lI,l0,lS]; refine storesL .u8 17 (byB (trimT k)) w1.heap.size 160 _ _ rfl rfl rfl rfl (room_of (big_zero _ _ _ rfl).there) (big_info' _) ?_; simp only [Act.put]
 have zT:=K.size; replace K:=K.fresh .u8 17 (byB (trimT k)) zu8_17 160 (big_zero _ _ _ rfl).there; generalize ((w1.alloc (.cells zu8_17 160)).setCells w1.heap.size 0 (row .u8 17 (byB (trimT k))))=w2 at K ⊢; generalize w1.heap.size=T at *; show Exit.then _ _ _ _ _; go_upto_region 2 with fail; have zX:=K.size
 replace K:=K.boxO .u8 17 (fun _=>0) (.cells zu8_17 160) w2.heap.size rfl (big_zero _ _ _ rfl); go_upto_region 3 with fail; generalize hw:w2.alloc (.cells zu8_17 160)=w5 at K ⊢; clear hw; generalize w2.heap.size=X at *; go_wp2
 go_loopw [7] (fun i w'=>∃ (t:Nat) (a:Nat→Int),16*t<len+16∧i=.int .i64 (16*(t:Int))∧Kr w (X+1) [(X,.u8,17,a),(T,.u8,17,byB (trimT k)),(w.heap.size,.u8,32,k)] [(w.heap.size+1,16)] w'∧In 256 17 a∧val 256 a 17=acc (pR k) len z t) (fun i _=>len+16-(intOf i).toNat)
 case atStart=>exact ⟨0,_,by omega,rfl,K,fun _ _=>⟨Int.le_refl 0,(by decide:(0:Int)<256)⟩,by show val 256 (fun _=>0) 17=0; decide⟩
 case round =>
  clear K
  obtain ⟨t,a,ht,rfl,K,ha,hv⟩:=hrel
  have g1:(0:Int)≤16*(t:Int):=by omega
  by_cases hlt:16*t<len
  · have g2:16*(t:Int)<(len:Int):=by omega
    obtain ⟨M,hM⟩:∃ M:Nat,M=min (16*t+16) len:=⟨_,rfl⟩
    have hm:(if (len:Int)<16*(t:Int)+16 then (len:Int) else 16*(t:Int)+16)=(M:Int):=by rw [hM]; split <;> omega
    obtain ⟨sq,hq1,hq2⟩:=cut_lh (P:=Tryz.prog) (t:=32) (by kernel_rfl) (fun _=>by kernel_rfl) sp len cap (16*t) M (by omega) (by omega) hcap
    have hpc:M-16*t=pcN len t:=by unfold pcN; omega
    rw [hpc] at hq1 hq2
    have ec:((16*t:Nat):Int)=16*(t:Int):=by omega
    rw [ec] at hq1
    go_upto_region 6 with fail; refine wp_region_C (S:=fun w'=>Kr w (X+1) [(X,.u8,17,a),(T,.u8,17,byB (trimT k)),(w.heap.size,.u8,32,k)] [(w.heap.size+1,16)] w') 13 (by kernel_rfl) K.drew ?_; clear K; intro K
    refine rowC (i:=0) (some 18) rfl .u8 17 (a) (X) 0 160 _ _ rfl rfl (by kernel_rfl) rfl rfl rfl (by kernel_rfl) (by kernel_rfl) (by kernel_rfl) (by kernel_rfl) (fun _ _ _ h=>h) Tryz.underlying160 rfl (big_info _) K (fun _ h=>(h.get _ _ _ _ mS).range) ?_; simp only [aP,lI,l0,lS]; refine xpC 1 19 (.slice sp len cap) K ?_; refine xpC 2 20 (.int .i64 (16*(t:Int))) K ?_
    refine xpC 3 21 (.int .i64 (16*(t:Int))) K ?_; refine xqC 4 22 rfl (.int .i64 (16*(t:Int)+16)) (fun w=>addI .i64 _ _ _ _ _ _ _ rfl rfl rfl (by rw [xw6]; omega) w) K ?_; refine xpC 5 23 (.slice sp len cap) K ?_
    refine rowC (i:=11) (some 29) rfl .u8 17 (byB (trimT k)) (T) 0 160 _ _ rfl rfl (by kernel_rfl) rfl rfl rfl (by kernel_rfl) (by kernel_rfl) (by kernel_rfl) (by kernel_rfl) (fun _ _ _ h=>h) Tryz.underlying160 rfl (big_info _) K (fun _ h=>(h.get _ _ _ _ (mT _ mS)).range) ?_; simp only [aP,lI,l0,lS]
    refine xqC 6 24 rfl (.int .i64 (len:Int)) (fun w=>lenS _ 32 5 sp len cap rfl Tryz.underlying32 rfl w) K ?_; refine xqC 7 25 rfl (.int .i64 (M:Int)) (fun w=>minI .i64 .i64 _ _ _ _ _ _ _ rfl rfl rfl hm w) K ?_; refine xqC 8 26 rfl (.slice sq (pcN len t) (cap-16*t)) (fun w=>cutLHop _ _ _ _ _ _ _ _ rfl rfl rfl rfl (hq1 w)) K ?_
    refine callMC (i:=9) (some 27) rfl (by kernel_rfl) rfl rfl (fun _=>by kernel_rfl) (pnumber_any sq (pcN len t) (cap-16*t) (fun j=>z (16*t+j)) _ ((hq2 _ _ hs).below K.below (xnR _))) ?_; rintro e w9 ⟨rfl,l⟩; replace K:=K.call l; clear l
    refine ⟨_,rfl,K,?_⟩
    simp only [aP,lI,l0,lS]; refine callMC (i:=10) (some 28) rfl (by kernel_rfl) rfl rfl (fun _=>by kernel_rfl) (cadd_any a (piece len z t) ha (piece_in len z t hz) _ (hg.below K.below hg.size)) ?_; rintro e w11 ⟨f1,rfl,s1,l⟩; replace K:=K.call l; clear l
    refine ⟨_,rfl,K,?_⟩
    simp only [aP,lI,l0,lS]; refine callMC (i:=12) (some 30) rfl (by kernel_rfl) rfl rfl (fun _=>by kernel_rfl) (cmul_any f1 (byB (trimT k)) s1.1 (byB_in _ (trimT_in k hk1)) _ (hg.below K.below hg.size)) ?_; rintro e w12 ⟨f2,rfl,s2,l⟩; replace K:=K.call l; clear l
    refine ⟨_,rfl,K,?_⟩
    simp only [aP,lI,l0,lS]; refine storesC (S2:=fun _=>True) none rfl .u8 17 f2 X 160 _ _ (by kernel_rfl) rfl rfl rfl rfl rfl (big_there (K.get _ _ _ _ mS)) (big_info' _) (by kernel_rfl) ?_; simp only [Act.put]
    refine wpAnyH_done (by kernel_rfl) ?_ _
    have hv2:val 256 f2 17=acc (pR k) len z (t+1):=acc_step (by rw [s1.2,hv]) (byB_val (trimT k)) s2.2
    replace K:=K.set [(T,.u8,17,byB (trimT k)),(w.heap.size,.u8,32,k)] X .u8 17 a f2 mS (fun p hp=>by rcases xc1 hp with rfl | hp; exact (mT _ mS); obtain rfl:=xm1 hp; exact (mI 2 rfl)) (fun p hp=>by rcases xc1 hp with rfl | hp; simp only; omega; obtain rfl:=xm1 hp; simp only; omega) (by omega); have HS:=show Hid _ from (And.intro K (And.intro s2.1 hv2))
    clear K s1 s2 hv hv2 ha hm hM hq1 hq2 hpc ec; generalize w12.setCells X 0 (row .u8 17 f2)=w13 at HS ⊢; go_wp2
    go_roundw
    case rel=>first | exact ⟨t+1,f2,by omega,by go_num,HS.out⟩ | ((repeat apply Exists.intro); refine ⟨⟨t+1,f2,by omega,by go_num,HS.out⟩,rfl⟩)
    case measure=>simp [intOf]; omega
  · obtain rfl:t=npc len:=by unfold npc; omega
    go_upto_region 7 with fail; refine wp_region_C (S:=fun w'=>Kr w (X+1) [(X,.u8,17,a),(T,.u8,17,byB (trimT k)),(w.heap.size,.u8,32,k)] [(w.heap.size+1,16)] w') 5 (by kernel_rfl) K.drew ?_; clear K; intro K
    refine rowC (i:=0) (some 31) rfl .u8 17 (a) (X) 0 160 _ _ rfl rfl (by kernel_rfl) rfl rfl rfl (by kernel_rfl) (by kernel_rfl) (by kernel_rfl) (by kernel_rfl) (fun _ _ _ h=>h) Tryz.underlying160 rfl (big_info _) K (fun _ h=>(h.get _ _ _ _ mS).range) ?_; simp only [aP,lI,l0,lS]; refine xpC 1 32 (.slice (some ⟨w.heap.size,16,none⟩) 16 16) K ?_
    refine xpC 2 33 (.pointer (some ⟨w.heap.size,16,none⟩)) K ?_; refine rowC (i:=3) (some 34) rfl .u8 16 (fun j=>k (16+j)) (w.heap.size) 16 51 _ _ rfl rfl (by kernel_rfl) rfl rfl rfl (by kernel_rfl) (by kernel_rfl) (by kernel_rfl) (by kernel_rfl) (fun _ _ _ h=>h) Tryz.underlying51 rfl (tag_info _) K (fun _ h=>(h.get _ _ _ _ (mI 2 rfl)).mid 16 16 (by decide)) ?_
    simp only [aP,lI,l0,lS]; refine callMC (i:=4) (some 35) rfl (by kernel_rfl) rfl rfl (fun _=>by kernel_rfl) (clow_any a (fun j=>k (16+j)) ha hk2 _ (hg.below K.below hg.size)) ?_; rintro e w9 ⟨f,rfl,s1,l⟩; replace K:=K.call l; clear l
    refine ⟨_,rfl,K,?_⟩
    simp only [aP,lI,l0,lS]
    have hz':=(K.room _ mS).1
    refine storesC (S2:=fun _=>True) none rfl .u8 16 f (w.heap.size+1) 51 _ _ (by kernel_rfl) rfl rfl rfl rfl rfl (room_of hz') (tag_info' _) (by kernel_rfl) ?_; simp only [Act.put]
    refine wpAnyH_done (by kernel_rfl) ?_ _
    have hB:=(K.fill _ _ mS (row .u8 16 f)).below; have HE:=show Hid _ from (And.intro s1.1 (show val 256 f 16=ptag k len z by rw [s1.2,hv]; rfl)); clear K s1 hv ha hlt ht g1; go_wp2
    exact bodyPost_ret (v:=(.agg (row .u8 16 (f)).toArray)) (results_row Tryz.results125 rfl (Has.all hz' .u8 f).range Tryz.underlying51 rfl (tag_info f)) rfl ⟨f,rfl,HE.out,hB⟩
theorem or_byte (d x y:Int) (hd:0≤d∧d<256) (hx:0≤x∧x<256) (hy:0≤y∧y<256) :
 (0≤bits .or .u8 d (bits .xor .u8 x y)∧bits .or .u8 d (bits .xor .u8 x y)<256)∧(bits .or .u8 d (bits .xor .u8 x y)=0↔d=0∧x=y):=by
 obtain ⟨d,rfl⟩:=xiN hd.1
 obtain ⟨x,rfl⟩:=xiN hx.1
 obtain ⟨y,rfl⟩:=xiN hy.1
 have h1:x ^^^ y<2^8:=Nat.xor_lt_two_pow (by omega) (by omega)
 have h2:d ||| (x ^^^ y)<2^8:=Nat.or_lt_two_pow (by omega) h1
 rw [u8_xor_nat x y (by omega) (by omega),u8_or_nat d _ (by omega) (by omega)]
 refine ⟨by omega,?_⟩
 have e:((d ||| (x ^^^ y):Nat):Int)=0↔d ||| (x ^^^ y)=0:=by omega
 have e2:x ^^^ y=0↔x=y:=by
  constructor
  · intro h
    have h':x ^^^ (x ^^^ y)=x:=by rw [h,Nat.xor_zero]
    rw [← Nat.xor_assoc,Nat.xor_self,Nat.zero_xor] at h'
    exact h'.symm
  · intro h; rw [h,Nat.xor_self]
 rw [e,Nat.or_eq_zero_iff,e2]
 omega
theorem orI {P:Program} {o:Oper} {a:Act} (k:IntKind) (n n' r:Int) (t t':TypeId) (x y:Operand) (ho:o.op=.binOp .or t x y t') (hx:a.eval x=.int k n) (hy:a.eval y=.int k n') (hr:bits .or k n n'=r) (w:World):(execOp a.eval o).run P w=.ok (.value (.int k r)) w:=by
 unfold execOp
 simp only [ho,hx,hy,Sem.run_bind,eqGuard_at_int,binOp_or,intBits_or,Sem.run_pure,Result.andThen_ok,hr]
theorem same_iff (a b:Nat→Int) (ha:In 256 16 a) (hb:In 256 16 b) (d:Int) (h:d=0↔∀ j,j<16→a j=b j):(d == 0)=decide (val 256 a 16=val 256 b 16):=by
 have e:d=0↔val 256 a 16=val 256 b 16:=h.trans ⟨fun h=>val_congr 256 16 h,fun h=>val_inj 256 (by decide) a b 16 ha hb h⟩
 by_cases hd:d=0
 · rw [decide_eq_true (e.1 hd),hd]; rfl
 · rw [decide_eq_false (fun h=>hd (e.2 h))]; simpa using hd
theorem psame_any:SameOK:=by
 intro a b ha hb w _; have K:=((Kr.init w).box .u8 16 a 51 (w.heap.size) rfl).box .u8 16 b 51 (w.heap.size+1) (by simp)
 go_enter Tryz.func104,Tryz.ntmps104
 go_upto_region 1 with fail; generalize ((w.alloc (.cells (row .u8 16 a).toArray 51)).alloc (.cells (row .u8 16 b).toArray 51))=w0 at K ⊢; go_wp2
 go_loopw [5,7] (fun so i w'=>∃ (m:Nat) (d:Int),m≤16∧i=.int .i64 m∧so=.int .u8 d∧Kr w (w.heap.size+1+1) [(w.heap.size+1,.u8,16,b),(w.heap.size,.u8,16,a)] [] w'∧(0≤d∧d<256)∧(d=0↔∀ j,j<m→a j=b j)) (fun _ i _=>16-(intOf i).toNat)
 case atStart=>exact ⟨0,0,by omega,rfl,rfl,K,by omega,by simp⟩
 case round =>
  clear K
  obtain ⟨m,d,hm,rfl,rfl,K,hd,hz⟩:=hrel
  have g1:(0:Int)≤(m:Int):=by omega
  by_cases hlt:m<16
  · have g2:(m:Int)<16:=by omega
    go_upto_region 5 with fail; refine wp_region_held_drew (S:=fun w'=>Kr w (w.heap.size+1+1) [(w.heap.size+1,.u8,16,b),(w.heap.size,.u8,16,a)] [] w') (by kernel_rfl) K.drew ?_; clear K; intro K; generalize wr.drew=w1 at K ⊢; refine xpH 0 10 (.int .u8 d) K ?_; refine xpH 1 11 (.int .i64 (m:Int)) K ?_
    refine xqH 2 12 rfl (.pointer (some ⟨w.heap.size,m,none⟩)) (fun w'=>idxTag (w.heap.size) m hlt w' _ _ rfl rfl rfl) K ?_; refine cellH (i:=3) (some 13) rfl .u8 (.int .u8 (a m)) (w.heap.size) m 5 _ rfl rfl rfl rfl (by kernel_rfl) (by kernel_rfl) (by kernel_rfl) (fun _ _ _ h=>h) Tryz.underlying5 K (fun _ h=>(h.get _ _ _ _ (mT _ mS)).cell m hlt) ?_; simp only [aP,lI,l0,lS]
    refine xpH 4 14 (.int .i64 (m:Int)) K ?_; refine xqH 5 15 rfl (.pointer (some ⟨w.heap.size+1,m,none⟩)) (fun w'=>idxTag (w.heap.size+1) m hlt w' _ _ rfl rfl rfl) K ?_
    refine cellH (i:=6) (some 16) rfl .u8 (.int .u8 (b m)) (w.heap.size+1) m 5 _ rfl rfl rfl rfl (by kernel_rfl) (by kernel_rfl) (by kernel_rfl) (fun _ _ _ h=>h) Tryz.underlying5 K (fun _ h=>(h.get _ _ _ _ mS).cell m hlt) ?_; simp only [aP,lI,l0,lS]; refine xqH 7 17 rfl (.int .u8 (bits .xor .u8 (a m) (b m))) (fun w=>xorI .u8 _ _ _ _ _ _ _ rfl rfl rfl rfl w) K ?_
    refine xqH 8 18 rfl (.int .u8 (bits .or .u8 d (bits .xor .u8 (a m) (b m)))) (fun w=>orI .u8 _ _ _ _ _ _ _ rfl rfl rfl rfl w) K ?_; refine xpH 9 5 (.int .u8 (bits .or .u8 d (bits .xor .u8 (a m) (b m)))) K ?_
    refine wpAnyH_done (by kernel_rfl) ?_ _
    have ho:=or_byte d (a m) (b m) hd (ha m hlt) (hb m hlt)
    have HS:=show Hid _ from (And.intro K (And.intro ho.1 (show bits .or .u8 d (bits .xor .u8 (a m) (b m))=0↔∀ j,j<m+1→a j=b j from by
     rw [ho.2,hz]
     constructor
     · intro h j hj
       by_cases e:j=m
       · subst e; exact h.2
       · exact h.1 j (by omega)
     · intro h
       exact ⟨fun j hj=>h j (by omega),h m (by omega)⟩)))
    clear K hz ho; generalize bits .or .u8 d (bits .xor .u8 (a m) (b m))=d2 at HS ⊢; go_wp2
    go_roundw
    case rel=>first | exact ⟨m+1,d2,by omega,by go_num,rfl,HS.out⟩ | ((repeat apply Exists.intro); refine ⟨⟨m+1,d2,by omega,by go_num,rfl,HS.out⟩,rfl⟩)
    case measure=>simp [intOf]; omega
  · obtain rfl:m=16:=by omega
    clear hlt hm g1; have hr:=same_iff a b ha hb d hz; have hB:=K.below; clear K hz; go_upto_region 7 with fail; refine wp_region_list ?_; refine xpL (.int .u8 d) ?_; refine xqL (.bool (decide (val 256 a 16=val 256 b 16))) (fun w=>eqlI .u8 _ _ _ _ _ _ rfl rfl rfl _ hr w) ?_; refine xpL (.bool (decide (val 256 a 16=val 256 b 16))) ?_; show Exit.then _ _ _ _ _; go_wp2; go_ret
    exact ⟨rfl,hB⟩
theorem byt_dig (x:Nat):∀ j,j<8→byt (x:Int) j=dig x j
 | 0,_=>by show (x:Int)%256=((x/1%256:Nat):Int); omega
 | 1,_=>by show (x:Int)/256%256=((x/256%256:Nat):Int); omega
 | 2,_=>by show (x:Int)/65536%256=((x/65536%256:Nat):Int); omega
 | 3,_=>by show (x:Int)/16777216%256=((x/16777216%256:Nat):Int); omega
 | 4,_=>by show (x:Int)/4294967296%256=((x/4294967296%256:Nat):Int); omega
 | 5,_=>by show (x:Int)/1099511627776%256=((x/1099511627776%256:Nat):Int); omega
 | 6,_=>by show (x:Int)/281474976710656%256=((x/281474976710656%256:Nat):Int); omega
 | 7,_=>by show (x:Int)/72057594037927936%256=((x/72057594037927936%256:Nat):Int); omega
 | _+8,h=>by omega
theorem cat3 (bl:Nat) (b:Nat→Int) (sl:Nat) (s:Nat→Int) (j:Nat):catz (pk3 (up16 bl) (up16 sl) 16) (pk3 (padz bl b) (padz sl s) (app (dig bl) 8 (dig sl))) 3 j=amx bl b sl s j:=by
 show app (app (app (fun _=>0) 0 (padz bl b)) (0+up16 bl) (padz sl s)) (0+up16 bl+up16 sl) (app (dig bl) 8 (dig sl)) j=_
 unfold amx
 generalize up16 bl=x; generalize up16 sl=y; simp only [app,Nat.zero_add,xnZ,if_false,Nat.sub_zero]
 by_cases h1:j<x+y
 · rw [if_pos h1,if_pos (show j<x+y+8 by omega),if_pos h1]
 · rw [if_neg h1]
   by_cases h2:j<x+y+8
   · rw [if_pos (by omega),if_pos h2,if_neg h1]
   · rw [if_neg (by omega),if_neg h2,show j-(x+y)-8=j-(x+y+8) by omega]
theorem once_any (k n:Nat→Int) (hk:In 256 32 k) (hn:In 256 12 n) (w:World) (hg:HGlob w) :
 Calls Tryz.prog 126 #[(.agg (row .u8 32 (k)).toArray),(.agg (row .u8 12 (n)).toArray)] w fun e w'=>e=.returned (.agg (row .u8 32 (hblk k 0 n)).toArray)∧Below w.heap.size w w':=by
 have K:=Kr.init w; replace K:=K.box .u8 32 k 23 (w.heap.size) rfl; replace K:=K.box .u8 12 n 100 (w.heap.size+1) (by simp); replace K:=K.make 32 zu8_32 23 (w.heap.size+1+1) (by simp) (key_zero _ _ _ (by simp)).there
 go_enter Tryz.func126,Tryz.ntmps126
 go_upto_region 1 with fail; generalize (((w.alloc (.cells (row .u8 32 k).toArray 23)).alloc (.cells (row .u8 12 n).toArray 100)).alloc (.cells zu8_32 23))=w0 at K ⊢; refine wp_region_list ?_; refine rowKL .u8 32 (k) (w.heap.size) 0 23 _ _ rfl rfl rfl Tryz.underlying23 rfl (key_info _) ((K.get _ _ _ _ (mT _ mS)).range) ?_; simp only [aP,lI,l0,lS]
 refine rowKL .u8 12 (n) (w.heap.size+1) 0 100 _ _ rfl rfl rfl Tryz.underlying100 rfl (hn_info _) ((K.get _ _ _ _ mS).range) ?_; simp only [aP,lI,l0,lS]; refine xcL (hblock_any k 0 n hk hn _ (hg.below K.below hg.size)) ?_; rintro e w1 ⟨rfl,l⟩; replace K:=K.call l; clear l; refine xeL ?_; refine allocL zu8_64 136 rfl (fun _=>by kernel_rfl) ?_; simp only [aP,lI,l0,lS]
 refine storesL .u8 64 (hblk k 0 n) w1.heap.size 136 _ _ rfl rfl rfl rfl (room_of (hb_zero _ _ _ rfl).there) (hb_info' _) ?_; simp only [Act.put]; have zX:=K.size; replace K:=K.fresh .u8 64 (hblk k 0 n) zu8_64 136 (hb_zero _ _ _ rfl).there; generalize ((w1.alloc (.cells zu8_64 136)).setCells w1.heap.size 0 (row .u8 64 (hblk k 0 n)))=w2 at K ⊢; generalize w1.heap.size=X at *
 show Exit.then _ _ _ _ _; go_upto_region 2 with fail; refine wp_region_list ?_; refine xpL (.slice (some ⟨X,0,none⟩) 32 64) ?_; refine xpL (.pointer (some ⟨X,0,none⟩)) ?_; refine rowKL .u8 32 (hblk k 0 n) X 0 23 _ _ rfl rfl rfl Tryz.underlying23 rfl (key_info _) ((K.get _ _ _ _ mS).head 32 (by decide)) ?_; simp only [aP,lI,l0,lS]
 have hz':=(K.room _ mS).1
 refine storesL .u8 32 (hblk k 0 n) (w.heap.size+1+1) 23 _ _ rfl rfl rfl rfl (room_of hz') (key_info' _) ?_; simp only [Act.put]; have hB:=(K.fill _ _ mS (row .u8 32 (hblk k 0 n))).below; clear K; generalize hGe:hblk k 0 n=G at *; show Exit.then _ _ _ _ _; go_wp2
 exact bodyPost_ret (v:=(.agg (row .u8 32 (G)).toArray)) (results_row Tryz.results126 rfl (Has.all hz' .u8 G).range Tryz.underlying23 rfl (key_info G)) rfl ⟨by first | rfl | rw [hGe] | (rw [← hGe]; done),hB⟩
theorem filled_any (sp:Option Addr) (len cap:Nat) (hlen:len≤140737488351232) (hcap:len≤cap) (z:Nat→Int) (w:World) (hs:Src w sp len z) :
 Calls Tryz.prog 127 #[.slice sp len cap] w fun e w'=>∃ sp' cap',e=.returned (.slice sp' (up16 len) cap')∧(up16 len≤cap'∧(sp'=none→cap'=0)∧Src w' sp' (up16 len) (padz len z))∧Below w.heap.size w w':=by
 have hu:up16 len=len+(16-len%16)%16:=by unfold up16; omega
 obtain ⟨q,hq1,hq2⟩:=cut_full (P:=Tryz.prog) (t:=32) (by kernel_rfl) (fun _=>by kernel_rfl) sp len cap hcap
 obtain ⟨p,c,w1,hr,hc,hp,hB,hn⟩:=run_append_full (P:=Tryz.prog) (w:=w) (ty:=32) Tryz.underlying32 Tryz.underlying3 one8 q len z (hq2 w z hs) ((16-len%16)%16) (by omega) (by omega)
 rw [hu]
 go_enter Tryz.func127,Tryz.ntmps127
 go_upto_region 1 with fail; refine wp_region_list ?_; refine xpL (.slice sp len cap) ?_; refine xpL (.slice sp len cap) ?_; refine xqL (.int .i64 (len:Int)) (fun w=>lenS _ 32 5 (sp) (len) (cap) rfl Tryz.underlying32 rfl w) ?_; refine xpL (.slice sp len cap) ?_; refine xqL (.int .i64 (len:Int)) (fun w=>lenS _ 32 5 (sp) (len) (cap) rfl Tryz.underlying32 rfl w) ?_
 refine xqL (.slice q len len) (fun w=>cutHMop _ _ _ _ _ _ _ _ rfl rfl rfl rfl (hq1 w)) ?_; refine xpL (.slice sp len cap) ?_; refine xqL (.int .i64 (len:Int)) (fun w=>lenS _ 32 5 (sp) (len) (cap) rfl Tryz.underlying32 rfl w) ?_
 refine xqL (.int .i64 ((len%16:Nat):Int)) (fun w=>remI .i64 _ _ _ _ _ _ _ rfl rfl rfl (by decide) (by rw [Int.tmod_eq_emod_of_nonneg (by omega)]; omega) w) ?_
 refine xqL (.int .i64 ((16-len%16:Nat):Int)) (fun w=>subI .i64 _ _ _ _ _ _ _ rfl rfl rfl (by rw [xw6]; omega) w) ?_
 refine xqL (.int .i64 (((16-len%16)%16:Nat):Int)) (fun w=>remI .i64 _ _ _ _ _ _ _ rfl rfl rfl (by decide) (by rw [Int.tmod_eq_emod_of_nonneg (by omega)]; omega) w) ?_
 refine xaL (.slice p (len+(16-len%16)%16) c) (appendNOp _ _ 32 3 _ _ _ rfl rfl rfl hr) ?_; refine xpL (.slice p (len+(16-len%16)%16) c) ?_; show Exit.then _ _ _ _ _; clear hr hq1 hq2 hu; go_wp2; go_ret
 exact ⟨p,c,rfl,⟨hc,hn,hp⟩,hB⟩
theorem tagOf_any (k n:Nat→Int) (hk:In 256 32 k) (hn:In 256 12 n) (bp:Option Addr) (bl bc:Nat) (hbl:bl≤140737488351232) (hbc:bl≤bc) (b:Nat→Int) (hb:In 256 bl b) (sp:Option Addr) (len cap:Nat) (hlen:len≤140737488351232) (hcap:len≤cap) (z:Nat→Int) (hz:In 256 len z) (w:World) (hg:AGlob w) (hsb:Src w bp bl b) (hs:Src w sp len z) :
 Calls Tryz.prog 103 #[(.agg (row .u8 32 (k)).toArray),(.agg (row .u8 12 (n)).toArray),.slice bp bl bc,.slice sp len cap] w fun e w'=>e=.returned (.agg (row .u8 16 (atag k n bl b len z)).toArray)∧Below w.heap.size w w':=by
 have K:=Kr.init w; replace K:=K.box .u8 32 k 23 (w.heap.size) rfl; replace K:=K.box .u8 12 n 100 (w.heap.size+1) (by simp); replace K:=K.make 16 zu8_16 51 (w.heap.size+1+1) (by simp) (tag_zero _ _ _ (by simp)).there; replace K:=K.boxO .u8 16 (fun _=>0) (.cells zu8_16 50) (w.heap.size+1+1+1) (by simp) (tag_zero _ _ _ (by simp))
 go_enter Tryz.func103,Tryz.ntmps103
 go_upto_region 2 with fail; generalize ((((w.alloc (.cells (row .u8 32 k).toArray 23)).alloc (.cells (row .u8 12 n).toArray 100)).alloc (.cells zu8_16 51)).alloc (.cells zu8_16 50))=w0 at K ⊢; refine wp_region_list ?_; refine xpL (.slice (some ⟨w.heap.size+1+1+1,0,none⟩) 16 16) ?_; refine xpL (.slice bp bl bc) ?_
 refine xqL (.int .i64 (bl:Int)) (fun w=>lenS _ 32 5 (bp) (bl) (bc) rfl Tryz.underlying32 rfl w) ?_; refine xqL (.int .u64 (bl:Int)) (fun w=>convI .i64 .u64 _ _ _ _ _ rfl (by kernel_rfl) Tryz.underlying58 (by kernel_rfl) rfl (by rw [IntKind.wrap_u64]; omega) w) ?_; refine xcL (put16_any (w.heap.size+1+1+1) 0 16 16 _ (bl:Int) (by decide) _ (K.get _ _ _ _ mS)) ?_
 rintro e w1 ⟨rfl,rfl⟩; replace K:=K.part [(w.heap.size+1,.u8,12,n),(w.heap.size,.u8,32,k)] (w.heap.size+1+1+1) .u8 16 _ 0 8 (by decide) (byt (bl:Int)) mS (fun p hp=>by rcases xc1 hp with rfl | hp; exact (mT _ mS); obtain rfl:=xm1 hp; exact (mI 2 rfl)) (fun p hp=>by rcases xc1 hp with rfl | hp; simp only; omega; obtain rfl:=xm1 hp; simp only; omega) (by omega)
 generalize w0.setCells (w.heap.size+1+1+1) 0 (row .u8 8 (byt (bl:Int)))=w1 at K ⊢; refine xeL ?_; show Exit.then _ _ _ _ _; go_upto_region 3 with fail; refine wp_region_list ?_; refine xpL (.slice (some ⟨w.heap.size+1+1+1,8,none⟩) 8 8) ?_; refine xpL (.slice sp len cap) ?_; refine xqL (.int .i64 (len:Int)) (fun w=>lenS _ 32 5 (sp) (len) (cap) rfl Tryz.underlying32 rfl w) ?_
 refine xqL (.int .u64 (len:Int)) (fun w=>convI .i64 .u64 _ _ _ _ _ rfl (by kernel_rfl) Tryz.underlying58 (by kernel_rfl) rfl (by rw [IntKind.wrap_u64]; omega) w) ?_; refine xcL (put_any (w.heap.size+1+1+1) 8 16 8 _ (len:Int) (by decide) _ (K.get _ _ _ _ mS)) ?_; rintro e w2 ⟨rfl,rfl⟩
 replace K:=K.part [(w.heap.size+1,.u8,12,n),(w.heap.size,.u8,32,k)] (w.heap.size+1+1+1) .u8 16 _ 8 8 (by decide) (byt (len:Int)) mS (fun p hp=>by rcases xc1 hp with rfl | hp; exact (mT _ mS); obtain rfl:=xm1 hp; exact (mI 2 rfl)) (fun p hp=>by rcases xc1 hp with rfl | hp; simp only; omega; obtain rfl:=xm1 hp; simp only; omega) (by omega)
 generalize w1.setCells (w.heap.size+1+1+1) 8 (row .u8 8 (byt (len:Int)))=w2 at K ⊢
 replace K:=K.headC (app (dig bl) 8 (dig len)) (fun j hj=>by
  unfold over app
  by_cases e:j<8
  · rw [if_neg (by omega),if_pos (by omega),if_pos e,Nat.sub_zero]; exact byt_dig bl j e
  · rw [if_pos (by omega),if_neg e]; exact byt_dig len (j-8) (by omega))
 refine xeL ?_; show Exit.then _ _ _ _ _; go_upto_region 4 with fail; refine wp_region_held_drew (S:=fun w'=>Kr w (w.heap.size+1+1+1+1) [(w.heap.size+1+1+1,.u8,16,(app (dig bl) 8 (dig len))),(w.heap.size+1,.u8,12,n),(w.heap.size,.u8,32,k)] [(w.heap.size+1+1,16)] w') (by kernel_rfl) K.drew ?_; clear K; intro K
 refine rowKH (i:=0) (some 20) rfl .u8 32 (k) (w.heap.size) 0 23 _ _ rfl rfl rfl rfl (by kernel_rfl) (by kernel_rfl) (by kernel_rfl) (fun _ _ _ h=>h) Tryz.underlying23 rfl (key_info _) K (fun _ h=>(h.get _ _ _ _ (mI 2 rfl)).range) ?_; simp only [aP,lI,l0,lS]
 refine rowKH (i:=1) (some 21) rfl .u8 12 (n) (w.heap.size+1) 0 100 _ _ rfl rfl rfl rfl (by kernel_rfl) (by kernel_rfl) (by kernel_rfl) (fun _ _ _ h=>h) Tryz.underlying100 rfl (hn_info _) K (fun _ h=>(h.get _ _ _ _ (mT _ mS)).range) ?_; simp only [aP,lI,l0,lS]; refine xpH 3 23 (.slice bp bl bc) K ?_; refine xpH 5 25 (.slice sp len cap) K ?_
 refine xpH 7 27 (.slice (some ⟨w.heap.size+1+1+1,0,none⟩) 16 16) K ?_; refine callH (i:=2) (some 22) rfl (by kernel_rfl) rfl rfl (fun _=>by kernel_rfl) (once_any k n hk hn _ (hg.h.below K.below hg.size)) ?_; rintro e w3 ⟨rfl,l⟩; replace K:=K.call l; clear l
 refine ⟨_,rfl,K,?_⟩
 simp only [aP,lI,l0,lS]; refine callH (i:=4) (some 24) rfl (by kernel_rfl) rfl rfl (fun _=>by kernel_rfl) (filled_any bp bl bc hbl hbc b _ (hsb.below K.below (xnR _))) ?_; rintro e w4 ⟨p1,c1,rfl,⟨_,n1,S1⟩,l⟩; replace K:=K.call l; clear l
 refine ⟨_,rfl,K,?_⟩
 simp only [aP,lI,l0,lS]; refine callH (i:=6) (some 26) rfl (by kernel_rfl) rfl rfl (fun _=>by kernel_rfl) (filled_any sp len cap hlen hcap z _ (hs.below K.below (xnR _))) ?_; rintro e w5 ⟨p2,c2,rfl,⟨_,n2,S2⟩,l⟩; replace K:=K.call l; replace S1:=S1.below l (xnR _); clear l
 refine ⟨_,rfl,K,?_⟩
 simp only [aP,lI,l0,lS]; have HC:=catIn3 w5.heap.size p1 p2 (some ⟨w.heap.size+1+1+1,0,none⟩) (up16 bl) (up16 len) 16 c1 c2 16 (padz bl b) (padz len z) (app (dig bl) 8 (dig len)) 32 rfl S1 S2 (K.get _ _ _ _ mS).src0 n1 n2 (fun e=>by cases e)
 replace K:=K.call ((Below.refl w5.heap.size w5).alloc (xnR _) (.cells #[.slice p1 (up16 bl) c1,.slice p2 (up16 len) c2,.slice (some ⟨w.heap.size+1+1+1,0,none⟩) 16 16] 32))
 refine actH (i:=8) (w':=w5.alloc (.cells #[.slice p1 (up16 bl) c1,.slice p2 (up16 len) c2,.slice (some ⟨w.heap.size+1+1+1,0,none⟩) 16 16] 32)) (some 28) rfl (.slice (some ⟨w5.heap.size,0,none⟩) 3 3) (by kernel_rfl) rfl rfl (by kernel_rfl) K ?_; simp only [aP,lI,l0,lS]
 generalize (w5.alloc (.cells #[.slice p1 (up16 bl) c1,.slice p2 (up16 len) c2,.slice (some ⟨w.heap.size+1+1+1,0,none⟩) 16 16] 32))=w6 at K HC ⊢; generalize w5.heap.size=C at HC ⊢; clear S1 S2
 have u1:up16 bl≤140737488351232:=by unfold up16; omega
 have u2:up16 len≤140737488351232:=by unfold up16; omega
 refine callH (i:=9) (some 29) rfl (by kernel_rfl) rfl rfl (fun _=>by kernel_rfl) (concat_any ⟨C,0,none⟩ 3 3 _ _ _ _ (by decide) (by rw [tot3]; omega) _ HC) ?_; rintro e w7 ⟨v,rfl,O,l⟩; replace K:=K.call l; clear l HC
 rw [tot3] at O
 replace O:=O.congr (fun j _=>cat3 bl b len z j)
 obtain ⟨p3,c3,rfl,hc3,S3⟩:=O.bytes
 refine ⟨_,rfl,K,?_⟩
 simp only [aP,lI,l0,lS]
 have hA:up16 bl+up16 len+16=amt bl len:=by unfold amt; omega
 rw [hA] at hc3 S3 ⊢
 have hA2:amt bl len≤281474976710656:=by omega
 clear O hA u1 u2; refine callH (i:=10) (some 30) rfl (by kernel_rfl) rfl rfl (fun _=>by kernel_rfl) (psum_any (hblk k 0 n) (hblk_in k 0 n 32) p3 (amt bl len) c3 hA2 hc3 _ (amx_in bl b len z hb hz) _ (hg.c.below K.below hg.size) S3) ?_; rintro e w8 ⟨f,rfl,⟨hf1,hf2⟩,l⟩; replace K:=K.call l; clear l S3
 rw [row_congr .u8 16 (tag_is hf1 hf2)]
 clear hf1 hf2
 refine ⟨_,rfl,K,?_⟩
 simp only [aP,lI,l0,lS]
 have hz':=(K.room _ mS).1
 refine storesH (i:=11) none rfl .u8 16 (atag k n bl b len z) (w.heap.size+1+1) 51 _ _ (by kernel_rfl) rfl rfl rfl rfl rfl (room_of hz') (tag_info' _) (K.fill _ _ mS _) ?_; simp only [Act.put]
 refine wpAnyH_done (by kernel_rfl) ?_ _
 have hB:=(K.fill _ _ mS (row .u8 16 (atag k n bl b len z))).below; clear K; generalize hGe:atag k n bl b len z=G at *; go_wp2
 exact bodyPost_ret (v:=(.agg (row .u8 16 (G)).toArray)) (results_row Tryz.results103 rfl (Has.all hz' .u8 G).range Tryz.underlying51 rfl (tag_info G)) rfl ⟨by first | rfl | rw [hGe] | (rw [← hGe]; done),hB⟩
def NewF (w:World) (base n:Nat) (f:Nat→Int) (v:Value):Prop:=∃ sp cap,v=.slice sp n cap∧n≤cap∧(sp=none→cap=0)∧Src w sp n f∧∀ a,sp=some a→base≤a.block∧a.block<w.heap.size
theorem NewF.nil (w:World) (base:Nat) (f:Nat→Int):NewF w base 0 f (.slice none 0 0):=⟨none,0,rfl,xnR _,fun _=>rfl,fun j hj=>absurd hj (xnZ j),fun _ h=>by cases h⟩
theorem NewF.src {w:World} {base n:Nat} {f:Nat→Int} {sp:Option Addr} {cap:Nat} (h:NewF w base n f (.slice sp n cap)):Src w sp n f:=by
 obtain ⟨sp',cap',hv,_,_,hs,_⟩:=h
 injection hv with h1 _ _
 subst h1
 exact hs
theorem NewF.of_own {w:World} {base n:Nat} {f:Nat→Int} {v:Value} (h:Own w base 5 .u8 n f v):NewF w base n f v:=by
 obtain ⟨sp,cap,rfl,hc,hs⟩:=h.bytes
 exact ⟨sp,cap,rfl,hc,h.nilCap,hs,fun a e=>by subst e; exact World.ownsRow.lt h a.block rfl⟩
theorem NewF.congr {w:World} {base n:Nat} {f g:Nat→Int} {v:Value} (h:NewF w base n f v) (he:∀ j,j<n→f j=g j):NewF w base n g v:=by
 obtain ⟨sp,cap,hv,hc,hn,hs,ha⟩:=h
 exact ⟨sp,cap,hv,hc,hn,fun j hj=>by rw [← he j hj]; exact hs j hj,ha⟩
def NewL (w:World) (base:Nat) (l:List Int) (v:Value):Prop:=NewF w base l.length (bl l) v
theorem NewF.off {w w':World} {base n:Nat} {f:Nat→Int} {v:Value} {X:List Nat} (h:NewF w base n f v) (o:Off X w w') (hX:∀ b∈X,b<base):NewF w' base n f v:=by
 obtain ⟨sp,cap,hv,hc,hn,hs,ha⟩:=h
 have hsz:=o.size
 refine ⟨sp,cap,hv,hc,hn,fun j hj=>?_,fun a e=>⟨(ha a e).1,by have:=(ha a e).2; omega⟩⟩
 obtain ⟨p,hp,hcell⟩:=hs j hj
 exact ⟨p,hp,o.cell hcell (by rw [add_block]; exact fun hm=>by have:=hX _ hm; have:=(ha p hp).1; omega)⟩
theorem NewF.below {w w':World} {base n:Nat} {f:Nat→Int} {v:Value} (h:NewF w base n f v) (l:Below w.heap.size w w'):NewF w' base n f v:=h.off (X:=[]) (Off.of_below l) (fun _ hb=>by cases hb)
theorem NewF.lower {w:World} {base base' n:Nat} {f:Nat→Int} {v:Value} (h:NewF w base n f v) (hb:base'≤base):NewF w base' n f v:=by
 obtain ⟨sp,cap,hv,hc,hn,hs,ha⟩:=h
 exact ⟨sp,cap,hv,hc,hn,hs,fun a e=>⟨xnT hb (ha a e).1,(ha a e).2⟩⟩
theorem NewF.srcA {w:World} {base n:Nat} {f:Nat→Int} {sp:Option Addr} {cap:Nat} {X:List Nat} (h:NewF w base n f (.slice sp n cap)) (hX:∀ b∈X,b<base):SrcA X w sp n f:=by
 obtain ⟨sp',cap',hv,_,_,hs,ha⟩:=h
 injection hv with h1 _ _
 subst h1
 exact ⟨hs,fun a e _ hm=>by have:=hX _ hm; have:=(ha a e).1; omega⟩
theorem loadArr {P:Program} {o:Oper} {a:Act} {w:World} (ty:TypeId) (x:Operand) (ad:Addr) (n:Nat) (f:Nat→Int) (d:TypeDesc) (ho:o.op=.load ty x) (hx:a.eval x=.pointer (some ad)) (hu:P.underlying ty=some d) (hd:d.isRow=true) (hz:(P.info? ty).map (·.size)=some n) (hs:Src w (some ad) n f) :
 (execOp a.eval o).run P w=.ok (.value (.agg (row .u8 n f).toArray)) w:=by
 have hl:(loadCells ad n).run P w=.ok (row .u8 n f).toArray w:=by
  have:=run_loadCells_list (P:=P) w ad (row .u8 n f) (fun j v hv=>by
   obtain ⟨hj,rfl⟩:=row_get_some hv
   obtain ⟨ad',he,hc⟩:=hs j hj
   injection he with he
   subst he
   exact hc)
  rw [row_length] at this
  exact this
 have e:(loadVar ty ad).run P w=.ok (.agg (row .u8 n f).toArray) w:=by
  cases hq:P.info? ty with
  | none=>simp [hq] at hz
  | some i =>
    have hs':i.size=n:=by simpa [hq] using hz
    have hagg:(isAgg ty).run P w=.ok true w:=by
     unfold isAgg
     rw [Sem.run_bind,run_underlying hu w]
     cases d <;> simp_all
    simp [loadVar,Sem.run_bind,hagg,sizeOf,typeInfo,hq,hs',hl]
 unfold execOp
 simp only [ho,hx,Instr.loadAt,Instr.sureAddr,Sem.run_bind,Sem.run_pure,Result.andThen_ok,e]
theorem run_copy_mid {P:Program} {o:Oper} {a:Act} {w:World} (d s:Operand) (dT sT elem:TypeId) (ho:o.op=.call { callee:=.builtin .copy,args:=#[d,s],argTypes:=#[dT,sT] }) (hu:P.underlying dT=some (.slice elem)) (hsz:(P.info? elem).map (·.size)=some 1)
 (b o' dCap m n sCap:Nat) (f z:Nat→Int) (ad:Addr) (hd:a.eval d=.slice (some ⟨b,o',none⟩) m dCap) (hs:a.eval s=.slice (some ad) m sCap) (hb:Has w b .u8 n f) (hm:o'+m≤n) (hc:Src w (some ad) m z) :
 (execOp a.eval o).run P w=.ok (.value (.int .i64 (m:Int))) (w.setCells b o' (row .u8 m z)):=by
 have hrun:=run_copy_cells (P:=P) w dT sT o.type elem b o' m dCap ad m sCap (row .u8 m z) hu hsz (by rw [row_length]; exact (Nat.min_self m).symm) (fun j v hv=>by
  obtain ⟨hj,rfl⟩:=row_get_some hv
  obtain ⟨ad',he,hc'⟩:=hc j hj
  injection he with he
  subst he
  exact hc') (fun j hj=>by rw [row_length] at hj; rw [hb.cell (o'+j) (by omega)]; rfl) (fun j hj=>by rw [row_length] at hj; exact hb.free (o'+j) (by omega)) (row_one .u8 m z)
 rw [row_length] at hrun
 simp [execOp,ho,resolve,invoke,builtin,hd,hs,hrun,Result.andThen,goInt]
theorem icut (g n c:Nat) (hn:n+16≤c) (w:World):(Instr.sliceAt 32 (.slice (some ⟨g,0,none⟩) (n+16) c) (some (.int .i64 (n:Int))) none none).run Tryz.prog w=.ok (.slice (some ⟨g,n,none⟩) 16 (c-n)) w:=by
 rw [run_sliceAt_slice w 32 _ _ _ _ (by kernel_rfl),run_slice_l w 32 _ (n+16) c (by kernel_rfl) .i64 (n:Int) (by omega) (by omega),show (sizeOf (Tryz.prog.elem 32)).run Tryz.prog w=.ok 1 w by kernel_rfl]
 have h1:¬ c=n:=by omega
 simp [Result.andThen,sliced,Addr.add_mid,h1]
theorem aseal_any:ASealOK:=by
 intro k n hk hn bp bl bc hbl hbc hbn b hb sp len cap hlen hcap hsn z hz w hg hsb hs; have K:=Kr.init w; replace K:=K.box .u8 32 k 23 (w.heap.size) rfl; replace K:=K.box .u8 12 n 100 (w.heap.size+1) (by simp)
 go_enter Tryz.func81,Tryz.ntmps81
 go_upto_region 1 with fail; generalize ((w.alloc (.cells (row .u8 32 k).toArray 23)).alloc (.cells (row .u8 12 n).toArray 100))=w0 at K ⊢; refine wp_region_list ?_; refine rowKL .u8 32 (k) (w.heap.size) 0 23 _ _ rfl rfl rfl Tryz.underlying23 rfl (key_info _) ((K.get _ _ _ _ (mT _ mS)).range) ?_; simp only [aP,lI,l0,lS]
 refine rowKL .u8 12 (n) (w.heap.size+1) 0 100 _ _ rfl rfl rfl Tryz.underlying100 rfl (hn_info _) ((K.get _ _ _ _ mS).range) ?_; simp only [aP,lI,l0,lS]; refine xpL (.slice sp len cap) ?_; refine xcL (hxor_any k 1 n hk hn (by decide) sp len cap (by omega) z _ (hg.h.below K.below hg.size) (hs.below K.below (xnR _))) ?_; rintro e w1 ⟨X,rfl,⟨hX1,hX2,HX⟩,l⟩; have zX:=K.size
 replace K:=(K.call l).own (by omega) hX2 HX; clear l HX; refine xeL ?_; refine xpL (.slice (some ⟨X,0,none⟩) len len) ?_; generalize w1.heap.size=m1 at K hX2; show Exit.then _ _ _ _ _; go_upto_region 2 with fail; refine wp_region_list ?_; refine rowKL .u8 32 (k) (w.heap.size) 0 23 _ _ rfl rfl rfl Tryz.underlying23 rfl (key_info _) ((K.get _ _ _ _ (mI 2 rfl)).range) ?_
 simp only [aP,lI,l0,lS]; refine rowKL .u8 12 (n) (w.heap.size+1) 0 100 _ _ rfl rfl rfl Tryz.underlying100 rfl (hn_info _) ((K.get _ _ _ _ (mT _ mS)).range) ?_; simp only [aP,lI,l0,lS]; refine xpL (.slice bp bl bc) ?_; refine xpL (.slice (some ⟨X,0,none⟩) len len) ?_
 refine xcL (tagOf_any k n hk hn bp bl bc hbl hbc b hb (some ⟨X,0,none⟩) len len hlen (xnR _) (hxor k 1 n z) (hxor_in k 1 n z len hz) _ (hg.below K.below hg.size) (hsb.below K.below (xnR _)) (K.get _ _ _ _ mS).src0) ?_; rintro e w2 ⟨rfl,l⟩; replace K:=K.call l; clear l; refine xeL ?_; refine allocL zu8_16 51 rfl (fun _=>by kernel_rfl) ?_; simp only [aP,lI,l0,lS]
 refine storesL .u8 16 (atag k n bl b len (hxor k 1 n z)) w2.heap.size 51 _ _ rfl rfl rfl rfl (room_of (tag_zero _ _ _ rfl).there) (tag_info' _) ?_; simp only [Act.put]; have zT:=K.size; replace K:=K.fresh .u8 16 (atag k n bl b len (hxor k 1 n z)) zu8_16 51 (tag_zero _ _ _ rfl).there
 generalize ((w2.alloc (.cells zu8_16 51)).setCells w2.heap.size 0 (row .u8 16 (atag k n bl b len (hxor k 1 n z))))=w3 at K ⊢; generalize w2.heap.size=T at *; show Exit.then _ _ _ _ _; go_upto_region 3 with fail; refine wp_region_list ?_; refine xpL (.slice (some ⟨X,0,none⟩) len len) ?_
 refine xqL (.int .i64 (len:Int)) (fun w=>lenS _ 32 5 (some ⟨X,0,none⟩) (len) (len) rfl Tryz.underlying32 rfl w) ?_; refine xqL (.int .i64 ((len+16:Nat):Int)) (fun w=>addI .i64 _ _ _ _ _ _ _ rfl rfl rfl (by rw [xw6]; omega) w) ?_
 refine actL (w':=w3.alloc (.cells (row .u8 (len+16) (fun _=>0)).toArray 5)) (.slice (some ⟨w3.heap.size,0,none⟩) (len+16) (len+16)) rfl (makeOp 32 _ _ _ _ _ rfl rfl rfl (made8 (len+16) (by omega) w3)) ?_; simp only [aP,lI,l0,lS]; have zY:=K.size; replace K:=K.box .u8 (len+16) (fun _=>0) 5 w3.heap.size rfl
 generalize w3.alloc (.cells (row .u8 (len+16) (fun _=>0)).toArray 5)=w4 at K ⊢; generalize w3.heap.size=Y at *; refine xpL (.slice (some ⟨Y,0,none⟩) (len+16) (len+16)) ?_; show Exit.then _ _ _ _ _; go_upto_region 4 with fail; refine wp_region_list ?_; refine xpL (.slice (some ⟨Y,0,none⟩) (len+16) (len+16)) ?_; refine xpL (.slice (some ⟨X,0,none⟩) len len) ?_
 refine xaL (.int .i64 (len:Int)) (run_copy_src _ _ 32 32 5 rfl Tryz.underlying32 (by kernel_rfl) Y (len+16) (len+16) len len (len+16) (some ⟨X,0,none⟩) (hxor k 1 n z) rfl rfl (by omega) (by omega) (K.get _ _ _ _ mS).there (K.get _ _ _ _ (mI 2 rfl)).src0) ?_
 replace K:=K.part [(T,.u8,16,atag k n bl b len (hxor k 1 n z)),(X,.u8,len,hxor k 1 n z)] Y .u8 (len+16) _ 0 len (by omega) (hxor k 1 n z) mS (fun p hp=>by rcases xc1 hp with rfl | hp; exact (mT _ mS); obtain rfl:=xm1 hp; exact (mI 2 rfl)) (fun p hp=>by rcases xc1 hp with rfl | hp; simp only; omega; obtain rfl:=xm1 hp; simp only; omega) (by omega)
 generalize w4.setCells Y 0 (row .u8 len (hxor k 1 n z))=w5 at K ⊢; show Exit.then _ _ _ _ _; go_upto_region 5 with fail; have HY:=K.get _ _ _ _ mS
 replace K:=K.loose [(T,.u8,16,atag k n bl b len (hxor k 1 n z)),(X,.u8,len,hxor k 1 n z)] Y .u8 (len+16) _ mS (fun p hp=>mT _ hp) (fun p hp=>by rcases xc1 hp with rfl | hp; simp only; omega; obtain rfl:=xm1 hp; simp only; omega) (by omega)
 refine wp_region_held_drew (S:=fun w'=>Kr w (Y+1) [(T,.u8,16,atag k n bl b len (hxor k 1 n z)),(X,.u8,len,hxor k 1 n z)] [(Y,len+16)] w') (by kernel_rfl) K.drew ?_; clear K; intro K; replace HY:=HY.drew; generalize w5.drew=w6 at K HY ⊢; refine xpH 0 28 (.slice (some ⟨Y,0,none⟩) (len+16) (len+16)) K ?_; refine xpH 1 29 (.slice (some ⟨X,0,none⟩) len len) K ?_
 refine xqH 2 30 rfl (.int .i64 (len:Int)) (fun w=>lenS _ 32 5 (some ⟨X,0,none⟩) (len) (len) rfl Tryz.underlying32 rfl w) K ?_; refine xqH 3 31 rfl (.slice (some ⟨Y,len,none⟩) 16 (len+16-len)) (fun w=>cutOp _ _ _ _ _ _ rfl rfl rfl (icut Y len (len+16) (xnR _) w)) K ?_; refine xpH 4 32 (.slice (some ⟨T,0,none⟩) 16 16) K ?_
 refine actH (i:=5) (some 33) rfl (.int .i64 ((16:Nat):Int)) (by kernel_rfl) rfl rfl (run_copy_mid _ _ 32 32 5 rfl Tryz.underlying32 (by kernel_rfl) Y len (len+16-len) 16 (len+16) 16 _ (atag k n bl b len (hxor k 1 n z)) ⟨T,0,none⟩ rfl rfl HY (by omega) (K.get _ _ _ _ mS).src0) (K.poke Y (len+16) mS len _) ?_; simp only [aP,lI,l0,lS]
 refine wpAnyH_done (by kernel_rfl) ?_ _
 have hY:=(HY.part len 16 (by omega) (atag k n bl b len (hxor k 1 n z))).congr (g:=aout k n bl b len z) (fun j hj=>by
  unfold aout app over
  by_cases e:j<len
  · rw [if_neg (by omega),if_pos (by omega),if_pos e,Nat.sub_zero]
  · rw [if_pos (by omega),if_neg e])
 have hB:=(K.poke Y (len+16) mS len (row .u8 16 (atag k n bl b len (hxor k 1 n z)))).below; have hs6:=K.size; clear K HY; generalize hw7:w6.setCells Y len (row .u8 16 (atag k n bl b len (hxor k 1 n z)))=w7 at hY hB ⊢
 have hs7:Y<w7.heap.size:=by rw [← hw7,size_setAll]; omega
 clear hw7 hs6
 have hYl:w.heap.size≤Y:=by omega
 go_wp2; go_ret
 exact ⟨Y,len+16,rfl,⟨xnR _,hYl,hs7,hY⟩,hB⟩
theorem aopen_short (k n:Nat→Int) (bp:Option Addr) (bl bc:Nat) (sp:Option Addr) (len cap:Nat) (hl:len<16) (w:World) :
 Calls Tryz.prog 84 #[(.agg (row .u8 32 (k)).toArray),(.agg (row .u8 12 (n)).toArray),.slice bp bl bc,.slice sp len cap] w fun e w'=>e=.returned (.tuple #[.slice none 0 0,.int .i64 3])∧Below w.heap.size w w':=by
 have g1:(len:Int)<16:=by omega
 have K:=Kr.init w; replace K:=K.box .u8 32 k 23 (w.heap.size) rfl; replace K:=K.box .u8 12 n 100 (w.heap.size+1) (by simp)
 go_enter Tryz.func84,Tryz.ntmps84
 go_upto_region 1 with fail; generalize ((w.alloc (.cells (row .u8 32 k).toArray 23)).alloc (.cells (row .u8 12 n).toArray 100))=w0 at K ⊢; have hB:=K.below; clear K; go_wp2; go_ret2
 exact ⟨rfl,hB⟩
theorem NewF.of_has {w:World} {base n c B:Nat} {f:Nat→Int} (h:Has w B .u8 n f) (hc:n≤c) (h1:base≤B) (h2:B<w.heap.size):NewF w base n f (.slice (some ⟨B,0,none⟩) n c):=⟨_,c,rfl,hc,fun e=>(by cases e),h.src0,fun a e=>by cases e; exact ⟨h1,h2⟩⟩
theorem aopen_long (k n:Nat→Int) (hk:In 256 32 k) (hn:In 256 12 n) (bp:Option Addr) (bl bc:Nat) (hbl:bl≤140737488351232) (hbc:bl≤bc) (b:Nat→Int) (hb:In 256 bl b) (sp:Option Addr) (len cap:Nat) (hlen:len≤140737488351248) (hcap:len≤cap) (hl:16≤len) (z:Nat→Int) (hz:In 256 len z) (w:World) (hg:AGlob w) (hsb:Src w bp bl b) (hs:Src w sp len z) :
 Calls Tryz.prog 84 #[(.agg (row .u8 32 (k)).toArray),(.agg (row .u8 12 (n)).toArray),.slice bp bl bc,.slice sp len cap] w fun e w'=>(∃ v,e=.returned (.tuple #[v,.int .i64 (aoE k n bl b len z)])∧NewF w' w.heap.size (aoL k n bl b len z) (hxor k 1 n z) v)∧Below w.heap.size w w':=by
 have g1:¬ (len:Int)<16:=by omega
 have hz1:In 256 (len-16) z:=fun j hj=>hz j (by omega)
 have hz2:In 256 16 (fun j=>z (len-16+j)):=fun j hj=>hz _ (by omega)
 obtain ⟨q,hq1,hq2⟩:=cut_hi (P:=Tryz.prog) (t:=32) (by kernel_rfl) (fun _=>by kernel_rfl) sp len cap (len-16) (by omega) hcap
 obtain ⟨q',hr1,hr2⟩:=cut_lo (P:=Tryz.prog) (t:=32) (by kernel_rfl) (fun _=>by kernel_rfl) sp len cap (len-16) (by omega) hcap
 rw [show len-(len-16)=16 by omega] at hr1 hr2
 obtain ⟨ad,rfl,_⟩:=hr2 w z hs 0 (by decide)
 have hcq:len-16≤cap:=by omega
 have K:=Kr.init w; replace K:=K.box .u8 32 k 23 (w.heap.size) rfl; replace K:=K.box .u8 12 n 100 (w.heap.size+1) (by simp)
 go_enter Tryz.func84,Tryz.ntmps84
 go_upto_region 1 with fail; generalize ((w.alloc (.cells (row .u8 32 k).toArray 23)).alloc (.cells (row .u8 12 n).toArray 100))=w0 at K ⊢; go_upto_region 3 with fail; clear g1; refine wp_region_list ?_; refine xpL (.slice sp len cap) ?_; refine xqL (.int .i64 (len:Int)) (fun w=>lenS _ 32 5 (sp) (len) (cap) rfl Tryz.underlying32 rfl w) ?_
 refine xqL (.int .i64 ((len-16:Nat):Int)) (fun w=>subI .i64 _ _ _ _ _ _ _ rfl rfl rfl (by rw [xw6]; omega) w) ?_; refine xpL (.int .i64 ((len-16:Nat):Int)) ?_; show Exit.then _ _ _ _ _; go_upto_region 4 with fail; have zX:=K.size
 refine wp_region_held_drew (S:=fun w'=>Kr w (w.heap.size+1+1) [(w.heap.size+1,.u8,12,n),(w.heap.size,.u8,32,k)] [] w') (by kernel_rfl) K.drew ?_; clear K; intro K; refine xpH 0 19 (.slice sp len cap) K ?_; refine xpH 1 20 (.int .i64 ((len-16:Nat):Int)) K ?_; refine xqH 2 21 rfl (.slice q (len-16) cap) (fun w=>cutHi _ _ _ _ _ _ rfl rfl rfl (hq1 w)) K ?_
 refine xpH 3 22 (.slice sp len cap) K ?_; refine xpH 4 23 (.int .i64 ((len-16:Nat):Int)) K ?_; refine xqH 5 24 rfl (.slice (some ad) 16 (cap-(len-16))) (fun w=>cutOp _ _ _ _ _ _ rfl rfl rfl (hr1 w)) K ?_; refine xpH 6 25 (.pointer (some ad)) K ?_
 refine xrH 7 26 rfl (.agg (row .u8 16 ((fun j=>z (len-16+j)))).toArray) (fun w' h=>loadArr 51 _ ad 16 (fun j=>z (len-16+j)) _ rfl rfl Tryz.underlying51 rfl (by kernel_rfl) (hr2 w' z (hs.below h.below (xnR _)))) K ?_; generalize w0.drew=w1 at K ⊢
 refine actH (i:=8) (w':=w1.alloc (.cells zu8_16 51)) (some 12) rfl (.pointer (some ⟨w1.heap.size,0,none⟩)) (by kernel_rfl) rfl rfl (by kernel_rfl) (K.call ((Below.refl w1.heap.size w1).alloc (xnR _) _)) ?_; simp only [aP,lI,l0,lS]; refine xpH 9 11 (.slice q (len-16) cap) (K.call ((Below.refl w1.heap.size w1).alloc (xnR _) _)) ?_
 have KF:=K.fresh .u8 16 (fun j=>z (len-16+j)) zu8_16 51 (tag_zero _ _ _ rfl).there; have zT:=K.size
 refine storesH (i:=10) none rfl .u8 16 (fun j=>z (len-16+j)) w1.heap.size 51 _ _ (by kernel_rfl) rfl rfl rfl rfl rfl (room_of (tag_zero _ _ _ rfl).there) (tag_info' _) (KF.sub _ (fun p hp=>mT _ hp) |>.back _ _ (fun _ hp=>hp) (fun p hp=>by rcases xc1 hp with rfl | hp; simp only; omega; obtain rfl:=xm1 hp; simp only; omega) (fun _ hq=>by cases hq) (by omega) (by omega)) ?_
 simp only [Act.put]
 refine wpAnyH_done (by kernel_rfl) ?_ _
 clear K; generalize ((w1.alloc (.cells zu8_16 51)).setCells w1.heap.size 0 (row .u8 16 (fun j=>z (len-16+j))))=w2 at KF ⊢; generalize w1.heap.size=T at *; go_upto_region 5 with fail; refine wp_region_held_drew (S:=fun w'=>Kr w (T+1) [(T,.u8,16,(fun j=>z (len-16+j))),(w.heap.size+1,.u8,12,n),(w.heap.size,.u8,32,k)] [] w') (by kernel_rfl) KF.drew ?_; clear KF
 intro K; refine rowKH (i:=0) (some 27) rfl .u8 16 ((fun j=>z (len-16+j))) (T) 0 51 _ _ rfl rfl rfl rfl (by kernel_rfl) (by kernel_rfl) (by kernel_rfl) (fun _ _ _ h=>h) Tryz.underlying51 rfl (tag_info _) K (fun _ h=>(h.get _ _ _ _ mS).range) ?_; simp only [aP,lI,l0,lS]
 refine rowKH (i:=1) (some 28) rfl .u8 32 (k) (w.heap.size) 0 23 _ _ rfl rfl rfl rfl (by kernel_rfl) (by kernel_rfl) (by kernel_rfl) (fun _ _ _ h=>h) Tryz.underlying23 rfl (key_info _) K (fun _ h=>(h.get _ _ _ _ (mI 2 rfl)).range) ?_; simp only [aP,lI,l0,lS]
 refine rowKH (i:=2) (some 29) rfl .u8 12 (n) (w.heap.size+1) 0 100 _ _ rfl rfl rfl rfl (by kernel_rfl) (by kernel_rfl) (by kernel_rfl) (fun _ _ _ h=>h) Tryz.underlying100 rfl (hn_info _) K (fun _ h=>(h.get _ _ _ _ (mT _ mS)).range) ?_; simp only [aP,lI,l0,lS]; refine xpH 3 30 (.slice bp bl bc) K ?_; refine xpH 4 31 (.slice q (len-16) cap) K ?_
 refine callH (i:=5) (some 32) rfl (by kernel_rfl) rfl rfl (fun _=>by kernel_rfl) (tagOf_any k n hk hn bp bl bc hbl hbc b hb q (len-16) cap (by omega) hcq z hz1 _ (hg.below K.below hg.size) (hsb.below K.below (xnR _)) (hq2 _ z (hs.below K.below (xnR _)))) ?_; rintro e w4 ⟨rfl,l⟩; replace K:=K.call l; clear l
 refine ⟨_,rfl,K,?_⟩
 simp only [aP,lI,l0,lS]; refine callH (i:=6) (some 33) rfl (by kernel_rfl) rfl rfl (fun _=>by kernel_rfl) (psame_any (fun j=>z (len-16+j)) (atag k n bl b (len-16) z) hz2 (atag_in _ _ _ _ _ _ _) _ (hg.c.below K.below hg.size)) ?_; rintro e w5 ⟨rfl,l⟩; replace K:=K.call l; clear l
 refine ⟨_,rfl,K,?_⟩
 simp only [aP,lI,l0,lS]
 by_cases hok:aok k n bl b len z
 · have hd:decide (val 256 (fun j=>z (len-16+j)) 16=val 256 (atag k n bl b (len-16) z) 16)=true:=decide_eq_true (by rw [atag_val]; exact hok.2.symm)
   rw [hd]
   have e1:aoL k n bl b len z=len-16:=by unfold aoL; rw [if_pos hok]
   have e2:aoE k n bl b len z=0:=by unfold aoE; rw [if_neg (by omega),if_pos hok]
   have HE:=show Hid _ from And.intro e1 e2; clear e1 e2; refine xpH 7 34 (.bool false) K ?_
   refine wpAnyH_done (by kernel_rfl) ?_ _
   clear hd hok; go_upto_region 7 with fail; refine wp_region_list ?_; refine rowKL .u8 32 (k) (w.heap.size) 0 23 _ _ rfl rfl rfl Tryz.underlying23 rfl (key_info _) ((K.get _ _ _ _ (mI 2 rfl)).range) ?_; simp only [aP,lI,l0,lS]; refine rowKL .u8 12 (n) (w.heap.size+1) 0 100 _ _ rfl rfl rfl Tryz.underlying100 rfl (hn_info _) ((K.get _ _ _ _ (mT _ mS)).range) ?_; simp only [aP,lI,l0,lS]
   refine xpL (.slice q (len-16) cap) ?_; refine xcL (hxor_any k 1 n hk hn (by decide) q (len-16) cap (by omega) z _ (hg.h.below K.below hg.size) (hq2 _ z (hs.below K.below (xnR _)))) ?_; rintro e w6 ⟨X,rfl,⟨hX1,hX2,HX⟩,l⟩; replace hX1:=xnT K.below.size hX1; replace K:=K.call l; clear l; refine xeL ?_; refine xpL (.slice (some ⟨X,0,none⟩) (len-16) (len-16)) ?_
   refine xpL (.int .i64 0) ?_; have hB:=K.below; clear K; show Exit.then _ _ _ _ _; go_wp2; go_ret2
   exact ⟨⟨.slice (some ⟨X,0,none⟩) (len-16) (len-16),by rw [HE.out.2]; rfl,by rw [HE.out.1]; exact NewF.of_has HX (xnR _) hX1 hX2⟩,hB⟩
 · have hd:decide (val 256 (fun j=>z (len-16+j)) 16=val 256 (atag k n bl b (len-16) z) 16)=false:=decide_eq_false (by rw [atag_val]; exact fun h=>hok ⟨hl,h.symm⟩)
   rw [hd]
   have e1:aoL k n bl b len z=0:=by unfold aoL; rw [if_neg hok]
   have e2:aoE k n bl b len z=70:=by unfold aoE; rw [if_neg (by omega),if_neg hok]
   have HE:=show Hid _ from And.intro e1 e2; clear e1 e2; refine xpH 7 34 (.bool true) K ?_
   refine wpAnyH_done (by kernel_rfl) ?_ _
   have hB:=K.below; clear hd hok K; go_wp2; go_ret2
   exact ⟨⟨.slice none 0 0,by rw [HE.out.2]; rfl,by rw [HE.out.1]; exact NewF.nil _ _ _⟩,hB⟩
theorem aopen_new (k n:Nat→Int) (hk:In 256 32 k) (hn:In 256 12 n) (bp:Option Addr) (bl bc:Nat) (hbl:bl≤140737488351232) (hbc:bl≤bc) (b:Nat→Int) (hb:In 256 bl b) (sp:Option Addr) (len cap:Nat) (hlen:len≤140737488351248) (hcap:len≤cap) (z:Nat→Int) (hz:In 256 len z) (w:World) (hg:AGlob w) (hsb:Src w bp bl b) (hs:Src w sp len z) :
 Calls Tryz.prog 84 #[(.agg (row .u8 32 (k)).toArray),(.agg (row .u8 12 (n)).toArray),.slice bp bl bc,.slice sp len cap] w fun e w'=>(∃ v,e=.returned (.tuple #[v,.int .i64 (aoE k n bl b len z)])∧NewF w' w.heap.size (aoL k n bl b len z) (hxor k 1 n z) v)∧Below w.heap.size w w':=by
 by_cases hl:len<16
 · have e1:aoL k n bl b len z=0:=by unfold aoL; rw [if_neg (fun h=>by have:=h.1; omega)]
   have e2:aoE k n bl b len z=3:=by unfold aoE; rw [if_pos hl]
   rw [e1,e2]
   exact (aopen_short k n bp bl bc sp len cap hl w).mono fun e w' h=>⟨⟨_,h.1,NewF.nil _ _ _⟩,h.2⟩
 · exact aopen_long k n hk hn bp bl bc hbl hbc b hb sp len cap hlen hcap (by omega) z hz w hg hsb hs
def bplc (j:Nat):Int:=if j%4=0 then (pA (j/4):Int) else if j%4=1 then (pB (j/4):Int) else if j%4=2 then (pC (j/4):Int) else (pD (j/4):Int)
structure BGlob (w:World):Prop where
 first:∀ j,j<8→w.cell? ⟨2,j,none⟩=some (.int .u32 (iv j))
 order:∀ j,j<160→w.cell? ⟨5,j,none⟩=some (.int .u8 (sgL.getD j 0:Nat))
 place:∀ j,j<32→w.cell? ⟨4,j,none⟩=some (.int .u8 (bplc j))
 size:10≤w.heap.size
theorem BGlob.below {w w':World} (h:BGlob w) {B:Nat} (l:Below B w w') (hB:10≤B):BGlob w' :=
 ⟨fun j hj=>by rw [l.cell (p:=⟨2,j,none⟩) (xnL (show 2<10 by decide) hB)]; exact h.first j hj,fun j hj=>by rw [l.cell (p:=⟨5,j,none⟩) (xnL (show 5<10 by decide) hB)]; exact h.order j hj,fun j hj=>by rw [l.cell (p:=⟨4,j,none⟩) (xnL (show 4<10 by decide) hB)]; exact h.place j hj,xnT h.size l.size⟩
theorem BGlob.four {w:World} (h:BGlob w) (k:Nat) (hk:k<8):w.cell? ⟨4,k*4,none⟩=some (.int .u8 (pA k))∧w.cell? ⟨4,k*4+1,none⟩=some (.int .u8 (pB k))∧w.cell? ⟨4,k*4+2,none⟩=some (.int .u8 (pC k))∧w.cell? ⟨4,k*4+3,none⟩=some (.int .u8 (pD k)):=by
 have e1:bplc (k*4)=(pA k:Int):=by unfold bplc; rw [if_pos (by omega),show k*4/4=k by omega]
 have e2:bplc (k*4+1)=(pB k:Int):=by unfold bplc; rw [if_neg (by omega),if_pos (by omega),show (k*4+1)/4=k by omega]
 have e3:bplc (k*4+2)=(pC k:Int):=by unfold bplc; rw [if_neg (by omega),if_neg (by omega),if_pos (by omega),show (k*4+2)/4=k by omega]
 have e4:bplc (k*4+3)=(pD k:Int):=by unfold bplc; rw [if_neg (by omega),if_neg (by omega),if_neg (by omega),show (k*4+3)/4=k by omega]
 rw [← e1,← e2,← e3,← e4]
 exact ⟨h.place _ (by omega),h.place _ (by omega),h.place _ (by omega),h.place _ (by omega)⟩
theorem BGlob.sg {w:World} (h:BGlob w) (r i:Nat) (hr:r<10) (hi:i<16):w.cell? ⟨5,r*16+i,none⟩=some (.int .u8 (sg r i)):=by
 have e:(sgL.getD (r*16+i) 0:Nat)=Go.Proofs.YtklnibmfpcmeeaaGreatDoor.sg r i:=by unfold Go.Proofs.YtklnibmfpcmeeaaGreatDoor.sg; rw [Nat.mul_comm]
 rw [← e]
 exact h.order _ (by omega)
structure SGlob (w:World):Prop where
 a:AGlob w
 b:BGlob w
theorem SGlob.size {w:World} (g:SGlob w):10≤w.heap.size:=g.b.size
theorem SGlob.below {w w':World} (g:SGlob w) (l:Below w.heap.size w w'):SGlob w':=⟨g.a.below l g.size,g.b.below l g.size⟩
theorem SGlob.mm {w w':World} (g:SGlob w) {l:List (Nat × List Value)} (h:Mm w l w'):SGlob w':=g.below h.below
structure HGlob13 (w:World):Prop where
 s:SGlob w
 k:kGlob w
 t:Trs w
theorem HGlob13.mm {w w':World} (g:HGlob13 w) {l:List (Nat × List Value)} (h:Mm w l w'):HGlob13 w':=⟨g.s.mm h,g.k.below h.below g.s.size,g.t.below h.below g.s.size⟩
def TakesOK (I:Value→Shk→List (Nat × List Value)→Prop) (F:FuncId) (r:Shk→List Int→Except Int (List Int × Shk)):Prop :=
 ∀ (w0 w:World) (v:Value) (s:Shk) (bs l:List (Nat × List Value)),HGlob13 w0→I v s bs→ShkW s→∀ (sp:Option Addr) (cap:Nat) (b:List Int),b.length≤140737488351232→b.length≤cap→(sp=none→cap=0)→Byts b →
  Mm w0 (bs++l) w→SrcA (bs.map Prod.fst) w sp b.length (bl b) →
  Calls Tryz.prog F #[v,.slice sp b.length cap] w fun e w'=>(∃ u,e=.returned (.tuple #[u,.int .i64 (shE (r s b))])∧NewL w' w.heap.size (shB (r s b)) u)∧∃ bs',I v (shN s (r s b)) bs'∧(∀ p∈bs',p.1∈bs.map Prod.fst)∧Mm w0 (bs'++l) w'∧Off (bs.map Prod.fst) w w'
structure ShkOK (I:Value→Shk→List (Nat × List Value)→Prop):Prop where
 ptr:∀ v s bs,I v s bs→∃ R,v=.pointer (some ⟨R,0,none⟩)
 beg:∀ (w0 w:World) (l:List (Nat × List Value)) (a d:Nat→Int) (B:List Int),HGlob13 w0→In 256 32 a→In 256 32 d→B.length=32→Byts B→Mm w0 l w →
  Calls Tryz.prog 20 #[(.agg (row .u8 32 (a)).toArray),(.agg (row .u8 32 (d)).toArray),(.agg (row .u8 32 (bl B)).toArray)] w fun e w'=>∃ v bs,e=.returned v∧I v (shBegin a d B) bs∧(∀ p∈bs,w.heap.size≤p.1)∧Mm w0 (bs++l) w'∧Below w.heap.size w w'
 awt:∀ (w0 w:World) (l:List (Nat × List Value)) (b f:Nat→Int),HGlob13 w0→In 256 32 b→In 256 32 f→Mm w0 l w →
  Calls Tryz.prog 22 #[(.agg (row .u8 32 (b)).toArray),(.agg (row .u8 32 (f)).toArray)] w fun e w'=>∃ v bs,e=.returned v∧I v (shAwait LD b f) bs∧(∀ p∈bs,w.heap.size≤p.1)∧Mm w0 (bs++l) w'∧Below w.heap.size w w'
 fst:TakesOK I 15 (shF LD)
 tfs:TakesOK I 16 (shTF LD)
 snd:TakesOK I 17 (shS LD)
 tsn:TakesOK I 18 (shTS LD)
 oth:∀ (w0 w:World) (v:Value) (s:Shk) (bs l:List (Nat × List Value)),HGlob13 w0→I v s bs→Mm w0 (bs++l) w →
  Calls Tryz.prog 13 #[v] w fun e w'=>e=.returned (.tuple #[(.agg (row .u8 32 (bl s.its)).toArray),.bool (shO s)])∧Below w.heap.size w w'
 kys:∀ (w0 w:World) (v:Value) (s:Shk) (bs l:List (Nat × List Value)),HGlob13 w0→I v s bs→ShkW s→Mm w0 (bs++l) w →
  Calls Tryz.prog 11 #[v] w fun e w'=>e=.returned (.tuple #[.agg (shK s).toArray,.bool (shD s)])∧Below w.heap.size w w'
theorem tm_shz (k:Nat→Int):tm k (bl shz)=0:=by
 have hz:kz (mask (bl shz))=0:=by
  have:val 256 (mask (bl shz)) 32=0:=(val_nought _ (mask_in _ (fun j hj=>(show Byts shz from fun x hx=>by rw [List.eq_of_mem_replicate hx]; exact ⟨Int.le_refl _,by decide⟩).bl j (by rw [show shz.length=32 from rfl]; exact hj)))).2 (by decide)
  unfold kz
  rw [this]
  rfl
 unfold tm
 rw [hz]
 exact Ed.nought inz inz_zero cz _
theorem shF_shz (a d:Nat→Int):shF LD (shBegin a d shz) []=.error 20:=shF_z1 (by unfold shBegin; simp) (by decide) (tm_shz d)
section
section
variable {w0 w:World} {g x t:List (Nat × List Value)}
theorem Mm.los (h:Mm w0 (g++t) w):∀ b∈g.map Prod.fst,w0.heap.size≤b:=fun b hb=>by
 obtain ⟨p,hp,rfl⟩:=List.mem_map.1 hb
 exact (h.rows p (List.mem_append_left _ hp)).2.1
theorem Mm.lts (h:Mm w0 (g++t) w):∀ b∈g.map Prod.fst,b<w.heap.size:=fun b hb=>by
 obtain ⟨p,hp,rfl⟩:=List.mem_map.1 hb
 exact (h.rows p (List.mem_append_left _ hp)).2.2
theorem Mm.beside (h:Mm w0 (g++t) w) {B:Nat} {c:List Value} (hB:(B,c)∈t):B∉g.map Prod.fst:=fun hb=>by
 obtain ⟨p,hp,e⟩:=List.mem_map.1 hb
 exact (List.pairwise_append.1 h.apart).2.2 p hp (B,c) hB e
end
section
variable {α:Type} (x a b c g t:List α)
theorem pull0:(x++(g++t)).Perm (g++(x++t)):=by
 rw [← List.append_assoc,← List.append_assoc]
 exact List.perm_append_comm.append_right t
theorem pull1:(x++(a++(g++t))).Perm (g++(x++(a++t))):=by
 have:=pull0 (x++a) g t
 rw [List.append_assoc,List.append_assoc] at this
 exact this
theorem pull2:(x++(a++(b++(g++t)))).Perm (g++(x++(a++(b++t)))):=by
 have:=pull1 (x++a) b g t
 rw [List.append_assoc,List.append_assoc] at this
 exact this
end
end
end Go.Proofs.YtklnibmfpcmeeaaGreatDoor
