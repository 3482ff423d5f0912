/- Texts of Ps Iy Iz Sl Sg Sj, joined. -/
import Derived.Test.YtknodedhcdpbiaaGreatDoorP12GuardNonces
import Derived.Test.YtknodedhcdpbiaaGreatDoorP10GuardNonces
set_option maxRecDepth 20000
set_option maxHeartbeats 64000000
namespace Go.Proofs.YtknodedhcdpbiaaGreatDoor
open Go.RowKit
theorem Has.mid {w:World} {b:Nat} {k:IntKind} {n:Nat} {f:Nat→Int} (h:Has w b k n f) (o m:Nat) (ho:o+m≤n):w.rangeAt b o (row k m (fun j=>f (o+j))):=fun j v hv=>by
 obtain ⟨hj,rfl⟩:=row_get_some hv
 exact h.cell (o+j) (by omega)
theorem pfactor_any (r:Nat→Int) (hr:In 256 16 r) (w:World) (hg:Glob w) :
 Calls Tryz.prog 74 #[(.agg (row .u8 16 (r)).toArray)] w fun e w'=>e=.returned (.agg (row .u8 17 (byB (trimT r))).toArray)∧Below w.heap.size w w':=by
 have K:=Kr.init w; replace K:=K.box .u8 16 r 89 (w.heap.size) rfl; replace K:=K.make 17 zu8_17 131 (w.heap.size+1) (by simp) (big_zero _ _ _ (by simp)).there
 go_enter Tryz.func74,Tryz.ntmps74
 go_upto_region 1 with fail; generalize ((w.alloc (.cells (row .u8 16 r).toArray 89)).alloc (.cells zu8_17 131))=w0 at K ⊢; refine wp_region_list ?_; refine rowKL .u8 16 (r) (w.heap.size) 0 89 _ _ rfl rfl rfl Tryz.underlying89 rfl (tag_info _) ((K.get _ _ _ _ mS).range) ?_; simp only [aP,lI,l0,lS]; refine xcL (ctrim_any r hr _ (hg.below K.below hg.size)) ?_; rintro e w1 ⟨rfl,l⟩
 replace K:=K.call l; clear l; refine xeL ?_; refine storesL .u8 16 (trimT r) (w.heap.size) 89 _ _ rfl rfl rfl rfl (tag_there (K.get _ _ _ _ mS)) (tag_info' _) ?_; simp only [Act.put]; replace K:=K.set [] (w.heap.size) .u8 16 r (trimT r) mS (fun _ hp=>by cases hp) (fun _ hp=>by cases hp) (xnR _); generalize w1.setCells (w.heap.size) 0 (row .u8 16 (trimT r))=w2 at K ⊢
 show Exit.then _ _ _ _ _; go_upto_region 2 with fail; have zX:=K.size; replace K:=K.boxO .u8 17 (fun _=>0) (.cells zu8_17 131) w2.heap.size rfl (big_zero _ _ _ rfl); go_upto_region 3 with fail; generalize hw:w2.alloc (.cells zu8_17 131)=w3 at K ⊢; clear hw; generalize w2.heap.size=X at *; have HR:=K.get _ _ _ _ mS
 replace K:=K.loose [(w.heap.size,.u8,16,trimT r)] X .u8 17 (fun _=>0) mS (fun p hp=>by obtain rfl:=xm1 hp; exact (mT _ mS)) (fun p hp=>by obtain rfl:=xm1 hp; simp only; omega) (by omega); refine wp_region_held_drew (S:=fun w'=>Kr w (X+1) [(w.heap.size,.u8,16,trimT r)] [(X,17),(w.heap.size+1,17)] w') (by kernel_rfl) K.drew ?_; clear K; intro K; replace HR:=HR.drew
 generalize w3.drew=w4 at K HR ⊢; refine xpH 0 6 (.slice (some ⟨X,0,none⟩) 17 17) K ?_; refine xpH 1 7 (.slice (some ⟨w.heap.size,0,none⟩) 16 16) K ?_
 refine actH (i:=2) (some 8) rfl (.int .i64 ((16:Nat):Int)) (by kernel_rfl) rfl rfl (run_copy_src _ _ 29 29 5 rfl Tryz.underlying29 (by kernel_rfl) X 17 17 16 16 17 (some ⟨w.heap.size,0,none⟩) (trimT r) rfl rfl (by decide) (by decide) HR.there (K.get _ _ _ _ mS).src0) (K.fill X 17 mS (row .u8 16 (trimT r))) ?_; simp only [aP,lI,l0,lS]
 refine wpAnyH_done (by kernel_rfl) ?_ _
 replace K:=K.fill X 17 mS (row .u8 16 (trimT r))
 replace HR:=(HR.part 0 16 (by decide) (trimT r)).congr (g:=byB (trimT r)) (fun j hj=>by
  unfold over byB
  by_cases e:j<16
  · rw [if_pos (by omega),if_pos e,Nat.sub_zero]
  · rw [if_neg (by omega),if_neg e])
 generalize w4.setCells X 0 (row .u8 16 (trimT r))=w5 at K HR ⊢; go_upto_region 4 with fail; have hz:=(K.room _ (mT _ mS)).1; have hB:=(K.fill _ _ (mT _ mS) (row .u8 17 (byB (trimT r)))).below; clear K; generalize hj:byB (trimT r)=f at *
 go_wp2_with (first | (refine wpList_load_mid rfl 131 _ rfl (X) 0 rfl (row .u8 17 (f)) _ (Has.range (HR)) Tryz.underlying131 rfl (big_info _) ?_) | (refine wpList_store_mid rfl 131 _ _ rfl (w.heap.size+1) 0 (row .u8 17 f).toArray rfl rfl (room_of hz) (big_info' _) (all_oneCell_toArray (row_one _ _ _)) ?_))
 exact bodyPost_ret (v:=(.agg (row .u8 17 (f)).toArray)) (results_row Tryz.results74 rfl (Has.all hz .u8 f).range Tryz.underlying131 rfl (big_info f)) rfl ⟨rfl,hB⟩
theorem pnumber_any (sp:Option Addr) (len cap:Nat) (z:Nat→Int) (w:World) (hs:Src w sp len z) :
 Calls Tryz.prog 77 #[.slice sp len cap] w fun e w'=>e=.returned (.agg (row .u8 17 (blk len z)).toArray)∧Below w.heap.size w w':=by
 have K:=Kr.init w; replace K:=K.make 17 zu8_17 131 (w.heap.size) rfl (big_zero _ _ _ rfl).there
 go_enter Tryz.func77,Tryz.ntmps77
 go_upto_region 1 with fail; generalize (w.alloc (.cells zu8_17 131))=w0 at K ⊢; refine wp_region_list ?_; refine xpL (.slice sp len cap) ?_; refine xcL (cblock_any sp len cap z _ (hs.below K.below (xnR _))) ?_; rintro e w1 ⟨rfl,l⟩; replace K:=K.call l; clear l; refine xeL ?_; refine xpL (.tuple #[.agg (row .u8 17 (blk len z)).toArray,.int .i64 (blkE len)]) ?_
 refine xpL (.agg (row .u8 17 (blk len z)).toArray) ?_; refine xpL (.int .i64 (blkE len)) ?_; refine allocL zu8_17 131 rfl (fun _=>by kernel_rfl) ?_; simp only [aP,lI,l0,lS]; refine storesL .u8 17 (blk len z) w1.heap.size 131 _ _ rfl rfl rfl rfl (room_of (big_zero _ _ _ rfl).there) (big_info' _) ?_; simp only [Act.put]; have zG:=K.size
 replace K:=K.fresh .u8 17 (blk len z) zu8_17 131 (big_zero _ _ _ rfl).there; generalize ((w1.alloc (.cells zu8_17 131)).setCells w1.heap.size 0 (row .u8 17 (blk len z)))=w2 at K ⊢; generalize w1.heap.size=G at *; refine xpL (.int .i64 (blkE len)) ?_; show Exit.then _ _ _ _ _; go_upto_region 2 with fail; have HR:=K.get _ _ _ _ mS; have hz:=(K.room _ mS).1
 have hB:=(K.fill _ _ mS (row .u8 17 (blk len z))).below; clear K hs; generalize hj:blk len z=f at *
 go_wp2_with (first | (refine wpList_load_mid rfl 131 _ rfl (G) 0 rfl (row .u8 17 (f)) _ (Has.range (HR)) Tryz.underlying131 rfl (big_info _) ?_) | (refine wpList_store_mid rfl 131 _ _ rfl (w.heap.size) 0 (row .u8 17 f).toArray rfl rfl (room_of hz) (big_info' _) (all_oneCell_toArray (row_one _ _ _)) ?_))
 exact bodyPost_ret (v:=(.agg (row .u8 17 (f)).toArray)) (results_row Tryz.results77 rfl (Has.all hz .u8 f).range Tryz.underlying131 rfl (big_info f)) rfl ⟨rfl,hB⟩
theorem psum_any:SumOK:=by
 intro k hk sp len cap hlen hcap z hz w hg hs
 have hk1:In 256 16 k:=fun j hj=>hk j (by omega)
 have hk2:In 256 16 (fun j=>k (16+j)):=fun j hj=>hk (16+j) (by omega)
 have K:=Kr.init w; replace K:=K.box .u8 32 k 23 (w.heap.size) rfl; replace K:=K.make 16 zu8_16 89 (w.heap.size+1) (by simp) (tag_zero _ _ _ (by simp)).there
 go_enter Tryz.func56,Tryz.ntmps56
 go_upto_region 1 with fail; generalize ((w.alloc (.cells (row .u8 32 k).toArray 23)).alloc (.cells zu8_16 89))=w0 at K ⊢; refine wp_region_list ?_; refine xpL (.slice (some ⟨w.heap.size,0,none⟩) 16 32) ?_; refine xpL (.pointer (some ⟨w.heap.size,0,none⟩)) ?_
 refine rowKL .u8 16 k (w.heap.size) 0 89 _ _ rfl rfl rfl Tryz.underlying89 rfl (tag_info _) (by have h:=(K.get _ _ _ _ mS).mid 0 16 (by decide); simpa using h) ?_
 simp only [aP,lI,l0,lS]; refine xcL (pfactor_any k hk1 _ (hg.below K.below hg.size)) ?_; rintro e w1 ⟨rfl,l⟩; replace K:=K.call l; clear l; refine xeL ?_; refine allocL zu8_17 131 rfl (fun _=>by kernel_rfl) ?_; simp only [aP,lI,l0,lS]; refine storesL .u8 17 (byB (trimT k)) w1.heap.size 131 _ _ rfl rfl rfl rfl (room_of (big_zero _ _ _ rfl).there) (big_info' _) ?_; simp only [Act.put]
 have zT:=K.size; replace K:=K.fresh .u8 17 (byB (trimT k)) zu8_17 131 (big_zero _ _ _ rfl).there; generalize ((w1.alloc (.cells zu8_17 131)).setCells w1.heap.size 0 (row .u8 17 (byB (trimT k))))=w2 at K ⊢; generalize w1.heap.size=T at *; show Exit.then _ _ _ _ _; go_upto_region 2 with fail; have zX:=K.size
 replace K:=K.boxO .u8 17 (fun _=>0) (.cells zu8_17 131) w2.heap.size rfl (big_zero _ _ _ rfl); go_upto_region 3 with fail; generalize hw:w2.alloc (.cells zu8_17 131)=w5 at K ⊢; clear hw; generalize w2.heap.size=X at *; go_wp2
 go_loopw [7] (fun i w'=>∃ (t:Nat) (a:Nat→Int),16*t<len+16∧i=.int .i64 (16*(t:Int))∧Kr w (X+1) [(X,.u8,17,a),(T,.u8,17,byB (trimT k)),(w.heap.size,.u8,32,k)] [(w.heap.size+1,16)] w'∧In 256 17 a∧val 256 a 17=acc (pR k) len z t) (fun i _=>len+16-(intOf i).toNat)
 case atStart=>exact ⟨0,_,by omega,rfl,K,fun _ _=>⟨Int.le_refl 0,(by decide:(0:Int)<256)⟩,by show val 256 (fun _=>0) 17=0; decide⟩
 case round =>
  clear K
  obtain ⟨t,a,ht,rfl,K,ha,hv⟩:=hrel
  have g1:(0:Int)≤16*(t:Int):=by omega
  by_cases hlt:16*t<len
  · have g2:16*(t:Int)<(len:Int):=by omega
    obtain ⟨M,hM⟩:∃ M:Nat,M=min (16*t+16) len:=⟨_,rfl⟩
    have hm:(if (len:Int)<16*(t:Int)+16 then (len:Int) else 16*(t:Int)+16)=(M:Int):=by rw [hM]; split <;> omega
    obtain ⟨sq,hq1,hq2⟩:=cut_lh (P:=Tryz.prog) (t:=29) (by kernel_rfl) (fun _=>by kernel_rfl) sp len cap (16*t) M (by omega) (by omega) hcap
    have hpc:M-16*t=pcN len t:=by unfold pcN; omega
    rw [hpc] at hq1 hq2
    have ec:((16*t:Nat):Int)=16*(t:Int):=by omega
    rw [ec] at hq1
    go_upto_region 6 with fail; refine wp_region_C (S:=fun w'=>Kr w (X+1) [(X,.u8,17,a),(T,.u8,17,byB (trimT k)),(w.heap.size,.u8,32,k)] [(w.heap.size+1,16)] w') 13 (by kernel_rfl) K.drew ?_; clear K; intro K
    refine rowC (i:=0) (some 18) rfl .u8 17 (a) (X) 0 131 _ _ rfl rfl (by kernel_rfl) rfl rfl rfl (by kernel_rfl) (by kernel_rfl) (by kernel_rfl) (by kernel_rfl) (fun _ _ _ h=>h) Tryz.underlying131 rfl (big_info _) K (fun _ h=>(h.get _ _ _ _ mS).range) ?_; simp only [aP,lI,l0,lS]; refine xpC 1 19 (.slice sp len cap) K ?_; refine xpC 2 20 (.int .i64 (16*(t:Int))) K ?_
    refine xpC 3 21 (.int .i64 (16*(t:Int))) K ?_; refine xqC 4 22 rfl (.int .i64 (16*(t:Int)+16)) (fun w=>addI .i64 _ _ _ _ _ _ _ rfl rfl rfl (by rw [xw6]; omega) w) K ?_; refine xpC 5 23 (.slice sp len cap) K ?_
    refine rowC (i:=11) (some 29) rfl .u8 17 (byB (trimT k)) (T) 0 131 _ _ rfl rfl (by kernel_rfl) rfl rfl rfl (by kernel_rfl) (by kernel_rfl) (by kernel_rfl) (by kernel_rfl) (fun _ _ _ h=>h) Tryz.underlying131 rfl (big_info _) K (fun _ h=>(h.get _ _ _ _ (mT _ mS)).range) ?_; simp only [aP,lI,l0,lS]
    refine xqC 6 24 rfl (.int .i64 (len:Int)) (fun w=>lenS _ 29 5 sp len cap rfl Tryz.underlying29 rfl w) K ?_; refine xqC 7 25 rfl (.int .i64 (M:Int)) (fun w=>minI .i64 .i64 _ _ _ _ _ _ _ rfl rfl rfl hm w) K ?_; refine xqC 8 26 rfl (.slice sq (pcN len t) (cap-16*t)) (fun w=>cutLHop _ _ _ _ _ _ _ _ rfl rfl rfl rfl (hq1 w)) K ?_
    refine callMC (i:=9) (some 27) rfl (by kernel_rfl) rfl rfl (fun _=>by kernel_rfl) (pnumber_any sq (pcN len t) (cap-16*t) (fun j=>z (16*t+j)) _ ((hq2 _ _ hs).below K.below (xnR _))) ?_; rintro e w9 ⟨rfl,l⟩; replace K:=K.call l; clear l
    refine ⟨_,rfl,K,?_⟩
    simp only [aP,lI,l0,lS]; refine callMC (i:=10) (some 28) rfl (by kernel_rfl) rfl rfl (fun _=>by kernel_rfl) (cadd_any a (piece len z t) ha (piece_in len z t hz) _ (hg.below K.below hg.size)) ?_; rintro e w11 ⟨f1,rfl,s1,l⟩; replace K:=K.call l; clear l
    refine ⟨_,rfl,K,?_⟩
    simp only [aP,lI,l0,lS]; refine callMC (i:=12) (some 30) rfl (by kernel_rfl) rfl rfl (fun _=>by kernel_rfl) (cmul_any f1 (byB (trimT k)) s1.1 (byB_in _ (trimT_in k hk1)) _ (hg.below K.below hg.size)) ?_; rintro e w12 ⟨f2,rfl,s2,l⟩; replace K:=K.call l; clear l
    refine ⟨_,rfl,K,?_⟩
    simp only [aP,lI,l0,lS]; refine storesC (S2:=fun _=>True) none rfl .u8 17 f2 X 131 _ _ (by kernel_rfl) rfl rfl rfl rfl rfl (big_there (K.get _ _ _ _ mS)) (big_info' _) (by kernel_rfl) ?_; simp only [Act.put]
    refine wpAnyH_done (by kernel_rfl) ?_ _
    have hv2:val 256 f2 17=acc (pR k) len z (t+1):=acc_step (by rw [s1.2,hv]) (byB_val (trimT k)) s2.2
    replace K:=K.set [(T,.u8,17,byB (trimT k)),(w.heap.size,.u8,32,k)] X .u8 17 a f2 mS (fun p hp=>by rcases xc1 hp with rfl | hp; exact (mT _ mS); obtain rfl:=xm1 hp; exact (mI 2 rfl)) (fun p hp=>by rcases xc1 hp with rfl | hp; simp only; omega; obtain rfl:=xm1 hp; simp only; omega) (by omega); have HS:=show Hid _ from (And.intro K (And.intro s2.1 hv2))
    clear K s1 s2 hv hv2 ha hm hM hq1 hq2 hpc ec; generalize w12.setCells X 0 (row .u8 17 f2)=w13 at HS ⊢; go_wp2
    go_roundw
    case rel=>first | exact ⟨t+1,f2,by omega,by go_num,HS.out⟩ | ((repeat apply Exists.intro); refine ⟨⟨t+1,f2,by omega,by go_num,HS.out⟩,rfl⟩)
    case measure=>simp [intOf]; omega
  · obtain rfl:t=npc len:=by unfold npc; omega
    go_upto_region 7 with fail; refine wp_region_C (S:=fun w'=>Kr w (X+1) [(X,.u8,17,a),(T,.u8,17,byB (trimT k)),(w.heap.size,.u8,32,k)] [(w.heap.size+1,16)] w') 5 (by kernel_rfl) K.drew ?_; clear K; intro K
    refine rowC (i:=0) (some 31) rfl .u8 17 (a) (X) 0 131 _ _ rfl rfl (by kernel_rfl) rfl rfl rfl (by kernel_rfl) (by kernel_rfl) (by kernel_rfl) (by kernel_rfl) (fun _ _ _ h=>h) Tryz.underlying131 rfl (big_info _) K (fun _ h=>(h.get _ _ _ _ mS).range) ?_; simp only [aP,lI,l0,lS]; refine xpC 1 32 (.slice (some ⟨w.heap.size,16,none⟩) 16 16) K ?_
    refine xpC 2 33 (.pointer (some ⟨w.heap.size,16,none⟩)) K ?_; refine rowC (i:=3) (some 34) rfl .u8 16 (fun j=>k (16+j)) (w.heap.size) 16 89 _ _ rfl rfl (by kernel_rfl) rfl rfl rfl (by kernel_rfl) (by kernel_rfl) (by kernel_rfl) (by kernel_rfl) (fun _ _ _ h=>h) Tryz.underlying89 rfl (tag_info _) K (fun _ h=>(h.get _ _ _ _ (mI 2 rfl)).mid 16 16 (by decide)) ?_
    simp only [aP,lI,l0,lS]; refine callMC (i:=4) (some 35) rfl (by kernel_rfl) rfl rfl (fun _=>by kernel_rfl) (clow_any a (fun j=>k (16+j)) ha hk2 _ (hg.below K.below hg.size)) ?_; rintro e w9 ⟨f,rfl,s1,l⟩; replace K:=K.call l; clear l
    refine ⟨_,rfl,K,?_⟩
    simp only [aP,lI,l0,lS]
    have hz':=(K.room _ mS).1
    refine storesC (S2:=fun _=>True) none rfl .u8 16 f (w.heap.size+1) 89 _ _ (by kernel_rfl) rfl rfl rfl rfl rfl (room_of hz') (tag_info' _) (by kernel_rfl) ?_; simp only [Act.put]
    refine wpAnyH_done (by kernel_rfl) ?_ _
    have hB:=(K.fill _ _ mS (row .u8 16 f)).below; have HE:=show Hid _ from (And.intro s1.1 (show val 256 f 16=ptag k len z by rw [s1.2,hv]; rfl)); clear K s1 hv ha hlt ht g1; go_wp2
    exact bodyPost_ret (v:=(.agg (row .u8 16 (f)).toArray)) (results_row Tryz.results56 rfl (Has.all hz' .u8 f).range Tryz.underlying89 rfl (tag_info f)) rfl ⟨f,rfl,HE.out,hB⟩
theorem or_byte (d x y:Int) (hd:0≤d∧d<256) (hx:0≤x∧x<256) (hy:0≤y∧y<256) :
 (0≤bits .or .u8 d (bits .xor .u8 x y)∧bits .or .u8 d (bits .xor .u8 x y)<256)∧(bits .or .u8 d (bits .xor .u8 x y)=0↔d=0∧x=y):=by
 obtain ⟨d,rfl⟩:=xiN hd.1
 obtain ⟨x,rfl⟩:=xiN hx.1
 obtain ⟨y,rfl⟩:=xiN hy.1
 have h1:x ^^^ y<2^8:=Nat.xor_lt_two_pow (by omega) (by omega)
 have h2:d ||| (x ^^^ y)<2^8:=Nat.or_lt_two_pow (by omega) h1
 rw [u8_xor_nat x y (by omega) (by omega),u8_or_nat d _ (by omega) (by omega)]
 refine ⟨by omega,?_⟩
 have e:((d ||| (x ^^^ y):Nat):Int)=0↔d ||| (x ^^^ y)=0:=by omega
 have e2:x ^^^ y=0↔x=y:=by
  constructor
  · intro h
    have h':x ^^^ (x ^^^ y)=x:=by rw [h,Nat.xor_zero]
    rw [← Nat.xor_assoc,Nat.xor_self,Nat.zero_xor] at h'
    exact h'.symm
  · intro h; rw [h,Nat.xor_self]
 rw [e,Nat.or_eq_zero_iff,e2]
 omega
theorem orI {P:Program} {o:Oper} {a:Act} (k:IntKind) (n n' r:Int) (t t':TypeId) (x y:Operand) (ho:o.op=.binOp .or t x y t') (hx:a.eval x=.int k n) (hy:a.eval y=.int k n') (hr:bits .or k n n'=r) (w:World):(execOp a.eval o).run P w=.ok (.value (.int k r)) w:=by
 unfold execOp
 simp only [ho,hx,hy,Sem.run_bind,eqGuard_at_int,binOp_or,intBits_or,Sem.run_pure,Result.andThen_ok,hr]
theorem same_iff (a b:Nat→Int) (ha:In 256 16 a) (hb:In 256 16 b) (d:Int) (h:d=0↔∀ j,j<16→a j=b j):(d == 0)=decide (val 256 a 16=val 256 b 16):=by
 have e:d=0↔val 256 a 16=val 256 b 16:=h.trans ⟨fun h=>val_congr 256 16 h,fun h=>val_inj 256 (by decide) a b 16 ha hb h⟩
 by_cases hd:d=0
 · rw [decide_eq_true (e.1 hd),hd]; rfl
 · rw [decide_eq_false (fun h=>hd (e.2 h))]; simpa using hd
theorem psame_any:SameOK:=by
 intro a b ha hb w _; have K:=((Kr.init w).box .u8 16 a 89 (w.heap.size) rfl).box .u8 16 b 89 (w.heap.size+1) (by simp)
 go_enter Tryz.func67,Tryz.ntmps67
 go_upto_region 1 with fail; generalize ((w.alloc (.cells (row .u8 16 a).toArray 89)).alloc (.cells (row .u8 16 b).toArray 89))=w0 at K ⊢; go_wp2
 go_loopw [5,7] (fun so i w'=>∃ (m:Nat) (d:Int),m≤16∧i=.int .i64 m∧so=.int .u8 d∧Kr w (w.heap.size+1+1) [(w.heap.size+1,.u8,16,b),(w.heap.size,.u8,16,a)] [] w'∧(0≤d∧d<256)∧(d=0↔∀ j,j<m→a j=b j)) (fun _ i _=>16-(intOf i).toNat)
 case atStart=>exact ⟨0,0,by omega,rfl,rfl,K,by omega,by simp⟩
 case round =>
  clear K
  obtain ⟨m,d,hm,rfl,rfl,K,hd,hz⟩:=hrel
  have g1:(0:Int)≤(m:Int):=by omega
  by_cases hlt:m<16
  · have g2:(m:Int)<16:=by omega
    go_upto_region 5 with fail; refine wp_region_held_drew (S:=fun w'=>Kr w (w.heap.size+1+1) [(w.heap.size+1,.u8,16,b),(w.heap.size,.u8,16,a)] [] w') (by kernel_rfl) K.drew ?_; clear K; intro K; generalize wr.drew=w1 at K ⊢; refine xpH 0 10 (.int .u8 d) K ?_; refine xpH 1 11 (.int .i64 (m:Int)) K ?_
    refine xqH 2 12 rfl (.pointer (some ⟨w.heap.size,m,none⟩)) (fun w'=>idxTag (w.heap.size) m hlt w' _ _ rfl rfl rfl) K ?_; refine cellH (i:=3) (some 13) rfl .u8 (.int .u8 (a m)) (w.heap.size) m 5 _ rfl rfl rfl rfl (by kernel_rfl) (by kernel_rfl) (by kernel_rfl) (fun _ _ _ h=>h) Tryz.underlying5 K (fun _ h=>(h.get _ _ _ _ (mT _ mS)).cell m hlt) ?_; simp only [aP,lI,l0,lS]
    refine xpH 4 14 (.int .i64 (m:Int)) K ?_; refine xqH 5 15 rfl (.pointer (some ⟨w.heap.size+1,m,none⟩)) (fun w'=>idxTag (w.heap.size+1) m hlt w' _ _ rfl rfl rfl) K ?_
    refine cellH (i:=6) (some 16) rfl .u8 (.int .u8 (b m)) (w.heap.size+1) m 5 _ rfl rfl rfl rfl (by kernel_rfl) (by kernel_rfl) (by kernel_rfl) (fun _ _ _ h=>h) Tryz.underlying5 K (fun _ h=>(h.get _ _ _ _ mS).cell m hlt) ?_; simp only [aP,lI,l0,lS]; refine xqH 7 17 rfl (.int .u8 (bits .xor .u8 (a m) (b m))) (fun w=>xorI .u8 _ _ _ _ _ _ _ rfl rfl rfl rfl w) K ?_
    refine xqH 8 18 rfl (.int .u8 (bits .or .u8 d (bits .xor .u8 (a m) (b m)))) (fun w=>orI .u8 _ _ _ _ _ _ _ rfl rfl rfl rfl w) K ?_; refine xpH 9 5 (.int .u8 (bits .or .u8 d (bits .xor .u8 (a m) (b m)))) K ?_
    refine wpAnyH_done (by kernel_rfl) ?_ _
    have ho:=or_byte d (a m) (b m) hd (ha m hlt) (hb m hlt)
    have HS:=show Hid _ from (And.intro K (And.intro ho.1 (show bits .or .u8 d (bits .xor .u8 (a m) (b m))=0↔∀ j,j<m+1→a j=b j from by
     rw [ho.2,hz]
     constructor
     · intro h j hj
       by_cases e:j=m
       · subst e; exact h.2
       · exact h.1 j (by omega)
     · intro h
       exact ⟨fun j hj=>h j (by omega),h m (by omega)⟩)))
    clear K hz ho; generalize bits .or .u8 d (bits .xor .u8 (a m) (b m))=d2 at HS ⊢; go_wp2
    go_roundw
    case rel=>first | exact ⟨m+1,d2,by omega,by go_num,rfl,HS.out⟩ | ((repeat apply Exists.intro); refine ⟨⟨m+1,d2,by omega,by go_num,rfl,HS.out⟩,rfl⟩)
    case measure=>simp [intOf]; omega
  · obtain rfl:m=16:=by omega
    clear hlt hm g1; have hr:=same_iff a b ha hb d hz; have hB:=K.below; clear K hz; go_upto_region 7 with fail; refine wp_region_list ?_; refine xpL (.int .u8 d) ?_; refine xqL (.bool (decide (val 256 a 16=val 256 b 16))) (fun w=>eqlI .u8 _ _ _ _ _ _ rfl rfl rfl _ hr w) ?_; refine xpL (.bool (decide (val 256 a 16=val 256 b 16))) ?_; show Exit.then _ _ _ _ _; go_wp2; go_ret
    exact ⟨rfl,hB⟩
theorem byt_dig (x:Nat):∀ j,j<8→byt (x:Int) j=dig x j
 | 0,_=>by show (x:Int)%256=((x/1%256:Nat):Int); omega
 | 1,_=>by show (x:Int)/256%256=((x/256%256:Nat):Int); omega
 | 2,_=>by show (x:Int)/65536%256=((x/65536%256:Nat):Int); omega
 | 3,_=>by show (x:Int)/16777216%256=((x/16777216%256:Nat):Int); omega
 | 4,_=>by show (x:Int)/4294967296%256=((x/4294967296%256:Nat):Int); omega
 | 5,_=>by show (x:Int)/1099511627776%256=((x/1099511627776%256:Nat):Int); omega
 | 6,_=>by show (x:Int)/281474976710656%256=((x/281474976710656%256:Nat):Int); omega
 | 7,_=>by show (x:Int)/72057594037927936%256=((x/72057594037927936%256:Nat):Int); omega
 | _+8,h=>by omega
theorem cat3 (bl:Nat) (b:Nat→Int) (sl:Nat) (s:Nat→Int) (j:Nat):catz (pk3 (up16 bl) (up16 sl) 16) (pk3 (padz bl b) (padz sl s) (app (dig bl) 8 (dig sl))) 3 j=amx bl b sl s j:=by
 show app (app (app (fun _=>0) 0 (padz bl b)) (0+up16 bl) (padz sl s)) (0+up16 bl+up16 sl) (app (dig bl) 8 (dig sl)) j=_
 unfold amx
 generalize up16 bl=x; generalize up16 sl=y; simp only [app,Nat.zero_add,xnZ,if_false,Nat.sub_zero]
 by_cases h1:j<x+y
 · rw [if_pos h1,if_pos (show j<x+y+8 by omega),if_pos h1]
 · rw [if_neg h1]
   by_cases h2:j<x+y+8
   · rw [if_pos (by omega),if_pos h2,if_neg h1]
   · rw [if_neg (by omega),if_neg h2,show j-(x+y)-8=j-(x+y+8) by omega]
theorem once_any (k n:Nat→Int) (hk:In 256 32 k) (hn:In 256 12 n) (w:World) (hg:HGlob w) :
 Calls Tryz.prog 57 #[(.agg (row .u8 32 (k)).toArray),(.agg (row .u8 12 (n)).toArray)] w fun e w'=>e=.returned (.agg (row .u8 32 (hblk k 0 n)).toArray)∧Below w.heap.size w w':=by
 have K:=Kr.init w; replace K:=K.box .u8 32 k 23 (w.heap.size) rfl; replace K:=K.box .u8 12 n 75 (w.heap.size+1) (by simp); replace K:=K.make 32 zu8_32 23 (w.heap.size+1+1) (by simp) (key_zero _ _ _ (by simp)).there
 go_enter Tryz.func57,Tryz.ntmps57
 go_upto_region 1 with fail; generalize (((w.alloc (.cells (row .u8 32 k).toArray 23)).alloc (.cells (row .u8 12 n).toArray 75)).alloc (.cells zu8_32 23))=w0 at K ⊢; refine wp_region_list ?_; refine rowKL .u8 32 (k) (w.heap.size) 0 23 _ _ rfl rfl rfl Tryz.underlying23 rfl (key_info _) ((K.get _ _ _ _ (mT _ mS)).range) ?_; simp only [aP,lI,l0,lS]
 refine rowKL .u8 12 (n) (w.heap.size+1) 0 75 _ _ rfl rfl rfl Tryz.underlying75 rfl (hn_info _) ((K.get _ _ _ _ mS).range) ?_; simp only [aP,lI,l0,lS]; refine xcL (hblock_any k 0 n hk hn _ (hg.below K.below hg.size)) ?_; rintro e w1 ⟨rfl,l⟩; replace K:=K.call l; clear l; refine xeL ?_; refine allocL zu8_64 104 rfl (fun _=>by kernel_rfl) ?_; simp only [aP,lI,l0,lS]
 refine storesL .u8 64 (hblk k 0 n) w1.heap.size 104 _ _ rfl rfl rfl rfl (room_of (hb_zero _ _ _ rfl).there) (hb_info' _) ?_; simp only [Act.put]; have zX:=K.size; replace K:=K.fresh .u8 64 (hblk k 0 n) zu8_64 104 (hb_zero _ _ _ rfl).there; generalize ((w1.alloc (.cells zu8_64 104)).setCells w1.heap.size 0 (row .u8 64 (hblk k 0 n)))=w2 at K ⊢; generalize w1.heap.size=X at *
 show Exit.then _ _ _ _ _; go_upto_region 2 with fail; refine wp_region_list ?_; refine xpL (.slice (some ⟨X,0,none⟩) 32 64) ?_; refine xpL (.pointer (some ⟨X,0,none⟩)) ?_; refine rowKL .u8 32 (hblk k 0 n) X 0 23 _ _ rfl rfl rfl Tryz.underlying23 rfl (key_info _) ((K.get _ _ _ _ mS).head 32 (by decide)) ?_; simp only [aP,lI,l0,lS]
 have hz':=(K.room _ mS).1
 refine storesL .u8 32 (hblk k 0 n) (w.heap.size+1+1) 23 _ _ rfl rfl rfl rfl (room_of hz') (key_info' _) ?_; simp only [Act.put]; have hB:=(K.fill _ _ mS (row .u8 32 (hblk k 0 n))).below; clear K; generalize hGe:hblk k 0 n=G at *; show Exit.then _ _ _ _ _; go_wp2
 exact bodyPost_ret (v:=(.agg (row .u8 32 (G)).toArray)) (results_row Tryz.results57 rfl (Has.all hz' .u8 G).range Tryz.underlying23 rfl (key_info G)) rfl ⟨by first | rfl | rw [hGe] | (rw [← hGe]; done),hB⟩
theorem filled_any (sp:Option Addr) (len cap:Nat) (hlen:len≤140737488351232) (hcap:len≤cap) (z:Nat→Int) (w:World) (hs:Src w sp len z) :
 Calls Tryz.prog 58 #[.slice sp len cap] w fun e w'=>∃ sp' cap',e=.returned (.slice sp' (up16 len) cap')∧(up16 len≤cap'∧(sp'=none→cap'=0)∧Src w' sp' (up16 len) (padz len z))∧Below w.heap.size w w':=by
 have hu:up16 len=len+(16-len%16)%16:=by unfold up16; omega
 obtain ⟨q,hq1,hq2⟩:=cut_full (P:=Tryz.prog) (t:=29) (by kernel_rfl) (fun _=>by kernel_rfl) sp len cap hcap
 obtain ⟨p,c,w1,hr,hc,hp,hB,hn⟩:=run_append_full (P:=Tryz.prog) (w:=w) (ty:=29) Tryz.underlying29 Tryz.underlying3 one8 q len z (hq2 w z hs) ((16-len%16)%16) (by omega) (by omega)
 rw [hu]
 go_enter Tryz.func58,Tryz.ntmps58
 go_upto_region 1 with fail; refine wp_region_list ?_; refine xpL (.slice sp len cap) ?_; refine xpL (.slice sp len cap) ?_; refine xqL (.int .i64 (len:Int)) (fun w=>lenS _ 29 5 (sp) (len) (cap) rfl Tryz.underlying29 rfl w) ?_; refine xpL (.slice sp len cap) ?_; refine xqL (.int .i64 (len:Int)) (fun w=>lenS _ 29 5 (sp) (len) (cap) rfl Tryz.underlying29 rfl w) ?_
 refine xqL (.slice q len len) (fun w=>cutHMop _ _ _ _ _ _ _ _ rfl rfl rfl rfl (hq1 w)) ?_; refine xpL (.slice sp len cap) ?_; refine xqL (.int .i64 (len:Int)) (fun w=>lenS _ 29 5 (sp) (len) (cap) rfl Tryz.underlying29 rfl w) ?_
 refine xqL (.int .i64 ((len%16:Nat):Int)) (fun w=>remI .i64 _ _ _ _ _ _ _ rfl rfl rfl (by decide) (by rw [Int.tmod_eq_emod_of_nonneg (by omega)]; omega) w) ?_
 refine xqL (.int .i64 ((16-len%16:Nat):Int)) (fun w=>subI .i64 _ _ _ _ _ _ _ rfl rfl rfl (by rw [xw6]; omega) w) ?_
 refine xqL (.int .i64 (((16-len%16)%16:Nat):Int)) (fun w=>remI .i64 _ _ _ _ _ _ _ rfl rfl rfl (by decide) (by rw [Int.tmod_eq_emod_of_nonneg (by omega)]; omega) w) ?_
 refine xaL (.slice p (len+(16-len%16)%16) c) (appendNOp _ _ 29 3 _ _ _ rfl rfl rfl hr) ?_; refine xpL (.slice p (len+(16-len%16)%16) c) ?_; show Exit.then _ _ _ _ _; clear hr hq1 hq2 hu; go_wp2; go_ret
 exact ⟨p,c,rfl,⟨hc,hn,hp⟩,hB⟩
theorem tagOf_any (k n:Nat→Int) (hk:In 256 32 k) (hn:In 256 12 n) (bp:Option Addr) (bl bc:Nat) (hbl:bl≤140737488351232) (hbc:bl≤bc) (b:Nat→Int) (hb:In 256 bl b) (sp:Option Addr) (len cap:Nat) (hlen:len≤140737488351232) (hcap:len≤cap) (z:Nat→Int) (hz:In 256 len z) (w:World) (hg:AGlob w) (hsb:Src w bp bl b) (hs:Src w sp len z) :
 Calls Tryz.prog 37 #[(.agg (row .u8 32 (k)).toArray),(.agg (row .u8 12 (n)).toArray),.slice bp bl bc,.slice sp len cap] w fun e w'=>e=.returned (.agg (row .u8 16 (atag k n bl b len z)).toArray)∧Below w.heap.size w w':=by
 have K:=Kr.init w; replace K:=K.box .u8 32 k 23 (w.heap.size) rfl; replace K:=K.box .u8 12 n 75 (w.heap.size+1) (by simp); replace K:=K.make 16 zu8_16 89 (w.heap.size+1+1) (by simp) (tag_zero _ _ _ (by simp)).there; replace K:=K.boxO .u8 16 (fun _=>0) (.cells zu8_16 88) (w.heap.size+1+1+1) (by simp) (tag_zero _ _ _ (by simp))
 go_enter Tryz.func37,Tryz.ntmps37
 go_upto_region 2 with fail; generalize ((((w.alloc (.cells (row .u8 32 k).toArray 23)).alloc (.cells (row .u8 12 n).toArray 75)).alloc (.cells zu8_16 89)).alloc (.cells zu8_16 88))=w0 at K ⊢; refine wp_region_list ?_; refine xpL (.slice (some ⟨w.heap.size+1+1+1,0,none⟩) 16 16) ?_; refine xpL (.slice bp bl bc) ?_
 refine xqL (.int .i64 (bl:Int)) (fun w=>lenS _ 29 5 (bp) (bl) (bc) rfl Tryz.underlying29 rfl w) ?_; refine xqL (.int .u64 (bl:Int)) (fun w=>convI .i64 .u64 _ _ _ _ _ rfl (by kernel_rfl) Tryz.underlying107 (by kernel_rfl) rfl (by rw [IntKind.wrap_u64]; omega) w) ?_; refine xcL (put16_any (w.heap.size+1+1+1) 0 16 16 _ (bl:Int) (by decide) _ (K.get _ _ _ _ mS)) ?_
 rintro e w1 ⟨rfl,rfl⟩; replace K:=K.part [(w.heap.size+1,.u8,12,n),(w.heap.size,.u8,32,k)] (w.heap.size+1+1+1) .u8 16 _ 0 8 (by decide) (byt (bl:Int)) mS (fun p hp=>by rcases xc1 hp with rfl | hp; exact (mT _ mS); obtain rfl:=xm1 hp; exact (mI 2 rfl)) (fun p hp=>by rcases xc1 hp with rfl | hp; simp only; omega; obtain rfl:=xm1 hp; simp only; omega) (by omega)
 generalize w0.setCells (w.heap.size+1+1+1) 0 (row .u8 8 (byt (bl:Int)))=w1 at K ⊢; refine xeL ?_; show Exit.then _ _ _ _ _; go_upto_region 3 with fail; refine wp_region_list ?_; refine xpL (.slice (some ⟨w.heap.size+1+1+1,8,none⟩) 8 8) ?_; refine xpL (.slice sp len cap) ?_; refine xqL (.int .i64 (len:Int)) (fun w=>lenS _ 29 5 (sp) (len) (cap) rfl Tryz.underlying29 rfl w) ?_
 refine xqL (.int .u64 (len:Int)) (fun w=>convI .i64 .u64 _ _ _ _ _ rfl (by kernel_rfl) Tryz.underlying107 (by kernel_rfl) rfl (by rw [IntKind.wrap_u64]; omega) w) ?_; refine xcL (put_any (w.heap.size+1+1+1) 8 16 8 _ (len:Int) (by decide) _ (K.get _ _ _ _ mS)) ?_; rintro e w2 ⟨rfl,rfl⟩
 replace K:=K.part [(w.heap.size+1,.u8,12,n),(w.heap.size,.u8,32,k)] (w.heap.size+1+1+1) .u8 16 _ 8 8 (by decide) (byt (len:Int)) mS (fun p hp=>by rcases xc1 hp with rfl | hp; exact (mT _ mS); obtain rfl:=xm1 hp; exact (mI 2 rfl)) (fun p hp=>by rcases xc1 hp with rfl | hp; simp only; omega; obtain rfl:=xm1 hp; simp only; omega) (by omega)
 generalize w1.setCells (w.heap.size+1+1+1) 8 (row .u8 8 (byt (len:Int)))=w2 at K ⊢
 replace K:=K.headC (app (dig bl) 8 (dig len)) (fun j hj=>by
  unfold over app
  by_cases e:j<8
  · rw [if_neg (by omega),if_pos (by omega),if_pos e,Nat.sub_zero]; exact byt_dig bl j e
  · rw [if_pos (by omega),if_neg e]; exact byt_dig len (j-8) (by omega))
 refine xeL ?_; show Exit.then _ _ _ _ _; go_upto_region 4 with fail; refine wp_region_held_drew (S:=fun w'=>Kr w (w.heap.size+1+1+1+1) [(w.heap.size+1+1+1,.u8,16,(app (dig bl) 8 (dig len))),(w.heap.size+1,.u8,12,n),(w.heap.size,.u8,32,k)] [(w.heap.size+1+1,16)] w') (by kernel_rfl) K.drew ?_; clear K; intro K
 refine rowKH (i:=0) (some 20) rfl .u8 32 (k) (w.heap.size) 0 23 _ _ rfl rfl rfl rfl (by kernel_rfl) (by kernel_rfl) (by kernel_rfl) (fun _ _ _ h=>h) Tryz.underlying23 rfl (key_info _) K (fun _ h=>(h.get _ _ _ _ (mI 2 rfl)).range) ?_; simp only [aP,lI,l0,lS]
 refine rowKH (i:=1) (some 21) rfl .u8 12 (n) (w.heap.size+1) 0 75 _ _ rfl rfl rfl rfl (by kernel_rfl) (by kernel_rfl) (by kernel_rfl) (fun _ _ _ h=>h) Tryz.underlying75 rfl (hn_info _) K (fun _ h=>(h.get _ _ _ _ (mT _ mS)).range) ?_; simp only [aP,lI,l0,lS]; refine xpH 3 23 (.slice bp bl bc) K ?_; refine xpH 5 25 (.slice sp len cap) K ?_
 refine xpH 7 27 (.slice (some ⟨w.heap.size+1+1+1,0,none⟩) 16 16) K ?_; refine callH (i:=2) (some 22) rfl (by kernel_rfl) rfl rfl (fun _=>by kernel_rfl) (once_any k n hk hn _ (hg.h.below K.below hg.size)) ?_; rintro e w3 ⟨rfl,l⟩; replace K:=K.call l; clear l
 refine ⟨_,rfl,K,?_⟩
 simp only [aP,lI,l0,lS]; refine callH (i:=4) (some 24) rfl (by kernel_rfl) rfl rfl (fun _=>by kernel_rfl) (filled_any bp bl bc hbl hbc b _ (hsb.below K.below (xnR _))) ?_; rintro e w4 ⟨p1,c1,rfl,⟨_,n1,S1⟩,l⟩; replace K:=K.call l; clear l
 refine ⟨_,rfl,K,?_⟩
 simp only [aP,lI,l0,lS]; refine callH (i:=6) (some 26) rfl (by kernel_rfl) rfl rfl (fun _=>by kernel_rfl) (filled_any sp len cap hlen hcap z _ (hs.below K.below (xnR _))) ?_; rintro e w5 ⟨p2,c2,rfl,⟨_,n2,S2⟩,l⟩; replace K:=K.call l; replace S1:=S1.below l (xnR _); clear l
 refine ⟨_,rfl,K,?_⟩
 simp only [aP,lI,l0,lS]; have HC:=catIn3 w5.heap.size p1 p2 (some ⟨w.heap.size+1+1+1,0,none⟩) (up16 bl) (up16 len) 16 c1 c2 16 (padz bl b) (padz len z) (app (dig bl) 8 (dig len)) 29 rfl S1 S2 (K.get _ _ _ _ mS).src0 n1 n2 (fun e=>by cases e)
 replace K:=K.call ((Below.refl w5.heap.size w5).alloc (xnR _) (.cells #[.slice p1 (up16 bl) c1,.slice p2 (up16 len) c2,.slice (some ⟨w.heap.size+1+1+1,0,none⟩) 16 16] 29))
 refine actH (i:=8) (w':=w5.alloc (.cells #[.slice p1 (up16 bl) c1,.slice p2 (up16 len) c2,.slice (some ⟨w.heap.size+1+1+1,0,none⟩) 16 16] 29)) (some 28) rfl (.slice (some ⟨w5.heap.size,0,none⟩) 3 3) (by kernel_rfl) rfl rfl (by kernel_rfl) K ?_; simp only [aP,lI,l0,lS]
 generalize (w5.alloc (.cells #[.slice p1 (up16 bl) c1,.slice p2 (up16 len) c2,.slice (some ⟨w.heap.size+1+1+1,0,none⟩) 16 16] 29))=w6 at K HC ⊢; generalize w5.heap.size=C at HC ⊢; clear S1 S2
 have u1:up16 bl≤140737488351232:=by unfold up16; omega
 have u2:up16 len≤140737488351232:=by unfold up16; omega
 refine callH (i:=9) (some 29) rfl (by kernel_rfl) rfl rfl (fun _=>by kernel_rfl) (concat_any ⟨C,0,none⟩ 3 3 _ _ _ _ (by decide) (by rw [tot3]; omega) _ HC) ?_; rintro e w7 ⟨v,rfl,O,l⟩; replace K:=K.call l; clear l HC
 rw [tot3] at O
 replace O:=O.congr (fun j _=>cat3 bl b len z j)
 obtain ⟨p3,c3,rfl,hc3,S3⟩:=O.bytes
 refine ⟨_,rfl,K,?_⟩
 simp only [aP,lI,l0,lS]
 have hA:up16 bl+up16 len+16=amt bl len:=by unfold amt; omega
 rw [hA] at hc3 S3 ⊢
 have hA2:amt bl len≤281474976710656:=by omega
 clear O hA u1 u2; refine callH (i:=10) (some 30) rfl (by kernel_rfl) rfl rfl (fun _=>by kernel_rfl) (psum_any (hblk k 0 n) (hblk_in k 0 n 32) p3 (amt bl len) c3 hA2 hc3 _ (amx_in bl b len z hb hz) _ (hg.c.below K.below hg.size) S3) ?_; rintro e w8 ⟨f,rfl,⟨hf1,hf2⟩,l⟩; replace K:=K.call l; clear l S3
 rw [row_congr .u8 16 (tag_is hf1 hf2)]
 clear hf1 hf2
 refine ⟨_,rfl,K,?_⟩
 simp only [aP,lI,l0,lS]
 have hz':=(K.room _ mS).1
 refine storesH (i:=11) none rfl .u8 16 (atag k n bl b len z) (w.heap.size+1+1) 89 _ _ (by kernel_rfl) rfl rfl rfl rfl rfl (room_of hz') (tag_info' _) (K.fill _ _ mS _) ?_; simp only [Act.put]
 refine wpAnyH_done (by kernel_rfl) ?_ _
 have hB:=(K.fill _ _ mS (row .u8 16 (atag k n bl b len z))).below; clear K; generalize hGe:atag k n bl b len z=G at *; go_wp2
 exact bodyPost_ret (v:=(.agg (row .u8 16 (G)).toArray)) (results_row Tryz.results37 rfl (Has.all hz' .u8 G).range Tryz.underlying89 rfl (tag_info G)) rfl ⟨by first | rfl | rw [hGe] | (rw [← hGe]; done),hB⟩
theorem loadArr {P:Program} {o:Oper} {a:Act} {w:World} (ty:TypeId) (x:Operand) (ad:Addr) (n:Nat) (f:Nat→Int) (d:TypeDesc) (ho:o.op=.load ty x) (hx:a.eval x=.pointer (some ad)) (hu:P.underlying ty=some d) (hd:d.isRow=true) (hz:(P.info? ty).map (·.size)=some n) (hs:Src w (some ad) n f) :
 (execOp a.eval o).run P w=.ok (.value (.agg (row .u8 n f).toArray)) w:=by
 have hl:(loadCells ad n).run P w=.ok (row .u8 n f).toArray w:=by
  have:=run_loadCells_list (P:=P) w ad (row .u8 n f) (fun j v hv=>by
   obtain ⟨hj,rfl⟩:=row_get_some hv
   obtain ⟨ad',he,hc⟩:=hs j hj
   injection he with he
   subst he
   exact hc)
  rw [row_length] at this
  exact this
 have e:(loadVar ty ad).run P w=.ok (.agg (row .u8 n f).toArray) w:=by
  cases hq:P.info? ty with
  | none=>simp [hq] at hz
  | some i =>
    have hs':i.size=n:=by simpa [hq] using hz
    have hagg:(isAgg ty).run P w=.ok true w:=by
     unfold isAgg
     rw [Sem.run_bind,run_underlying hu w]
     cases d <;> simp_all
    simp [loadVar,Sem.run_bind,hagg,sizeOf,typeInfo,hq,hs',hl]
 unfold execOp
 simp only [ho,hx,Instr.loadAt,Instr.sureAddr,Sem.run_bind,Sem.run_pure,Result.andThen_ok,e]
theorem run_copy_mid {P:Program} {o:Oper} {a:Act} {w:World} (d s:Operand) (dT sT elem:TypeId) (ho:o.op=.call { callee:=.builtin .copy,args:=#[d,s],argTypes:=#[dT,sT] }) (hu:P.underlying dT=some (.slice elem)) (hsz:(P.info? elem).map (·.size)=some 1)
 (b o' dCap m n sCap:Nat) (f z:Nat→Int) (ad:Addr) (hd:a.eval d=.slice (some ⟨b,o',none⟩) m dCap) (hs:a.eval s=.slice (some ad) m sCap) (hb:Has w b .u8 n f) (hm:o'+m≤n) (hc:Src w (some ad) m z) :
 (execOp a.eval o).run P w=.ok (.value (.int .i64 (m:Int))) (w.setCells b o' (row .u8 m z)):=by
 have hrun:=run_copy_cells (P:=P) w dT sT o.type elem b o' m dCap ad m sCap (row .u8 m z) hu hsz (by rw [row_length]; exact (Nat.min_self m).symm) (fun j v hv=>by
  obtain ⟨hj,rfl⟩:=row_get_some hv
  obtain ⟨ad',he,hc'⟩:=hc j hj
  injection he with he
  subst he
  exact hc') (fun j hj=>by rw [row_length] at hj; rw [hb.cell (o'+j) (by omega)]; rfl) (fun j hj=>by rw [row_length] at hj; exact hb.free (o'+j) (by omega)) (row_one .u8 m z)
 rw [row_length] at hrun
 simp [execOp,ho,resolve,invoke,builtin,hd,hs,hrun,Result.andThen,goInt]
theorem icut (g n c:Nat) (hn:n+16≤c) (w:World):(Instr.sliceAt 29 (.slice (some ⟨g,0,none⟩) (n+16) c) (some (.int .i64 (n:Int))) none none).run Tryz.prog w=.ok (.slice (some ⟨g,n,none⟩) 16 (c-n)) w:=by
 rw [run_sliceAt_slice w 29 _ _ _ _ (by kernel_rfl),run_slice_l w 29 _ (n+16) c (by kernel_rfl) .i64 (n:Int) (by omega) (by omega),show (sizeOf (Tryz.prog.elem 29)).run Tryz.prog w=.ok 1 w by kernel_rfl]
 have h1:¬ c=n:=by omega
 simp [Result.andThen,sliced,Addr.add_mid,h1]
theorem aseal_any:ASealOK:=by
 intro k n hk hn bp bl bc hbl hbc hbn b hb sp len cap hlen hcap hsn z hz w hg hsb hs; have K:=Kr.init w; replace K:=K.box .u8 32 k 23 (w.heap.size) rfl; replace K:=K.box .u8 12 n 75 (w.heap.size+1) (by simp)
 go_enter Tryz.func24,Tryz.ntmps24
 go_upto_region 1 with fail; generalize ((w.alloc (.cells (row .u8 32 k).toArray 23)).alloc (.cells (row .u8 12 n).toArray 75))=w0 at K ⊢; refine wp_region_list ?_; refine rowKL .u8 32 (k) (w.heap.size) 0 23 _ _ rfl rfl rfl Tryz.underlying23 rfl (key_info _) ((K.get _ _ _ _ (mT _ mS)).range) ?_; simp only [aP,lI,l0,lS]
 refine rowKL .u8 12 (n) (w.heap.size+1) 0 75 _ _ rfl rfl rfl Tryz.underlying75 rfl (hn_info _) ((K.get _ _ _ _ mS).range) ?_; simp only [aP,lI,l0,lS]; refine xpL (.slice sp len cap) ?_; refine xcL (hxor_any k 1 n hk hn (by decide) sp len cap (by omega) z _ (hg.h.below K.below hg.size) (hs.below K.below (xnR _))) ?_; rintro e w1 ⟨X,rfl,⟨hX1,hX2,HX⟩,l⟩; have zX:=K.size
 replace K:=(K.call l).own (by omega) hX2 HX; clear l HX; refine xeL ?_; refine xpL (.slice (some ⟨X,0,none⟩) len len) ?_; generalize w1.heap.size=m1 at K hX2; show Exit.then _ _ _ _ _; go_upto_region 2 with fail; refine wp_region_list ?_; refine rowKL .u8 32 (k) (w.heap.size) 0 23 _ _ rfl rfl rfl Tryz.underlying23 rfl (key_info _) ((K.get _ _ _ _ (mI 2 rfl)).range) ?_
 simp only [aP,lI,l0,lS]; refine rowKL .u8 12 (n) (w.heap.size+1) 0 75 _ _ rfl rfl rfl Tryz.underlying75 rfl (hn_info _) ((K.get _ _ _ _ (mT _ mS)).range) ?_; simp only [aP,lI,l0,lS]; refine xpL (.slice bp bl bc) ?_; refine xpL (.slice (some ⟨X,0,none⟩) len len) ?_
 refine xcL (tagOf_any k n hk hn bp bl bc hbl hbc b hb (some ⟨X,0,none⟩) len len hlen (xnR _) (hxor k 1 n z) (hxor_in k 1 n z len hz) _ (hg.below K.below hg.size) (hsb.below K.below (xnR _)) (K.get _ _ _ _ mS).src0) ?_; rintro e w2 ⟨rfl,l⟩; replace K:=K.call l; clear l; refine xeL ?_; refine allocL zu8_16 89 rfl (fun _=>by kernel_rfl) ?_; simp only [aP,lI,l0,lS]
 refine storesL .u8 16 (atag k n bl b len (hxor k 1 n z)) w2.heap.size 89 _ _ rfl rfl rfl rfl (room_of (tag_zero _ _ _ rfl).there) (tag_info' _) ?_; simp only [Act.put]; have zT:=K.size; replace K:=K.fresh .u8 16 (atag k n bl b len (hxor k 1 n z)) zu8_16 89 (tag_zero _ _ _ rfl).there
 generalize ((w2.alloc (.cells zu8_16 89)).setCells w2.heap.size 0 (row .u8 16 (atag k n bl b len (hxor k 1 n z))))=w3 at K ⊢; generalize w2.heap.size=T at *; show Exit.then _ _ _ _ _; go_upto_region 3 with fail; refine wp_region_list ?_; refine xpL (.slice (some ⟨X,0,none⟩) len len) ?_
 refine xqL (.int .i64 (len:Int)) (fun w=>lenS _ 29 5 (some ⟨X,0,none⟩) (len) (len) rfl Tryz.underlying29 rfl w) ?_; refine xqL (.int .i64 ((len+16:Nat):Int)) (fun w=>addI .i64 _ _ _ _ _ _ _ rfl rfl rfl (by rw [xw6]; omega) w) ?_
 refine actL (w':=w3.alloc (.cells (row .u8 (len+16) (fun _=>0)).toArray 5)) (.slice (some ⟨w3.heap.size,0,none⟩) (len+16) (len+16)) rfl (makeOp 29 _ _ _ _ _ rfl rfl rfl (made8 (len+16) (by omega) w3)) ?_; simp only [aP,lI,l0,lS]; have zY:=K.size; replace K:=K.box .u8 (len+16) (fun _=>0) 5 w3.heap.size rfl
 generalize w3.alloc (.cells (row .u8 (len+16) (fun _=>0)).toArray 5)=w4 at K ⊢; generalize w3.heap.size=Y at *; refine xpL (.slice (some ⟨Y,0,none⟩) (len+16) (len+16)) ?_; show Exit.then _ _ _ _ _; go_upto_region 4 with fail; refine wp_region_list ?_; refine xpL (.slice (some ⟨Y,0,none⟩) (len+16) (len+16)) ?_; refine xpL (.slice (some ⟨X,0,none⟩) len len) ?_
 refine xaL (.int .i64 (len:Int)) (run_copy_src _ _ 29 29 5 rfl Tryz.underlying29 (by kernel_rfl) Y (len+16) (len+16) len len (len+16) (some ⟨X,0,none⟩) (hxor k 1 n z) rfl rfl (by omega) (by omega) (K.get _ _ _ _ mS).there (K.get _ _ _ _ (mI 2 rfl)).src0) ?_
 replace K:=K.part [(T,.u8,16,atag k n bl b len (hxor k 1 n z)),(X,.u8,len,hxor k 1 n z)] Y .u8 (len+16) _ 0 len (by omega) (hxor k 1 n z) mS (fun p hp=>by rcases xc1 hp with rfl | hp; exact (mT _ mS); obtain rfl:=xm1 hp; exact (mI 2 rfl)) (fun p hp=>by rcases xc1 hp with rfl | hp; simp only; omega; obtain rfl:=xm1 hp; simp only; omega) (by omega)
 generalize w4.setCells Y 0 (row .u8 len (hxor k 1 n z))=w5 at K ⊢; show Exit.then _ _ _ _ _; go_upto_region 5 with fail; have HY:=K.get _ _ _ _ mS
 replace K:=K.loose [(T,.u8,16,atag k n bl b len (hxor k 1 n z)),(X,.u8,len,hxor k 1 n z)] Y .u8 (len+16) _ mS (fun p hp=>mT _ hp) (fun p hp=>by rcases xc1 hp with rfl | hp; simp only; omega; obtain rfl:=xm1 hp; simp only; omega) (by omega)
 refine wp_region_held_drew (S:=fun w'=>Kr w (Y+1) [(T,.u8,16,atag k n bl b len (hxor k 1 n z)),(X,.u8,len,hxor k 1 n z)] [(Y,len+16)] w') (by kernel_rfl) K.drew ?_; clear K; intro K; replace HY:=HY.drew; generalize w5.drew=w6 at K HY ⊢; refine xpH 0 28 (.slice (some ⟨Y,0,none⟩) (len+16) (len+16)) K ?_; refine xpH 1 29 (.slice (some ⟨X,0,none⟩) len len) K ?_
 refine xqH 2 30 rfl (.int .i64 (len:Int)) (fun w=>lenS _ 29 5 (some ⟨X,0,none⟩) (len) (len) rfl Tryz.underlying29 rfl w) K ?_; refine xqH 3 31 rfl (.slice (some ⟨Y,len,none⟩) 16 (len+16-len)) (fun w=>cutOp _ _ _ _ _ _ rfl rfl rfl (icut Y len (len+16) (xnR _) w)) K ?_; refine xpH 4 32 (.slice (some ⟨T,0,none⟩) 16 16) K ?_
 refine actH (i:=5) (some 33) rfl (.int .i64 ((16:Nat):Int)) (by kernel_rfl) rfl rfl (run_copy_mid _ _ 29 29 5 rfl Tryz.underlying29 (by kernel_rfl) Y len (len+16-len) 16 (len+16) 16 _ (atag k n bl b len (hxor k 1 n z)) ⟨T,0,none⟩ rfl rfl HY (by omega) (K.get _ _ _ _ mS).src0) (K.poke Y (len+16) mS len _) ?_; simp only [aP,lI,l0,lS]
 refine wpAnyH_done (by kernel_rfl) ?_ _
 have hY:=(HY.part len 16 (by omega) (atag k n bl b len (hxor k 1 n z))).congr (g:=aout k n bl b len z) (fun j hj=>by
  unfold aout app over
  by_cases e:j<len
  · rw [if_neg (by omega),if_pos (by omega),if_pos e,Nat.sub_zero]
  · rw [if_pos (by omega),if_neg e])
 have hB:=(K.poke Y (len+16) mS len (row .u8 16 (atag k n bl b len (hxor k 1 n z)))).below; have hs6:=K.size; clear K HY; generalize hw7:w6.setCells Y len (row .u8 16 (atag k n bl b len (hxor k 1 n z)))=w7 at hY hB ⊢
 have hs7:Y<w7.heap.size:=by rw [← hw7,size_setAll]; omega
 clear hw7 hs6
 have hYl:w.heap.size≤Y:=by omega
 go_wp2; go_ret
 exact ⟨Y,len+16,rfl,⟨xnR _,hYl,hs7,hY⟩,hB⟩
theorem aopen_short (k n:Nat→Int) (bp:Option Addr) (bl bc:Nat) (sp:Option Addr) (len cap:Nat) (hl:len<16) (w:World) :
 Calls Tryz.prog 49 #[(.agg (row .u8 32 (k)).toArray),(.agg (row .u8 12 (n)).toArray),.slice bp bl bc,.slice sp len cap] w fun e w'=>e=.returned (.tuple #[.slice none 0 0,.int .i64 3])∧Below w.heap.size w w':=by
 have g1:(len:Int)<16:=by omega
 have K:=Kr.init w; replace K:=K.box .u8 32 k 23 (w.heap.size) rfl; replace K:=K.box .u8 12 n 75 (w.heap.size+1) (by simp)
 go_enter Tryz.func49,Tryz.ntmps49
 go_upto_region 1 with fail; generalize ((w.alloc (.cells (row .u8 32 k).toArray 23)).alloc (.cells (row .u8 12 n).toArray 75))=w0 at K ⊢; have hB:=K.below; clear K; go_wp2; go_ret2
 exact ⟨rfl,hB⟩
theorem NewF.of_has {w:World} {base n c B:Nat} {f:Nat→Int} (h:Has w B .u8 n f) (hc:n≤c) (h1:base≤B) (h2:B<w.heap.size):NewF w base n f (.slice (some ⟨B,0,none⟩) n c):=⟨_,c,rfl,hc,fun e=>(by cases e),h.src0,fun a e=>by cases e; exact ⟨h1,h2⟩⟩
theorem aopen_long (k n:Nat→Int) (hk:In 256 32 k) (hn:In 256 12 n) (bp:Option Addr) (bl bc:Nat) (hbl:bl≤140737488351232) (hbc:bl≤bc) (b:Nat→Int) (hb:In 256 bl b) (sp:Option Addr) (len cap:Nat) (hlen:len≤140737488351248) (hcap:len≤cap) (hl:16≤len) (z:Nat→Int) (hz:In 256 len z) (w:World) (hg:AGlob w) (hsb:Src w bp bl b) (hs:Src w sp len z) :
 Calls Tryz.prog 49 #[(.agg (row .u8 32 (k)).toArray),(.agg (row .u8 12 (n)).toArray),.slice bp bl bc,.slice sp len cap] w fun e w'=>(∃ v,e=.returned (.tuple #[v,.int .i64 (aoE k n bl b len z)])∧NewF w' w.heap.size (aoL k n bl b len z) (hxor k 1 n z) v)∧Below w.heap.size w w':=by
 have g1:¬ (len:Int)<16:=by omega
 have hz1:In 256 (len-16) z:=fun j hj=>hz j (by omega)
 have hz2:In 256 16 (fun j=>z (len-16+j)):=fun j hj=>hz _ (by omega)
 obtain ⟨q,hq1,hq2⟩:=cut_hi (P:=Tryz.prog) (t:=29) (by kernel_rfl) (fun _=>by kernel_rfl) sp len cap (len-16) (by omega) hcap
 obtain ⟨q',hr1,hr2⟩:=cut_lo (P:=Tryz.prog) (t:=29) (by kernel_rfl) (fun _=>by kernel_rfl) sp len cap (len-16) (by omega) hcap
 rw [show len-(len-16)=16 by omega] at hr1 hr2
 obtain ⟨ad,rfl,_⟩:=hr2 w z hs 0 (by decide)
 have hcq:len-16≤cap:=by omega
 have K:=Kr.init w; replace K:=K.box .u8 32 k 23 (w.heap.size) rfl; replace K:=K.box .u8 12 n 75 (w.heap.size+1) (by simp)
 go_enter Tryz.func49,Tryz.ntmps49
 go_upto_region 1 with fail; generalize ((w.alloc (.cells (row .u8 32 k).toArray 23)).alloc (.cells (row .u8 12 n).toArray 75))=w0 at K ⊢; go_upto_region 3 with fail; clear g1; refine wp_region_list ?_; refine xpL (.slice sp len cap) ?_; refine xqL (.int .i64 (len:Int)) (fun w=>lenS _ 29 5 (sp) (len) (cap) rfl Tryz.underlying29 rfl w) ?_
 refine xqL (.int .i64 ((len-16:Nat):Int)) (fun w=>subI .i64 _ _ _ _ _ _ _ rfl rfl rfl (by rw [xw6]; omega) w) ?_; refine xpL (.int .i64 ((len-16:Nat):Int)) ?_; show Exit.then _ _ _ _ _; go_upto_region 4 with fail; have zX:=K.size
 refine wp_region_held_drew (S:=fun w'=>Kr w (w.heap.size+1+1) [(w.heap.size+1,.u8,12,n),(w.heap.size,.u8,32,k)] [] w') (by kernel_rfl) K.drew ?_; clear K; intro K; refine xpH 0 19 (.slice sp len cap) K ?_; refine xpH 1 20 (.int .i64 ((len-16:Nat):Int)) K ?_; refine xqH 2 21 rfl (.slice q (len-16) cap) (fun w=>cutHi _ _ _ _ _ _ rfl rfl rfl (hq1 w)) K ?_
 refine xpH 3 22 (.slice sp len cap) K ?_; refine xpH 4 23 (.int .i64 ((len-16:Nat):Int)) K ?_; refine xqH 5 24 rfl (.slice (some ad) 16 (cap-(len-16))) (fun w=>cutOp _ _ _ _ _ _ rfl rfl rfl (hr1 w)) K ?_; refine xpH 6 25 (.pointer (some ad)) K ?_
 refine xrH 7 26 rfl (.agg (row .u8 16 ((fun j=>z (len-16+j)))).toArray) (fun w' h=>loadArr 89 _ ad 16 (fun j=>z (len-16+j)) _ rfl rfl Tryz.underlying89 rfl (by kernel_rfl) (hr2 w' z (hs.below h.below (xnR _)))) K ?_; generalize w0.drew=w1 at K ⊢
 refine actH (i:=8) (w':=w1.alloc (.cells zu8_16 89)) (some 12) rfl (.pointer (some ⟨w1.heap.size,0,none⟩)) (by kernel_rfl) rfl rfl (by kernel_rfl) (K.call ((Below.refl w1.heap.size w1).alloc (xnR _) _)) ?_; simp only [aP,lI,l0,lS]; refine xpH 9 11 (.slice q (len-16) cap) (K.call ((Below.refl w1.heap.size w1).alloc (xnR _) _)) ?_
 have KF:=K.fresh .u8 16 (fun j=>z (len-16+j)) zu8_16 89 (tag_zero _ _ _ rfl).there; have zT:=K.size
 refine storesH (i:=10) none rfl .u8 16 (fun j=>z (len-16+j)) w1.heap.size 89 _ _ (by kernel_rfl) rfl rfl rfl rfl rfl (room_of (tag_zero _ _ _ rfl).there) (tag_info' _) (KF.sub _ (fun p hp=>mT _ hp) |>.back _ _ (fun _ hp=>hp) (fun p hp=>by rcases xc1 hp with rfl | hp; simp only; omega; obtain rfl:=xm1 hp; simp only; omega) (fun _ hq=>by cases hq) (by omega) (by omega)) ?_
 simp only [Act.put]
 refine wpAnyH_done (by kernel_rfl) ?_ _
 clear K; generalize ((w1.alloc (.cells zu8_16 89)).setCells w1.heap.size 0 (row .u8 16 (fun j=>z (len-16+j))))=w2 at KF ⊢; generalize w1.heap.size=T at *; go_upto_region 5 with fail; refine wp_region_held_drew (S:=fun w'=>Kr w (T+1) [(T,.u8,16,(fun j=>z (len-16+j))),(w.heap.size+1,.u8,12,n),(w.heap.size,.u8,32,k)] [] w') (by kernel_rfl) KF.drew ?_; clear KF
 intro K; refine rowKH (i:=0) (some 27) rfl .u8 16 ((fun j=>z (len-16+j))) (T) 0 89 _ _ rfl rfl rfl rfl (by kernel_rfl) (by kernel_rfl) (by kernel_rfl) (fun _ _ _ h=>h) Tryz.underlying89 rfl (tag_info _) K (fun _ h=>(h.get _ _ _ _ mS).range) ?_; simp only [aP,lI,l0,lS]
 refine rowKH (i:=1) (some 28) rfl .u8 32 (k) (w.heap.size) 0 23 _ _ rfl rfl rfl rfl (by kernel_rfl) (by kernel_rfl) (by kernel_rfl) (fun _ _ _ h=>h) Tryz.underlying23 rfl (key_info _) K (fun _ h=>(h.get _ _ _ _ (mI 2 rfl)).range) ?_; simp only [aP,lI,l0,lS]
 refine rowKH (i:=2) (some 29) rfl .u8 12 (n) (w.heap.size+1) 0 75 _ _ rfl rfl rfl rfl (by kernel_rfl) (by kernel_rfl) (by kernel_rfl) (fun _ _ _ h=>h) Tryz.underlying75 rfl (hn_info _) K (fun _ h=>(h.get _ _ _ _ (mT _ mS)).range) ?_; simp only [aP,lI,l0,lS]; refine xpH 3 30 (.slice bp bl bc) K ?_; refine xpH 4 31 (.slice q (len-16) cap) K ?_
 refine callH (i:=5) (some 32) rfl (by kernel_rfl) rfl rfl (fun _=>by kernel_rfl) (tagOf_any k n hk hn bp bl bc hbl hbc b hb q (len-16) cap (by omega) hcq z hz1 _ (hg.below K.below hg.size) (hsb.below K.below (xnR _)) (hq2 _ z (hs.below K.below (xnR _)))) ?_; rintro e w4 ⟨rfl,l⟩; replace K:=K.call l; clear l
 refine ⟨_,rfl,K,?_⟩
 simp only [aP,lI,l0,lS]; refine callH (i:=6) (some 33) rfl (by kernel_rfl) rfl rfl (fun _=>by kernel_rfl) (psame_any (fun j=>z (len-16+j)) (atag k n bl b (len-16) z) hz2 (atag_in _ _ _ _ _ _ _) _ (hg.c.below K.below hg.size)) ?_; rintro e w5 ⟨rfl,l⟩; replace K:=K.call l; clear l
 refine ⟨_,rfl,K,?_⟩
 simp only [aP,lI,l0,lS]
 by_cases hok:aok k n bl b len z
 · have hd:decide (val 256 (fun j=>z (len-16+j)) 16=val 256 (atag k n bl b (len-16) z) 16)=true:=decide_eq_true (by rw [atag_val]; exact hok.2.symm)
   rw [hd]
   have e1:aoL k n bl b len z=len-16:=by unfold aoL; rw [if_pos hok]
   have e2:aoE k n bl b len z=0:=by unfold aoE; rw [if_neg (by omega),if_pos hok]
   have HE:=show Hid _ from And.intro e1 e2; clear e1 e2; refine xpH 7 34 (.bool false) K ?_
   refine wpAnyH_done (by kernel_rfl) ?_ _
   clear hd hok; go_upto_region 7 with fail; refine wp_region_list ?_; refine rowKL .u8 32 (k) (w.heap.size) 0 23 _ _ rfl rfl rfl Tryz.underlying23 rfl (key_info _) ((K.get _ _ _ _ (mI 2 rfl)).range) ?_; simp only [aP,lI,l0,lS]; refine rowKL .u8 12 (n) (w.heap.size+1) 0 75 _ _ rfl rfl rfl Tryz.underlying75 rfl (hn_info _) ((K.get _ _ _ _ (mT _ mS)).range) ?_; simp only [aP,lI,l0,lS]
   refine xpL (.slice q (len-16) cap) ?_; refine xcL (hxor_any k 1 n hk hn (by decide) q (len-16) cap (by omega) z _ (hg.h.below K.below hg.size) (hq2 _ z (hs.below K.below (xnR _)))) ?_; rintro e w6 ⟨X,rfl,⟨hX1,hX2,HX⟩,l⟩; replace hX1:=xnT K.below.size hX1; replace K:=K.call l; clear l; refine xeL ?_; refine xpL (.slice (some ⟨X,0,none⟩) (len-16) (len-16)) ?_
   refine xpL (.int .i64 0) ?_; have hB:=K.below; clear K; show Exit.then _ _ _ _ _; go_wp2; go_ret2
   exact ⟨⟨.slice (some ⟨X,0,none⟩) (len-16) (len-16),by rw [HE.out.2]; rfl,by rw [HE.out.1]; exact NewF.of_has HX (xnR _) hX1 hX2⟩,hB⟩
 · have hd:decide (val 256 (fun j=>z (len-16+j)) 16=val 256 (atag k n bl b (len-16) z) 16)=false:=decide_eq_false (by rw [atag_val]; exact fun h=>hok ⟨hl,h.symm⟩)
   rw [hd]
   have e1:aoL k n bl b len z=0:=by unfold aoL; rw [if_neg hok]
   have e2:aoE k n bl b len z=70:=by unfold aoE; rw [if_neg (by omega),if_neg hok]
   have HE:=show Hid _ from And.intro e1 e2; clear e1 e2; refine xpH 7 34 (.bool true) K ?_
   refine wpAnyH_done (by kernel_rfl) ?_ _
   have hB:=K.below; clear hd hok K; go_wp2; go_ret2
   exact ⟨⟨.slice none 0 0,by rw [HE.out.2]; rfl,by rw [HE.out.1]; exact NewF.nil _ _ _⟩,hB⟩
theorem aopen_new (k n:Nat→Int) (hk:In 256 32 k) (hn:In 256 12 n) (bp:Option Addr) (bl bc:Nat) (hbl:bl≤140737488351232) (hbc:bl≤bc) (b:Nat→Int) (hb:In 256 bl b) (sp:Option Addr) (len cap:Nat) (hlen:len≤140737488351248) (hcap:len≤cap) (z:Nat→Int) (hz:In 256 len z) (w:World) (hg:AGlob w) (hsb:Src w bp bl b) (hs:Src w sp len z) :
 Calls Tryz.prog 49 #[(.agg (row .u8 32 (k)).toArray),(.agg (row .u8 12 (n)).toArray),.slice bp bl bc,.slice sp len cap] w fun e w'=>(∃ v,e=.returned (.tuple #[v,.int .i64 (aoE k n bl b len z)])∧NewF w' w.heap.size (aoL k n bl b len z) (hxor k 1 n z) v)∧Below w.heap.size w w':=by
 by_cases hl:len<16
 · have e1:aoL k n bl b len z=0:=by unfold aoL; rw [if_neg (fun h=>by have:=h.1; omega)]
   have e2:aoE k n bl b len z=3:=by unfold aoE; rw [if_pos hl]
   rw [e1,e2]
   exact (aopen_short k n bp bl bc sp len cap hl w).mono fun e w' h=>⟨⟨_,h.1,NewF.nil _ _ _⟩,h.2⟩
 · exact aopen_long k n hk hn bp bl bc hbl hbc b hb sp len cap hlen hcap (by omega) z hz w hg hsb hs
section
section
variable {P:Program} {ops:Array Oper} {Q:Exit→Act→World→Prop} {md:Region.Mode} {S:World→Prop}
def Flt (P:Program) (ops:Array Oper) (Q:Exit→Act→World→Prop) (md:Region.Mode) (S:World→Prop) (z:Nat) (t:Tmp) (n w0 fuel:Nat):Nat→Array Bool→Act→Prop
 | 0,L,a=>Region.ready md ops L=[z]∧∀ B w,S w→Fb n w0 B w→wpAnyH P md ops Q S fuel (L.setIfInBounds z true) (a.put (some t) (.pointer (some ⟨B,0,none⟩))) w
 | k+1,L,a=>(∃ (c:Nat) (r:Tmp) (x:Oper) (f:FuncId) (g:Array Value) (V:Value→Prop),Region.ready md ops L=[c,z]∧Region.ready md ops (L.setIfInBounds z true)=[c]∧ops[c]?=some x∧x.guard=none∧x.dst=some r∧z≠c∧t≠r∧(∀ cs b,x.op≠.select cs b)∧t∉x.looksAt ops∧(∀ w,(execOp a.eval x).run P w=.ok (.enter f g) w) ∧
    (∀ w,S w→Calls P f g w fun e w'=>∃ v,e=.returned v∧V v∧Below w.heap.size w w')∧∀ v,V v→Flt P ops Q md S z t n w0 fuel k (L.setIfInBounds c true) (a.put (some r) v)) ∨
   ∃ (q:Nat) (r:Tmp) (x:Oper) (v:Value),ops[q]?=some x∧x.guard=none∧x.dst=some r∧z≠q∧t≠r∧(∀ cs b,x.op≠.select cs b)∧t∉x.looksAt ops∧(∀ w,(execOp a.eval x).run P w=.ok (.value v) w)∧Region.noSelect ops=true∧(Region.free md ops L q=true∧(Region.ready md ops L).contains q=true)∧(Region.free md ops (L.setIfInBounds z true) q=true∧(Region.ready md ops (L.setIfInBounds z true)).contains q=true) ∧
    (∀ c a w,Q (.panic c) (a.put (some r) v) w→Q (.panic c) a w)∧Flt P ops Q md S z t n w0 fuel k (L.setIfInBounds q true) (a.put (some r) v)
theorem Flt.last {z:Nat} {t:Tmp} {n w0 fuel:Nat} {L:Array Bool} {a:Act} (hr:Region.ready md ops L=[z]) (h:∀ B w,S w→Fb n w0 B w→wpAnyH P md ops Q S fuel (L.setIfInBounds z true) (a.put (some t) (.pointer (some ⟨B,0,none⟩))) w):Flt P ops Q md S z t n w0 fuel 0 L a:=⟨hr,h⟩
theorem Flt.call {z:Nat} {t:Tmp} {n w0 fuel k:Nat} {L:Array Bool} {a:Act} (c:Nat) (r:Tmp) {x:Oper} {f:FuncId} {g:Array Value} (V:Value→Prop) (hr:Region.ready md ops L=[c,z]) (hr':Region.ready md ops (L.setIfInBounds z true)=[c]) (hx:ops[c]?=some x) (hg:x.guard=none) (hd:x.dst=some r)
 (hz:z≠c) (ht:t≠r) (hs:∀ cs b,x.op≠.select cs b) (hl:t∉x.looksAt ops) (he:∀ w,(execOp a.eval x).run P w=.ok (.enter f g) w)
 (hc:∀ w,S w→Calls P f g w fun e w'=>∃ v,e=.returned v∧V v∧Below w.heap.size w w') (h:∀ v,V v→Flt P ops Q md S z t n w0 fuel k (L.setIfInBounds c true) (a.put (some r) v)):Flt P ops Q md S z t n w0 fuel (k+1) L a :=
 .inl ⟨c,r,x,f,g,V,hr,hr',hx,hg,hd,hz,ht,hs,hl,he,hc,h⟩
theorem Flt.read {z:Nat} {t:Tmp} {n w0 fuel k:Nat} {L:Array Bool} {a:Act} (q:Nat) (r:Tmp) {x:Oper} (v:Value) (hx:ops[q]?=some x) (hg:x.guard=none) (hd:x.dst=some r) (hz:z≠q) (ht:t≠r) (hs:∀ cs b,x.op≠.select cs b) (hl:t∉x.looksAt ops) (he:∀ w,(execOp a.eval x).run P w=.ok (.value v) w)
 (hn:Region.noSelect ops=true) (h1:Region.free md ops L q=true) (h2:(Region.ready md ops L).contains q=true) (h3:Region.free md ops (L.setIfInBounds z true) q=true) (h4:(Region.ready md ops (L.setIfInBounds z true)).contains q=true)
 (hQ:∀ c a w,Q (.panic c) (a.put (some r) v) w→Q (.panic c) a w) (h:Flt P ops Q md S z t n w0 fuel k (L.setIfInBounds q true) (a.put (some r) v)):Flt P ops Q md S z t n w0 fuel (k+1) L a :=
 .inr ⟨q,r,x,v,hx,hg,hd,hz,ht,hs,hl,he,hn,⟨h1,h2⟩,⟨h3,h4⟩,hQ,h⟩
theorem Flt.made {z:Nat} {t:Tmp} {n w0 fuel k:Nat} {L:Array Bool} {a:Act} (h:Flt P ops Q md S z t n w0 fuel k L a) (hSc:∀ w w',S w→Below w.heap.size w w'→S w') :
 ∀ B w,S w→Fb n w0 B w→wpAnyH P md ops Q S (fuel+k) (L.setIfInBounds z true) (a.put (some t) (.pointer (some ⟨B,0,none⟩))) w:=by
 induction k generalizing L a with
 | zero=>exact fun B w hS hB=>h.2 B w hS hB
 | succ k ih =>
   rcases h with ⟨c,r,x,f,g,V,_,hr',hx,hg,hd,hz,ht,hs,hl,he,hc,h'⟩ | ⟨q,r,x,v,hx,hg,hd,hz,ht,hs,hl,he,hn,_,⟨h3,h4⟩,hQ,h'⟩
   · intro B w hS hB
     refine wpAnyH_all hr' (by simp) fun j hj=>?_
     obtain rfl:=xm1 hj
     refine callOp hx hg (by rw [eval_one (ops:=ops) t _ hs hl]; exact he w) (hc w hS) fun e w' hR=>?_
     obtain ⟨v,rfl,hv,l⟩:=hR
     have hs1:=hSc _ _ hS l
     refine ⟨v,rfl,hs1,?_⟩
     rw [hd]
     refine wpAnyH_cast (ih (h' v hv) B w' hs1 (hB.call l)) ?_ ?_
     · rw [Array.setIfInBounds_comm _ _ hz]
     · rw [put_comm' _ _ _ ht]
   · intro B w hS hB
     refine readH (i:=q) (some r) hd v hx (by unfold Region.wanted; rw [hg]) (fun w' _=>by rw [eval_one (ops:=ops) t _ hs hl]; exact he w') hn h3 h4 hQ hS ?_
     refine wpAnyH_cast (ih h' B w hS hB) ?_ ?_
     · rw [Array.setIfInBounds_comm _ _ hz]
     · rw [put_comm' _ _ _ ht]
theorem Flt.go {z:Nat} {t:Tmp} {n w0 fuel k:Nat} {L:Array Bool} {a:Act} (h:Flt P ops Q md S z t n w0 fuel k L a) {xz:Oper} (cs:Array Value) (ty:TypeId) (iz:ops[z]?=some xz) (gz:xz.guard=none) (dz:xz.dst=some t)
 (ez:∀ (b:Act) (w:World),(execOp b.eval xz).run P w=.ok (.value (.pointer (some ⟨w.heap.size,0,none⟩))) (w.alloc (.cells cs ty)))
 (hn:∀ w:World,(w.alloc (.cells cs ty)).there w.heap.size 0 n) (hS0:∀ w,S w→w0≤w.heap.size) (hSc:∀ w w',S w→Below w.heap.size w w'→S w') :
 ∀ w,S w→wpAnyH P md ops Q S (fuel+k+1) L a w:=by
 have hSa:∀ w:World,S w→S (w.alloc (.cells cs ty)):=fun w h=>hSc w _ h ((Below.refl w.heap.size w).alloc (xnR _) _)
 have hNew:∀ w:World,S w→Fb n w0 w.heap.size (w.alloc (.cells cs ty)):=fun w h=>⟨hS0 w h,by simp,hn w⟩
 induction k generalizing L a with
 | zero =>
   intro w hS; refine wpAnyH_all h.1 (by simp) fun j hj=>?_
   obtain rfl:=xm1 hj
   refine allocOp iz gz (ez _ w) ?_
   rw [dz]
   exact ⟨hSa _ hS,h.2 _ _ (hSa _ hS) (hNew _ hS)⟩
 | succ k ih =>
   rcases h with ⟨c,r,x,f,g,V,hr,hr',hx,hg,hd,hz,ht,hs,hl,he,hc,h'⟩ | ⟨q,r,x,v,hx,hg,hd,hz,ht,hs,hl,he,hn',⟨h1,h2⟩,_,hQ,h'⟩
   · intro w hS
     refine wpAnyH_all hr (by simp) fun j hj=>?_
     simp only [List.mem_cons,List.not_mem_nil,or_false] at hj
     rcases hj with rfl | rfl
     · refine callOp hx hg (he w) (hc w hS) fun e w' hR=>?_
       obtain ⟨v,rfl,hv,l⟩:=hR
       have hs1:=hSc _ _ hS l
       refine ⟨v,rfl,hs1,?_⟩
       rw [hd]
       exact ih (h' v hv) w' hs1
     · refine allocOp iz gz (ez _ w) ?_
       rw [dz]
       exact ⟨hSa _ hS,Flt.made (Flt.call c r V hr hr' hx hg hd hz ht hs hl he hc h') hSc _ _ (hSa _ hS) (hNew _ hS)⟩
   · intro w hS
     exact readH (i:=q) (some r) hd v hx (by unfold Region.wanted; rw [hg]) (fun w' _=>he w') hn' h1 h2 hQ hS (ih h' w hS)
end
end
section
theorem Mm.land {w0 w:World} {l:List (Nat × List Value)} (M:Mm w0 l w) {n m B:Nat} (b:Fb n m B w) (hm:∀ p∈l,p.1<m) (h0:w0.heap.size≤m) (cs:List Value) (hc:cs.length=n):Mm w0 ((B,cs)::l) (w.setCells B 0 cs):=by
 have hlo:=b.lo
 have hM:Mm w0 ((B,(List.range n).map fun j=>(w.cell? ⟨B,j,none⟩).getD undef)::l) w:=by
  refine ⟨fun p hp=>?_,List.pairwise_cons.2 ⟨fun p hp e=>?_,M.apart⟩,M.below⟩
  · rcases xc1 hp with rfl | hp
    · refine ⟨fun j hj=>?_,by omega,b.hi⟩
      rw [List.length_map,List.length_range] at hj
      have h1:=b.th j hj
      rw [Nat.zero_add] at h1
      refine ⟨?_,h1.2⟩
      rw [List.getElem?_map,List.getElem?_range hj]
      obtain ⟨v,hv⟩:=Option.isSome_iff_exists.1 h1.1
      show w.cell? ⟨B,j,none⟩=some ((w.cell? ⟨B,j,none⟩).getD undef)
      rw [hv]
      rfl
    · exact M.rows p hp
  · have:=hm p hp
    have e':B=p.1:=e
    omega
 exact hM.setAll cs (by rw [List.length_map,List.length_range]; exact hc)
theorem Mm.newF {w0 w w':World} {l:List (Nat × List Value)} (M:Mm w0 l w) (b:Below w.heap.size w w') {n:Nat} {f:Nat→Int} {sp:Option Addr} {cap:Nat} (h:NewF w' w.heap.size n f (.slice sp n cap)):Mm w0 (obs sp++l) w':=by
 have M':=M.call b
 cases sp with
 | none=>exact M'
 | some a =>
   have h1:=h.at a rfl; refine M'.addB (xnT M.below.size h1.1) h1.2 fun p hp e=>?_
   have:=(M.rows p hp).2.2
   omega
theorem seal_perm {α:Type} (a b c:α) (m t:List α):(a::b::c::(m++t)).Perm (c::(m++(a::b::t))):=by
 have h:(m++(a::b::t)).Perm (a::b::(m++t)):=List.perm_middle.trans (List.perm_middle.cons a)
 exact (List.perm_middle (l₁:=[a,b]) (a:=c) (l₂:=m++t)).trans (h.symm.cons c)
theorem out_perm {α:Type} (c:α) (o m t:List α):(o++(c::(m++t))).Perm (c::(m++(o++t))):=List.perm_middle.trans ((pull0 o m t).cons c)
theorem yk_in (k:Kys) (n:Int):In 256 32 (ykK k n):=by
 unfold ykK
 split
 · exact yof_in _
 · split
   · exact yof_in _
   · exact fun _ _=>⟨Int.le_refl 0,show (0:Int)<256 by decide⟩
theorem yn_in (k:Kys):In 256 32 (ynK k):=by
 unfold ynK
 split
 · exact fun _ _=>⟨Int.le_refl 0,show (0:Int)<256 by decide⟩
 · exact yof_in _
def nou (n:Nat):List Int:=List.replicate n 0
theorem nou_len (n:Nat):(nou n).length=n:=List.length_replicate
theorem nou_bl (n:Nat):bl (nou n)=fun _=>0:=by
 funext j
 unfold bl nou
 simp [List.getD_eq_getElem?_getD,List.getElem?_replicate]
 split <;> rfl
theorem nou_byts (n:Nat):Byts (nou n):=fun x hx=>by
 obtain ⟨_,rfl⟩:=List.mem_replicate.1 hx
 exact ⟨by decide,by decide⟩
section
variable {g:Grd} {p:Int} {t:List Int}
theorem gpk_nou (hg:GrdW g) (h:gsE g p t.length=0):pok (gpk g p (nou (t.length+16)))=true:=by
 obtain ⟨h1,h2,h3⟩:=gsE_ok h
 have h4:=hg.role; have h5:=hg.out.lo; have h6:=hg.out.hi; have h7:=(hg.cnt p).1
 rw [pok_rec rfl]
 have hl:=nou_len (t.length+16)
 exact decide_eq_true ⟨⟨show 0≤g.role by omega,show g.role≤1 by omega⟩,h1,⟨h5,h6⟩,⟨h7,h3⟩,show 16≤(nou (t.length+16)).length by omega,show (nou (t.length+16)).length≤272 by omega⟩
theorem gpk_pno (hg:GrdW g) (h:gsE g p t.length=0):pno (gpk g p (nou (t.length+16)))=rno (gpk g p []):=rno_pno rfl (gpk_nou hg h)
theorem gpk_phd (hg:GrdW g) (h:gsE g p t.length=0):phd (gpk g p (nou (t.length+16)))=hdr (gpk g p []):=hdr_phd rfl (gpk_nou hg h)
theorem gpk_pv (hg:GrdW g) (h:gsE g p t.length=0) {w:World} {b:List Int} {bp:Option Addr} {bc:Nat} (hb:Byts b) (hl:b.length≤272) (hs:Src w bp b.length (bl b)) (hc:b.length≤bc) (hn:bp=none→bc=0):PV w (gpk g p b) bp bc:=by
 obtain ⟨h1,h2,h3⟩:=gsE_ok h
 have h4:=hg.role; have h5:=hg.out.lo; have h6:=hg.out.hi; have h7:=(hg.cnt p).1
 exact ⟨hs,hc,hn,show b.length≤_ by omega,hb,show i64 3 by unfold i64; decide,show i64 g.role by unfold i64; omega,show i64 p by unfold i64; omega,show i64 g.out.e by unfold i64; omega,show i64 (g.cnt p) by unfold i64; omega⟩
theorem rno_in (q:Pkt) (h:0≤q.path∧q.path<256):In 256 12 (bl (rno q)):=by
 have hb:Byts (rno q):=fun x hx=>by
  rcases xc1 hx with rfl | hx
  · exact h
  rcases List.mem_append.1 hx with hx | hx
  · exact flst_byts _ _ x hx
  rcases xc1 hx with rfl | hx
  · exact ⟨by decide,by decide⟩
  rcases xc1 hx with rfl | hx
  · exact ⟨by decide,by decide⟩
  rcases xc1 hx with rfl | hx
  · exact ⟨by decide,by decide⟩
  exact flst_byts _ _ x hx
 have:=hb.bl
 rw [rno_len] at this
 exact this
theorem gpk_out (hg:GrdW g) (h:gsE g p t.length=0):pE (gpk g p (gsT g p t))=0∧pL (gpk g p (gsT g p t))=gsB g p t:=⟨if_pos (gpk_ok hg h),by rw [gsB_ok h]; exact if_pos (gpk_ok hg h)⟩
end
end
section
open Go.RowKit Go.MapKept Go.ChangeMaps Go.WideShapes
theorem gwnew_any (w0 w:World) (l:List (Nat × List Value)) (M:Mm w0 l w) :
 Calls Tryz.prog 64 #[] w fun e w'=>∃ B W,e=.returned (.pointer (some ⟨B,0,none⟩))∧w.heap.size≤B∧Wds W []∧Mm w0 ((B,wcv (wtop []) W)::l) w'∧Below w.heap.size w w':=by
 have hB:=Below.refl w.heap.size w
 go_enter Tryz.func64,Tryz.ntmps64
 go_upto_region 0 with fail; refine wp_region_list ?_; refine xpL (.pointer none) ?_; refine xT ?_; go_upto_region 1 with fail; refine wp_region_list ?_; refine xpL (.agg (wcv (-1) (fun _=>0)).toArray) ?_; have hlb:=(Below.refl w.heap.size w).alloc (xnR _) (.cells (wcv (-1) (fun _=>0)).toArray 122)
 refine actL (w':=w.alloc (.cells (wcv (-1) (fun _=>0)).toArray 122)) (.pointer (some ⟨w.heap.size,0,none⟩)) rfl (by kernel_rfl) ?_; simp only [aP,lI,l0,lS]; replace hB:=hB.trans (hlb.mono hB.size); replace M:=M.box (wcv (-1) (fun _=>0)).toArray 122 w.heap.size rfl; clear hlb; generalize w.alloc (.cells (wcv (-1) (fun _=>0)).toArray 122)=w1 at M hB ⊢
 generalize eB:w.heap.size=B at M ⊢
 have hBz:w.heap.size≤B:=by rw [← eB]; exact xnR _
 clear eB
 replace M:Mm w0 ((B,wcv (-1) (fun _=>0))::l) w1:=M
 refine xpL (.pointer (some ⟨B,0,none⟩)) ?_; refine xT ?_; have HS:=show Hid _ from (And.intro hBz (And.intro M hB)); clear M hB hBz; go_wp2; go_ret
 exact ⟨B,fun _=>0,rfl,HS.out.1,Bts.nil,HS.out.2.1,HS.out.2.2⟩
def gkK (k:Kys) (n:Int):Nat→Int:=if n=k.e+1 then ynK k else ykK k n
def gkL (k:Kys) (n:Int):Int:=if n=k.e+1 then ynE k else ykE k n
theorem gkK_next {k:Kys} {n:Int} (h:n=k.e+1):gkK k n=ynK k:=if_pos h
theorem gkL_next {k:Kys} {n:Int} (h:n=k.e+1):gkL k n=ynE k:=if_pos h
theorem gkK_key {k:Kys} {n:Int} (h:¬ n=k.e+1):gkK k n=ykK k n:=if_neg h
theorem gkL_key {k:Kys} {n:Int} (h:¬ n=k.e+1):gkL k n=ykE k n:=if_neg h
theorem gkK_in (k:Kys) (n:Int):In 256 32 (gkK k n):=by
 unfold gkK
 split
 · exact yn_in k
 · exact yk_in k n
theorem gkey_any (w0 w:World) (R:Nat) (T:List (Nat × List Value)) (r:Int) (ko ki:Kys) (mc m0 m1:Option Nat) (hgb:BGlob w0) (hki:KysW ki) (n:Int) (M:Mm w0 ((R,gcf r ko ki mc m0 m1)::T) w) :
 Calls Tryz.prog 46 #[.pointer (some ⟨R,0,none⟩),.int .i64 n] w fun e' w'=>e'=.returned (.tuple #[.agg (row .u8 32 (gkK ki n)).toArray,.int .i64 (gkL ki n)])∧Below w.heap.size w w':=by
 replace M:Mm w0 ((R,[[Value.int .i64 r],kck ko,kck ki,[Value.map mc],[Value.map m0],[Value.map m1]].flatten)::T) w:=M
 have hb0:=M.below; have hwz:=xnR w.heap.size; have OF:=Off.refl [] w
 go_enter Tryz.func46,Tryz.ntmps46
 have hlo:=hki.lo; have hhi:=hki.hi; go_upto_region 0 with fail; refine wp_region_list ?_; have hlb:=(Below.refl w.heap.size w).alloc (xnR _) (.cells zu8_32 23); refine actL (w':=w.alloc (.cells zu8_32 23)) (.pointer (some ⟨w.heap.size,0,none⟩)) rfl (by kernel_rfl) ?_; simp only [aP,lI,l0,lS]; have hB_:=hwz; replace hwz:=xnT hwz hlb.size; replace OF:=OF.below hlb
 replace M:=M.box zu8_32 23 w.heap.size rfl; clear hlb; generalize w.alloc (.cells zu8_32 23)=w1 at M hwz OF ⊢; generalize eB_:w.heap.size=B1 at M ⊢
 have hB_B1:w.heap.size≤B1:=by rw [← eB_]; exact hB_
 clear hB_ eB_
 replace M:Mm w0 ((B1,row .u8 32 (fun _=>0))::(R,[[Value.int .i64 r],kck ko,kck ki,[Value.map mc],[Value.map m0],[Value.map m1]].flatten)::T) w1:=M
 refine xpL (.int .i64 0) ?_; refine xT ?_
 by_cases h1:n=ki.e+1
 · go_upto_region 1 with fail
   refine wp_region_list ?_; refine xpL (.int .i64 n) ?_; refine xpL (.pointer (some ⟨R,0,none⟩)) ?_; refine xpL (.pointer (some ⟨R,0,none⟩)) ?_; refine xpL (.pointer (some ⟨R,99,none⟩)) ?_; replace M:=M.swap
   replace M:Mm w0 ((R,[[Value.int .i64 r],kck ko,kck ki,[Value.map mc],[Value.map m0],[Value.map m1]].flatten)::(B1,row .u8 32 (fun _=>0))::T) w1:=M
   refine xcL (ginn_epoch M) ?_; rintro e w2 ⟨rfl,l⟩; replace M:=M.call l; replace hwz:=xnT hwz l.size; replace OF:=OF.below l; clear l; refine xeL ?_; refine xaL (.int .i64 (ki.e+1)) (addI .i64 _ _ _ _ _ _ _ rfl rfl rfl (by rw [xw6]; omega) _) ?_; refine xaL (.bool true) (eqlI .i64 _ _ _ _ _ _ rfl rfl rfl true (beq_iff_eq.2 h1) _) ?_; refine xT ?_; go_upto_region 2 with fail
   refine wp_region_list ?_; refine xpL (.pointer (some ⟨R,0,none⟩)) ?_; refine xpL (.pointer (some ⟨R,0,none⟩)) ?_; refine xpL (.pointer (some ⟨R,99,none⟩)) ?_
   replace M:Mm w0 ((R,[[Value.int .i64 r],kck ko,kck ki,[Value.map mc],[Value.map m0],[Value.map m1]].flatten)::(B1,row .u8 32 (fun _=>0))::T) w2:=M
   refine xcL (ginn_next hgb hki M) ?_; rintro e w3 ⟨rfl,l⟩; replace M:=M.call l; replace hwz:=xnT hwz l.size; replace OF:=OF.below l; clear l; refine xeL ?_; refine xpL (.agg (row .u8 32 (ynK ki)).toArray) ?_; refine xpL (.int .i64 (ynE ki)) ?_; replace M:=M.swap
   refine skipOpL rfl (storeP (row .u8 32 (ynK ki)) B1 0 23 _ _ rfl rfl rfl (M.thereP mS 0 32 (Nat.le_of_ble_eq_true rfl)) (by kernel_rfl) (row_one .u8 32 (ynK ki))) ?_; simp only [Act.put]; replace M:=M.setAll (row .u8 32 (ynK ki)) (by first | (rw [row32,row32]; done) | (rw [row32]; rfl) | (rw [row32]; done))
   replace hwz:=xnT hwz (Off.size ((Off.refl [B1] _).setAll (b:=B1) mS 0 (row .u8 32 (ynK ki)))); replace OF:=OF.and1 ((Off.refl [B1] _).setAll (b:=B1) mS 0 (row .u8 32 (ynK ki))) (.inr (by omega)); generalize w3.setCells B1 0 (row .u8 32 (ynK ki))=w4 at M hwz OF ⊢; refine xpL (.int .i64 (ynE ki)) ?_; refine xT ?_; have hK:=show Hid _ from (gkK_next h1)
   have hL:=show Hid _ from (gkL_next h1); have c1_:=M.part mS 0 (row .u8 32 (ynK ki)) (by rw [List.drop_zero,List.take_length])
   have hbel:Below w.heap.size w w4:=⟨M.below.os.trans hb0.os.symm,M.below.tape.trans hb0.tape.symm,M.below.output.trans hb0.output.symm,OF.size,fun b hb=>OF.blk b hb (fun h=>by cases h)⟩
   clear M OF h1; go_wp2; refine bodyPost_ret (v:=.tuple #[.agg (row .u8 32 (ynK ki)).toArray,.int .i64 (ynE ki)]) (retCellTmp 4 5 23 ⟨B1,0,none⟩ (row .u8 32 (ynK ki)) _ rfl rfl rfl (fun _=>by kernel_rfl) (fun _=>by rw [row32]; kernel_rfl) c1_) rfl ?_
   exact ⟨by rw [hK.out,hL.out],hbel⟩
 go_upto_region 1 with fail; refine wp_region_list ?_; refine xpL (.int .i64 n) ?_; refine xpL (.pointer (some ⟨R,0,none⟩)) ?_; refine xpL (.pointer (some ⟨R,0,none⟩)) ?_; refine xpL (.pointer (some ⟨R,99,none⟩)) ?_; replace M:=M.swap
 replace M:Mm w0 ((R,[[Value.int .i64 r],kck ko,kck ki,[Value.map mc],[Value.map m0],[Value.map m1]].flatten)::(B1,row .u8 32 (fun _=>0))::T) w1:=M
 refine xcL (ginn_epoch M) ?_; rintro e w5 ⟨rfl,l⟩; replace M:=M.call l; replace hwz:=xnT hwz l.size; replace OF:=OF.below l; clear l; refine xeL ?_; refine xaL (.int .i64 (ki.e+1)) (addI .i64 _ _ _ _ _ _ _ rfl rfl rfl (by rw [xw6]; omega) _) ?_; refine xaL (.bool false) (eqlI .i64 _ _ _ _ _ _ rfl rfl rfl false (beq_eq_false_iff_ne.2 h1) _) ?_; refine xT ?_; go_upto_region 3 with fail
 refine wp_region_list ?_; refine xpL (.pointer (some ⟨R,0,none⟩)) ?_; refine xpL (.pointer (some ⟨R,0,none⟩)) ?_; refine xpL (.pointer (some ⟨R,99,none⟩)) ?_; refine xpL (.int .i64 n) ?_
 replace M:Mm w0 ((R,[[Value.int .i64 r],kck ko,kck ki,[Value.map mc],[Value.map m0],[Value.map m1]].flatten)::(B1,row .u8 32 (fun _=>0))::T) w5:=M
 refine xcL (ginn_key hki n M) ?_; rintro e w6 ⟨rfl,l⟩; replace M:=M.call l; replace hwz:=xnT hwz l.size; replace OF:=OF.below l; clear l; refine xeL ?_; refine xpL (.agg (row .u8 32 (ykK ki n)).toArray) ?_; refine xpL (.int .i64 (ykE ki n)) ?_; replace M:=M.swap
 refine skipOpL rfl (storeP (row .u8 32 (ykK ki n)) B1 0 23 _ _ rfl rfl rfl (M.thereP mS 0 32 (Nat.le_of_ble_eq_true rfl)) (by kernel_rfl) (row_one .u8 32 (ykK ki n))) ?_; simp only [Act.put]; replace M:=M.setAll (row .u8 32 (ykK ki n)) (by first | (rw [row32,row32]; done) | (rw [row32]; rfl) | (rw [row32]; done))
 replace hwz:=xnT hwz (Off.size ((Off.refl [B1] _).setAll (b:=B1) mS 0 (row .u8 32 (ykK ki n)))); replace OF:=OF.and1 ((Off.refl [B1] _).setAll (b:=B1) mS 0 (row .u8 32 (ykK ki n))) (.inr (by omega)); generalize w6.setCells B1 0 (row .u8 32 (ykK ki n))=w7 at M hwz OF ⊢; refine xpL (.int .i64 (ykE ki n)) ?_; refine xT ?_; have hK:=show Hid _ from (gkK_key h1)
 have hL:=show Hid _ from (gkL_key h1); have c1_:=M.part mS 0 (row .u8 32 (ykK ki n)) (by rw [List.drop_zero,List.take_length])
 have hbel:Below w.heap.size w w7:=⟨M.below.os.trans hb0.os.symm,M.below.tape.trans hb0.tape.symm,M.below.output.trans hb0.output.symm,OF.size,fun b hb=>OF.blk b hb (fun h=>by cases h)⟩
 clear M OF h1; go_wp2; refine bodyPost_ret (v:=.tuple #[.agg (row .u8 32 (ykK ki n)).toArray,.int .i64 (ykE ki n)]) (retCellTmp 4 5 23 ⟨B1,0,none⟩ (row .u8 32 (ykK ki n)) _ rfl rfl rfl (fun _=>by kernel_rfl) (fun _=>by rw [row32]; kernel_rfl) c1_) rfl ?_
 exact ⟨by rw [hK.out,hL.out],hbel⟩
theorem gwin_now_found (w0 w:World) (R:Nat) (T:List (Nat × List Value)) (r:Int) (ko ki:Kys) (mc m0 m1:Option Nat) (hki:KysW ki) (n:Int) (hn:n=ki.e) (L:Wls) (x:Int) (hx:i64 x) (hN:NM w m0 (wpt L)) (b:Nat × List Value) (hl:L.lookup x=some b) (M:Mm w0 ((R,gcf r ko ki mc m0 m1)::T) w) :
 Calls Tryz.prog 47 #[.pointer (some ⟨R,0,none⟩),.int .i64 n,.int .i64 x] w fun e' w'=>e'=.returned (.pointer (some ⟨b.1,0,none⟩))∧Below w.heap.size w w':=by
 replace M:Mm w0 ((R,[[Value.int .i64 r],kck ko,kck ki,[Value.map mc],[Value.map m0],[Value.map m1]].flatten)::T) w:=M
 have hb0:=M.below; have hwz:=xnR w.heap.size; have OF:=Off.refl [] w
 go_enter Tryz.func47,Tryz.ntmps47
 have hlo:=hki.lo; have hhi:=hki.hi; go_upto_region 0 with fail; refine wp_region_list ?_; refine xpL (.pointer none) ?_; refine xT ?_; go_upto_region 1 with fail; refine wp_region_list ?_; refine xpL (.pointer (some ⟨R,0,none⟩)) ?_; refine xpL (.pointer (some ⟨R,0,none⟩)) ?_; refine xpL (.pointer (some ⟨R,99,none⟩)) ?_
 replace M:Mm w0 ((R,[[Value.int .i64 r],kck ko,kck ki,[Value.map mc],[Value.map m0],[Value.map m1]].flatten)::T) w:=M
 refine xcL (ginn_epoch M) ?_; rintro e w1 ⟨rfl,l⟩; replace M:=M.call l; replace hwz:=xnT hwz l.size; replace OF:=OF.below l; clear l; refine xeL ?_; refine xpL (.int .i64 n) ?_; refine xaL (.int .i64 0) (subI .i64 _ _ _ _ _ _ _ rfl rfl rfl (by rw [xw6]; omega) _) ?_; refine xpL (.int .i64 0) ?_; refine xT ?_; go_upto_region 2 with fail; refine wp_region_list ?_; refine xpL (.int .i64 0) ?_
 refine xaL (.bool true) (geqI .i64 _ _ _ _ _ _ rfl rfl rfl true (by decide) _) ?_; refine xT ?_; go_upto_region 3 with fail; refine wp_region_list ?_; refine xpL (.pointer (some ⟨R,0,none⟩)) ?_; refine xpL (.int .i64 0) ?_; refine xpL (.pointer (some ⟨R,0,none⟩)) ?_; refine xpL (.pointer (some ⟨R,198,none⟩)) ?_; refine xpL (.pointer (some ⟨R,198,none⟩)) ?_
 refine xaL (.map m0) (load1 61 _ ⟨R,198,none⟩ _ rfl rfl (fun _=>by kernel_rfl) (M.get mS 198 _ (flat_get _ [1,98,98,1,1,1] (by simp [kck_len]) 4 198 _ rfl rfl))) ?_; refine xpL (.int .i64 x) ?_
 refine xaL (.tuple #[.pointer (some ⟨b.1,0,none⟩),.bool true]) (lookOkNE (hN.off OF (fun _ _ h=>by cases h)) Tryz.underlying61 (.pointer none) (fun _=>by kernel_rfl) x hx _ (by unfold wpt; rw [hl]; rfl) true (by unfold wpt; rw [hl]; rfl) _ _ rfl rfl rfl) ?_; refine xpL (.tuple #[.pointer (some ⟨b.1,0,none⟩),.bool true]) ?_; refine xpL (.pointer (some ⟨b.1,0,none⟩)) ?_
 refine xpL (.bool true) ?_; refine xpL (.pointer (some ⟨b.1,0,none⟩)) ?_; refine xpL (.bool true) ?_; refine xT ?_; go_upto_region 4 with fail; refine wp_region_list ?_; refine xpL (.bool true) ?_; refine xT ?_; go_upto_region 5 with fail; refine wp_region_list ?_; refine xpL (.pointer (some ⟨b.1,0,none⟩)) ?_; refine xpL (.pointer (some ⟨b.1,0,none⟩)) ?_; refine xT ?_
 have hbel:Below w.heap.size w w1:=⟨M.below.os.trans hb0.os.symm,M.below.tape.trans hb0.tape.symm,M.below.output.trans hb0.output.symm,OF.size,fun b hb=>OF.blk b hb (fun h=>by cases h)⟩
 have HS:=show Hid _ from hbel; clear M OF hbel; clear hN hl; go_wp2; go_ret
 exact ⟨rfl,HS.out⟩
theorem gwin_now_new (w0 w:World) (R:Nat) (T:List (Nat × List Value)) (r:Int) (ko ki:Kys) (mc m0 m1:Option Nat) (hki:KysW ki) (n:Int) (hn:n=ki.e) (L:Wls) (x:Int) (hx:i64 x) (hN:NM w m0 (wpt L)) (hl:L.lookup x=none) (M:Mm w0 ((R,gcf r ko ki mc m0 m1)::T) w) :
 Calls Tryz.prog 47 #[.pointer (some ⟨R,0,none⟩),.int .i64 n,.int .i64 x] w fun e' w'=>∃ B W,e'=.returned (.pointer (some ⟨B,0,none⟩))∧w.heap.size≤B∧Wds W []∧Mm w0 ((B,wcv (wtop []) W)::(R,gcf r ko ki mc m0 m1)::T) w'∧Below w.heap.size w w':=by
 replace M:Mm w0 ((R,[[Value.int .i64 r],kck ko,kck ki,[Value.map mc],[Value.map m0],[Value.map m1]].flatten)::T) w:=M
 have hb0:=M.below; have hwz:=xnR w.heap.size; have OF:=Off.refl [] w
 go_enter Tryz.func47,Tryz.ntmps47
 have hlo:=hki.lo; have hhi:=hki.hi; go_upto_region 0 with fail; refine wp_region_list ?_; refine xpL (.pointer none) ?_; refine xT ?_; go_upto_region 1 with fail; refine wp_region_list ?_; refine xpL (.pointer (some ⟨R,0,none⟩)) ?_; refine xpL (.pointer (some ⟨R,0,none⟩)) ?_; refine xpL (.pointer (some ⟨R,99,none⟩)) ?_
 replace M:Mm w0 ((R,[[Value.int .i64 r],kck ko,kck ki,[Value.map mc],[Value.map m0],[Value.map m1]].flatten)::T) w:=M
 refine xcL (ginn_epoch M) ?_; rintro e w1 ⟨rfl,l⟩; replace M:=M.call l; replace hwz:=xnT hwz l.size; replace OF:=OF.below l; clear l; refine xeL ?_; refine xpL (.int .i64 n) ?_; refine xaL (.int .i64 0) (subI .i64 _ _ _ _ _ _ _ rfl rfl rfl (by rw [xw6]; omega) _) ?_; refine xpL (.int .i64 0) ?_; refine xT ?_; go_upto_region 2 with fail; refine wp_region_list ?_; refine xpL (.int .i64 0) ?_
 refine xaL (.bool true) (geqI .i64 _ _ _ _ _ _ rfl rfl rfl true (by decide) _) ?_; refine xT ?_; go_upto_region 3 with fail; refine wp_region_list ?_; refine xpL (.pointer (some ⟨R,0,none⟩)) ?_; refine xpL (.int .i64 0) ?_; refine xpL (.pointer (some ⟨R,0,none⟩)) ?_; refine xpL (.pointer (some ⟨R,198,none⟩)) ?_; refine xpL (.pointer (some ⟨R,198,none⟩)) ?_
 refine xaL (.map m0) (load1 61 _ ⟨R,198,none⟩ _ rfl rfl (fun _=>by kernel_rfl) (M.get mS 198 _ (flat_get _ [1,98,98,1,1,1] (by simp [kck_len]) 4 198 _ rfl rfl))) ?_; refine xpL (.int .i64 x) ?_
 refine xaL (.tuple #[.pointer none,.bool false]) (lookOkNE (hN.off OF (fun _ _ h=>by cases h)) Tryz.underlying61 (.pointer none) (fun _=>by kernel_rfl) x hx _ (by unfold wpt; rw [hl]; rfl) false (by unfold wpt; rw [hl]; rfl) _ _ rfl rfl rfl) ?_; refine xpL (.tuple #[.pointer none,.bool false]) ?_; refine xpL (.pointer none) ?_; refine xpL (.bool false) ?_; refine xpL (.pointer none) ?_
 refine xpL (.bool false) ?_; refine xT ?_; go_upto_region 4 with fail; refine wp_region_list ?_; refine xpL (.bool false) ?_; refine xT ?_; go_upto_region 6 with fail; refine wp_region_list ?_
 replace M:Mm w0 ((R,[[Value.int .i64 r],kck ko,kck ki,[Value.map mc],[Value.map m0],[Value.map m1]].flatten)::T) w1:=M
 refine xcL (gwnew_any w0 _ _ M) ?_; rintro e w2 ⟨BW,WW,rfl,hB_BW,hWd,M',l1⟩; clear M; have M:=M'; clear M'; replace hB_BW:=xnT hwz hB_BW; replace hwz:=xnT hwz l1.size; replace OF:=OF.below l1; clear l1; refine xeL ?_; refine xpL (.pointer (some ⟨BW,0,none⟩)) ?_; refine xT ?_
 have hbel:Below w.heap.size w w2:=⟨M.below.os.trans hb0.os.symm,M.below.tape.trans hb0.tape.symm,M.below.output.trans hb0.output.symm,OF.size,fun b hb=>OF.blk b hb (fun h=>by cases h)⟩
 have HS:=show Hid _ from (And.intro hB_BW (And.intro hWd (And.intro M hbel))); clear M OF hbel hWd hB_BW; clear hN hl; go_wp2; go_ret
 first | exact ⟨BW,WW,rfl,HS.out⟩ | exact ⟨BW,rfl,HS.out.1,WW,HS.out.2⟩ | exact ⟨BW,rfl,WW,HS.out⟩
theorem gwin_last_found (w0 w:World) (R:Nat) (T:List (Nat × List Value)) (r:Int) (ko ki:Kys) (mc m0 m1:Option Nat) (hki:KysW ki) (n:Int) (hn:n=ki.e-1) (L:Wls) (x:Int) (hx:i64 x) (hN:NM w m1 (wpt L)) (b:Nat × List Value) (hl:L.lookup x=some b) (M:Mm w0 ((R,gcf r ko ki mc m0 m1)::T) w) :
 Calls Tryz.prog 47 #[.pointer (some ⟨R,0,none⟩),.int .i64 n,.int .i64 x] w fun e' w'=>e'=.returned (.pointer (some ⟨b.1,0,none⟩))∧Below w.heap.size w w':=by
 replace M:Mm w0 ((R,[[Value.int .i64 r],kck ko,kck ki,[Value.map mc],[Value.map m0],[Value.map m1]].flatten)::T) w:=M
 have hb0:=M.below; have hwz:=xnR w.heap.size; have OF:=Off.refl [] w
 go_enter Tryz.func47,Tryz.ntmps47
 have hlo:=hki.lo; have hhi:=hki.hi; go_upto_region 0 with fail; refine wp_region_list ?_; refine xpL (.pointer none) ?_; refine xT ?_; go_upto_region 1 with fail; refine wp_region_list ?_; refine xpL (.pointer (some ⟨R,0,none⟩)) ?_; refine xpL (.pointer (some ⟨R,0,none⟩)) ?_; refine xpL (.pointer (some ⟨R,99,none⟩)) ?_
 replace M:Mm w0 ((R,[[Value.int .i64 r],kck ko,kck ki,[Value.map mc],[Value.map m0],[Value.map m1]].flatten)::T) w:=M
 refine xcL (ginn_epoch M) ?_; rintro e w1 ⟨rfl,l⟩; replace M:=M.call l; replace hwz:=xnT hwz l.size; replace OF:=OF.below l; clear l; refine xeL ?_; refine xpL (.int .i64 n) ?_; refine xaL (.int .i64 1) (subI .i64 _ _ _ _ _ _ _ rfl rfl rfl (by rw [xw6]; omega) _) ?_; refine xpL (.int .i64 1) ?_; refine xT ?_; go_upto_region 2 with fail; refine wp_region_list ?_; refine xpL (.int .i64 1) ?_
 refine xaL (.bool true) (geqI .i64 _ _ _ _ _ _ rfl rfl rfl true (by decide) _) ?_; refine xT ?_; go_upto_region 3 with fail; refine wp_region_list ?_; refine xpL (.pointer (some ⟨R,0,none⟩)) ?_; refine xpL (.int .i64 1) ?_; refine xpL (.pointer (some ⟨R,0,none⟩)) ?_; refine xpL (.pointer (some ⟨R,198,none⟩)) ?_; refine xpL (.pointer (some ⟨R,199,none⟩)) ?_
 refine xaL (.map m1) (load1 61 _ ⟨R,199,none⟩ _ rfl rfl (fun _=>by kernel_rfl) (M.get mS 199 _ (flat_get _ [1,98,98,1,1,1] (by simp [kck_len]) 5 199 _ rfl rfl))) ?_; refine xpL (.int .i64 x) ?_
 refine xaL (.tuple #[.pointer (some ⟨b.1,0,none⟩),.bool true]) (lookOkNE (hN.off OF (fun _ _ h=>by cases h)) Tryz.underlying61 (.pointer none) (fun _=>by kernel_rfl) x hx _ (by unfold wpt; rw [hl]; rfl) true (by unfold wpt; rw [hl]; rfl) _ _ rfl rfl rfl) ?_; refine xpL (.tuple #[.pointer (some ⟨b.1,0,none⟩),.bool true]) ?_; refine xpL (.pointer (some ⟨b.1,0,none⟩)) ?_
 refine xpL (.bool true) ?_; refine xpL (.pointer (some ⟨b.1,0,none⟩)) ?_; refine xpL (.bool true) ?_; refine xT ?_; go_upto_region 4 with fail; refine wp_region_list ?_; refine xpL (.bool true) ?_; refine xT ?_; go_upto_region 5 with fail; refine wp_region_list ?_; refine xpL (.pointer (some ⟨b.1,0,none⟩)) ?_; refine xpL (.pointer (some ⟨b.1,0,none⟩)) ?_; refine xT ?_
 have hbel:Below w.heap.size w w1:=⟨M.below.os.trans hb0.os.symm,M.below.tape.trans hb0.tape.symm,M.below.output.trans hb0.output.symm,OF.size,fun b hb=>OF.blk b hb (fun h=>by cases h)⟩
 have HS:=show Hid _ from hbel; clear M OF hbel; clear hN hl; go_wp2; go_ret
 exact ⟨rfl,HS.out⟩
theorem gwin_last_new (w0 w:World) (R:Nat) (T:List (Nat × List Value)) (r:Int) (ko ki:Kys) (mc m0 m1:Option Nat) (hki:KysW ki) (n:Int) (hn:n=ki.e-1) (L:Wls) (x:Int) (hx:i64 x) (hN:NM w m1 (wpt L)) (hl:L.lookup x=none) (M:Mm w0 ((R,gcf r ko ki mc m0 m1)::T) w) :
 Calls Tryz.prog 47 #[.pointer (some ⟨R,0,none⟩),.int .i64 n,.int .i64 x] w fun e' w'=>∃ B W,e'=.returned (.pointer (some ⟨B,0,none⟩))∧w.heap.size≤B∧Wds W []∧Mm w0 ((B,wcv (wtop []) W)::(R,gcf r ko ki mc m0 m1)::T) w'∧Below w.heap.size w w':=by
 replace M:Mm w0 ((R,[[Value.int .i64 r],kck ko,kck ki,[Value.map mc],[Value.map m0],[Value.map m1]].flatten)::T) w:=M
 have hb0:=M.below; have hwz:=xnR w.heap.size; have OF:=Off.refl [] w
 go_enter Tryz.func47,Tryz.ntmps47
 have hlo:=hki.lo; have hhi:=hki.hi; go_upto_region 0 with fail; refine wp_region_list ?_; refine xpL (.pointer none) ?_; refine xT ?_; go_upto_region 1 with fail; refine wp_region_list ?_; refine xpL (.pointer (some ⟨R,0,none⟩)) ?_; refine xpL (.pointer (some ⟨R,0,none⟩)) ?_; refine xpL (.pointer (some ⟨R,99,none⟩)) ?_
 replace M:Mm w0 ((R,[[Value.int .i64 r],kck ko,kck ki,[Value.map mc],[Value.map m0],[Value.map m1]].flatten)::T) w:=M
 refine xcL (ginn_epoch M) ?_; rintro e w1 ⟨rfl,l⟩; replace M:=M.call l; replace hwz:=xnT hwz l.size; replace OF:=OF.below l; clear l; refine xeL ?_; refine xpL (.int .i64 n) ?_; refine xaL (.int .i64 1) (subI .i64 _ _ _ _ _ _ _ rfl rfl rfl (by rw [xw6]; omega) _) ?_; refine xpL (.int .i64 1) ?_; refine xT ?_; go_upto_region 2 with fail; refine wp_region_list ?_; refine xpL (.int .i64 1) ?_
 refine xaL (.bool true) (geqI .i64 _ _ _ _ _ _ rfl rfl rfl true (by decide) _) ?_; refine xT ?_; go_upto_region 3 with fail; refine wp_region_list ?_; refine xpL (.pointer (some ⟨R,0,none⟩)) ?_; refine xpL (.int .i64 1) ?_; refine xpL (.pointer (some ⟨R,0,none⟩)) ?_; refine xpL (.pointer (some ⟨R,198,none⟩)) ?_; refine xpL (.pointer (some ⟨R,199,none⟩)) ?_
 refine xaL (.map m1) (load1 61 _ ⟨R,199,none⟩ _ rfl rfl (fun _=>by kernel_rfl) (M.get mS 199 _ (flat_get _ [1,98,98,1,1,1] (by simp [kck_len]) 5 199 _ rfl rfl))) ?_; refine xpL (.int .i64 x) ?_
 refine xaL (.tuple #[.pointer none,.bool false]) (lookOkNE (hN.off OF (fun _ _ h=>by cases h)) Tryz.underlying61 (.pointer none) (fun _=>by kernel_rfl) x hx _ (by unfold wpt; rw [hl]; rfl) false (by unfold wpt; rw [hl]; rfl) _ _ rfl rfl rfl) ?_; refine xpL (.tuple #[.pointer none,.bool false]) ?_; refine xpL (.pointer none) ?_; refine xpL (.bool false) ?_; refine xpL (.pointer none) ?_
 refine xpL (.bool false) ?_; refine xT ?_; go_upto_region 4 with fail; refine wp_region_list ?_; refine xpL (.bool false) ?_; refine xT ?_; go_upto_region 6 with fail; refine wp_region_list ?_
 replace M:Mm w0 ((R,[[Value.int .i64 r],kck ko,kck ki,[Value.map mc],[Value.map m0],[Value.map m1]].flatten)::T) w1:=M
 refine xcL (gwnew_any w0 _ _ M) ?_; rintro e w2 ⟨BW,WW,rfl,hB_BW,hWd,M',l1⟩; clear M; have M:=M'; clear M'; replace hB_BW:=xnT hwz hB_BW; replace hwz:=xnT hwz l1.size; replace OF:=OF.below l1; clear l1; refine xeL ?_; refine xpL (.pointer (some ⟨BW,0,none⟩)) ?_; refine xT ?_
 have hbel:Below w.heap.size w w2:=⟨M.below.os.trans hb0.os.symm,M.below.tape.trans hb0.tape.symm,M.below.output.trans hb0.output.symm,OF.size,fun b hb=>OF.blk b hb (fun h=>by cases h)⟩
 have HS:=show Hid _ from (And.intro hB_BW (And.intro hWd (And.intro M hbel))); clear M OF hbel hWd hB_BW; clear hN hl; go_wp2; go_ret
 first | exact ⟨BW,WW,rfl,HS.out⟩ | exact ⟨BW,rfl,HS.out.1,WW,HS.out.2⟩ | exact ⟨BW,rfl,WW,HS.out⟩
theorem gwin_next_new (w0 w:World) (R:Nat) (T:List (Nat × List Value)) (r:Int) (ko ki:Kys) (mc m0 m1:Option Nat) (hki:KysW ki) (n:Int) (hn:n=ki.e+1) (x:Int) (M:Mm w0 ((R,gcf r ko ki mc m0 m1)::T) w) :
 Calls Tryz.prog 47 #[.pointer (some ⟨R,0,none⟩),.int .i64 n,.int .i64 x] w fun e' w'=>∃ B W,e'=.returned (.pointer (some ⟨B,0,none⟩))∧w.heap.size≤B∧Wds W []∧Mm w0 ((B,wcv (wtop []) W)::(R,gcf r ko ki mc m0 m1)::T) w'∧Below w.heap.size w w':=by
 replace M:Mm w0 ((R,[[Value.int .i64 r],kck ko,kck ki,[Value.map mc],[Value.map m0],[Value.map m1]].flatten)::T) w:=M
 have hb0:=M.below; have hwz:=xnR w.heap.size; have OF:=Off.refl [] w
 go_enter Tryz.func47,Tryz.ntmps47
 have hlo:=hki.lo; have hhi:=hki.hi; go_upto_region 0 with fail; refine wp_region_list ?_; refine xpL (.pointer none) ?_; refine xT ?_; go_upto_region 1 with fail; refine wp_region_list ?_; refine xpL (.pointer (some ⟨R,0,none⟩)) ?_; refine xpL (.pointer (some ⟨R,0,none⟩)) ?_; refine xpL (.pointer (some ⟨R,99,none⟩)) ?_
 replace M:Mm w0 ((R,[[Value.int .i64 r],kck ko,kck ki,[Value.map mc],[Value.map m0],[Value.map m1]].flatten)::T) w:=M
 refine xcL (ginn_epoch M) ?_; rintro e w1 ⟨rfl,l⟩; replace M:=M.call l; replace hwz:=xnT hwz l.size; replace OF:=OF.below l; clear l; refine xeL ?_; refine xpL (.int .i64 n) ?_; refine xaL (.int .i64 (-1)) (subI .i64 _ _ _ _ _ _ _ rfl rfl rfl (by rw [xw6]; omega) _) ?_; refine xpL (.int .i64 (-1)) ?_; refine xT ?_; go_upto_region 2 with fail; refine wp_region_list ?_
 refine xpL (.int .i64 (-1)) ?_; refine xaL (.bool false) (geqI .i64 _ _ _ _ _ _ rfl rfl rfl false (by decide) _) ?_; refine xT ?_; go_upto_region 6 with fail; refine wp_region_list ?_
 replace M:Mm w0 ((R,[[Value.int .i64 r],kck ko,kck ki,[Value.map mc],[Value.map m0],[Value.map m1]].flatten)::T) w1:=M
 refine xcL (gwnew_any w0 _ _ M) ?_; rintro e w2 ⟨BW,WW,rfl,hB_BW,hWd,M',l1⟩; clear M; have M:=M'; clear M'; replace hB_BW:=xnT hwz hB_BW; replace hwz:=xnT hwz l1.size; replace OF:=OF.below l1; clear l1; refine xeL ?_; refine xpL (.pointer (some ⟨BW,0,none⟩)) ?_; refine xT ?_
 have hbel:Below w.heap.size w w2:=⟨M.below.os.trans hb0.os.symm,M.below.tape.trans hb0.tape.symm,M.below.output.trans hb0.output.symm,OF.size,fun b hb=>OF.blk b hb (fun h=>by cases h)⟩
 have HS:=show Hid _ from (And.intro hB_BW (And.intro hWd (And.intro M hbel))); clear M OF hbel hWd hB_BW; go_wp2; go_ret
 first | exact ⟨BW,WW,rfl,HS.out⟩ | exact ⟨BW,rfl,HS.out.1,WW,HS.out.2⟩ | exact ⟨BW,rfl,WW,HS.out⟩
theorem Mm.fetch {w0 w:World} {l:List (Nat × List Value)} (M:Mm w0 l w) {p:Nat × List Value} (h:p∈l):∃ l',l.Perm (p::l')∧Mm w0 (p::l') w:=by
 obtain ⟨s,t,rfl⟩:=List.append_of_mem h
 exact ⟨s++t,List.perm_middle,M.perm List.perm_middle⟩
def Sees (w0 w:World) (v:Value) (S:List Int):Prop:=∃ B W l,v=.pointer (some ⟨B,0,none⟩)∧Wds W S∧Mm w0 ((B,wcv (wtop S) W)::l) w
theorem sees_found {w0 w:World} {L:Wls} {m:Option Nat} {win:Int→List Int} {x:Int} {b:Nat × List Value} {l:List (Nat × List Value)} (W:Wns w m L win) (hl:L.lookup x=some b) (M:Mm w0 l w) (hL:∀ p∈L.map Prod.snd,p∈l) {w':World} (hb:Below w.heap.size w w'):Sees w0 w' (.pointer (some ⟨b.1,0,none⟩)) (win x):=by
 have hm:=lookup_mem hl
 obtain ⟨B,V,e1,e2,e3⟩:=W.is _ hm
 injection e1 with e1
 injection e1 with e1
 injection e1 with e1 _ _
 obtain ⟨l',_,M'⟩:=(M.call hb).fetch (hL b (List.mem_map.2 ⟨_,hm,rfl⟩))
 injection e3 with e3 _
 have e3':b=(B,wcv (wtop (win x)) V):=e3
 rw [e3'] at M' ⊢
 exact ⟨B,V,l',rfl,e2,M'⟩
theorem gwin_see (w0 w:World) (R:Nat) (T:List (Nat × List Value)) (r:Int) (ko ki:Kys) (mc m0 m1:Option Nat) (hki:KysW ki) (n x:Int) (hx:i64 x) (win0 win1 winx:Int→List Int) (L0 L1:Wls) (W0:Wns w m0 L0 win0) (W1:Wns w m1 L1 win1) (hS:(n=ki.e∧winx=win0)∨(n=ki.e-1∧winx=win1)∨(n=ki.e+1∧winx x=[])) (M:Mm w0 ((R,gcf r ko ki mc m0 m1)::(mbs mc++(mbs m0++(mbs m1++(L0.map Prod.snd++(L1.map Prod.snd++T)))))) w) :
 Calls Tryz.prog 47 #[.pointer (some ⟨R,0,none⟩),.int .i64 n,.int .i64 x] w fun e' w'=>(∃ v,e'=.returned v∧Sees w0 w' v (winx x))∧Below w.heap.size w w':=by
 rcases hS with ⟨hn,rfl⟩ | ⟨hn,rfl⟩ | ⟨hn,hw⟩
 · cases hl:L0.lookup x with
   | some b=>exact (gwin_now_found w0 w R _ r ko ki mc m0 m1 hki n hn L0 x hx W0.map b hl M).mono fun e w' ⟨h1,h2⟩=>⟨⟨_,h1,sees_found W0 hl M (fun p hp=>by simp only [List.mem_cons,List.mem_append]; exact .inr (.inr (.inr (.inr (.inl hp))))) h2⟩,h2⟩
   | none=>exact (gwin_now_new w0 w R _ r ko ki mc m0 m1 hki n hn L0 x hx W0.map hl M).mono fun e w' ⟨B,V,h1,_,h2,h3,h4⟩=>⟨⟨_,h1,B,V,_,rfl,by rw [W0.gone x hl]; exact h2,by rw [W0.gone x hl]; exact h3⟩,h4⟩
 · cases hl:L1.lookup x with
   | some b=>exact (gwin_last_found w0 w R _ r ko ki mc m0 m1 hki n hn L1 x hx W1.map b hl M).mono fun e w' ⟨h1,h2⟩=>⟨⟨_,h1,sees_found W1 hl M (fun p hp=>by simp only [List.mem_cons,List.mem_append]; exact .inr (.inr (.inr (.inr (.inr (.inl hp)))))) h2⟩,h2⟩
   | none=>exact (gwin_last_new w0 w R _ r ko ki mc m0 m1 hki n hn L1 x hx W1.map hl M).mono fun e w' ⟨B,V,h1,_,h2,h3,h4⟩=>⟨⟨_,h1,B,V,_,rfl,by rw [W1.gone x hl]; exact h2,by rw [W1.gone x hl]; exact h3⟩,h4⟩
 · exact (gwin_next_new w0 w R _ r ko ki mc m0 m1 hki n hn x M).mono fun e w' ⟨B,V,h1,_,h2,h3,h4⟩=>⟨⟨_,h1,B,V,_,rfl,by rw [hw]; exact h2,by rw [hw]; exact h3⟩,h4⟩
end
end Go.Proofs.YtknodedhcdpbiaaGreatDoor
