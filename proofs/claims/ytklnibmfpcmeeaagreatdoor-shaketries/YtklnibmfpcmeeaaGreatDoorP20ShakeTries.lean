/- Texts of Be Bh Bz, joined. -/
import Derived.Test.YtklnibmfpcmeeaaGreatDoorP19ShakeTries
set_option maxRecDepth 20000
set_option maxHeartbeats 64000000
namespace Go.Proofs.YtklnibmfpcmeeaaGreatDoor
open Go.RowKit
theorem idxRows {P:Program} {o:Oper} {a:Act} (t e:TypeId) (n m:Nat) (k:IntKind) (b off i:Nat) (x y:Operand) (hu:P.underlying t=some (.array n e)) (hsz:∀ w,(sizeOf e).run P w=.ok m w) (hi:i<n) (ho:o.op=.indexAddr t x y) (hx:a.eval x=.pointer (some ⟨b,off,none⟩)) (hy:a.eval y=.int k (i:Int)) (w:World) :
 (execOp a.eval o).run P w=.ok (.value (.pointer (some ⟨b,off+i*m,none⟩))) w:=by
 have e1:(Instr.indexAt t (.pointer (some ⟨b,off,none⟩)) (.int k (i:Int))).run P w=.ok (.pointer (some ⟨b,off+i*m,none⟩)) w:=by
  simp [Instr.indexAt,run_underlying hu,Instr.sureAddr,asIntOf,hsz,Addr.add_mid]
  intro hf
  omega
 unfold execOp
 simp only [ho,hx,hy,Sem.run_bind,e1,Result.andThen_ok,Sem.run_pure]
theorem bpr_of (h z:Nat→Int) (t:Int) (last:Bool) (hh:In V 8 h) (n:Nat) (hn:n<8):hxr (h n) (hxr (bR (bpw z) (bst h t last) 10 n) (bR (bpw z) (bst h t last) 10 (n+8)))=bpr h z t last n :=
 (hxr_assoc _ _ _ (hh n hn) (bR_in _ _ (bst_in h t last hh) 10 n (by omega)) (bR_in _ _ (bst_in h t last hh) 10 (n+8) (by omega))).symm
theorem bpress_any (h:Nat→Int) (hh:In V 8 h) (z:Nat→Int) (t:Int) (last:Bool) (w:World) (hg:BGlob w) :
 Calls Tryz.prog 145 #[(.agg (row .u32 8 (h)).toArray),(.agg (row .u32 16 (bpw z)).toArray),.int .u64 t,.bool last] w fun e w'=>e=.returned (.agg (row .u32 8 (bpr h z t last)).toArray)∧Below w.heap.size w w':=by
 have HG:=show Hid _ from (fun n hn=>bpr_of h z t last hh n hn); generalize hGe:bpr h z t last=G at HG; generalize hme:bpw z=m at HG; have K:=Kr.init w; replace K:=K.box .u32 8 h 142 (w.heap.size) rfl; replace K:=K.box .u32 16 m 167 (w.heap.size+1) (by simp); replace K:=K.make 8 zu32_8 142 (w.heap.size+1+1) (by simp) (bst_zero _ _ _ (by simp)).there; clear hme hGe hh
 go_enter Tryz.func145,Tryz.ntmps145
 go_upto_region 1 with fail; generalize (((w.alloc (.cells (row .u32 8 h).toArray 142)).alloc (.cells (row .u32 16 m).toArray 167)).alloc (.cells zu32_8 142))=w0 at K ⊢; refine wp_region_list ?_; refine rowKL .u32 8 (h) (w.heap.size) 0 142 _ _ rfl rfl rfl Tryz.underlying142 rfl (bst_info _) ((K.get _ _ _ _ (mT _ mS)).range) ?_; simp only [aP,lI,l0,lS]; refine xpL (.int .u64 t) ?_
 refine xpL (.bool last) ?_; refine xcL (bspread_any h t last _ (hg.below K.below hg.size)) ?_; rintro e w1 ⟨rfl,l⟩; replace K:=K.call l; clear l; refine xeL ?_; refine allocL zu32_16 167 rfl (fun _=>by kernel_rfl) ?_; simp only [aP,lI,l0,lS]; refine storesL .u32 16 (bst h t last) w1.heap.size 167 _ _ rfl rfl rfl rfl (room_of (bwd_zero _ _ _ rfl).there) (bwd_info' _) ?_
 simp only [Act.put]; have zX:=K.size; replace K:=K.fresh .u32 16 (bst h t last) zu32_16 167 (bwd_zero _ _ _ rfl).there; generalize ((w1.alloc (.cells zu32_16 167)).setCells w1.heap.size 0 (row .u32 16 (bst h t last)))=w2 at K ⊢; generalize w1.heap.size=X at *; show Exit.then _ _ _ _ _; generalize bst h t last=v0 at *; go_wp2
 go_loopw [21] (fun i w'=>∃ r:Nat,r≤10∧i=.int .i64 r∧Kr w (X+1) [(X,.u32,16,bR m v0 r),(w.heap.size+1,.u32,16,m),(w.heap.size,.u32,8,h)] [(w.heap.size+1+1,8)] w') (fun i _=>10-(intOf i).toNat)
 case atStart=>exact ⟨0,by omega,rfl,K⟩
 case round =>
  clear K
  obtain ⟨r,hr,rfl,K⟩:=hrel
  have g1:(0:Int)≤(r:Int):=by omega
  by_cases hlt:r<10
  · have g2:(r:Int)<10:=by omega
    go_wp2
    go_loopw [24] (fun i w'=>∃ q:Nat,q≤8∧i=.int .i64 q∧Kr w (X+1) [(X,.u32,16,bN m (sg r) (bR m v0 r) q),(w.heap.size+1,.u32,16,m),(w.heap.size,.u32,8,h)] [(w.heap.size+1+1,8)] w') (fun i _=>8-(intOf i).toNat)
    case atStart=>exact ⟨0,by omega,rfl,K⟩
    case round =>
     clear K
     obtain ⟨q,hq,rfl,K⟩:=hrel
     have g3:(0:Int)≤(q:Int):=by omega
     by_cases hlt2:q<8
     · have g4:(q:Int)<8:=by omega
       have HT:=show Hid _ from (show bN m (sg r) (bR m v0 r) (q+1)=bAt m (sg r) (bN m (sg r) (bR m v0 r) q) q from rfl); generalize bN m (sg r) (bR m v0 r) q=v at *; have HK:=show Hid _ from fun (n:Nat)=>K.drewN (q:=n)
       obtain ⟨p1,p2,p3,p4⟩:=(hg.below K.below hg.size).four q hlt2
       have l1:pA q<16:=by have:=pA_lt q; omega
       have l2:pB q<16:=by have:=pB_lt q; omega
       have l3:pC q<16:=by have:=pC_lt q; omega
       have l4:pD q<16:=pD_lt q
       have s1:=sg_lt r (2*q); have s2:=sg_lt r (2*q+1)
       unfold bAt bMx at HT
       have hzX:=K.base; clear K hq hr; generalize hA:pA q=A at *; generalize hB:pB q=B at *; generalize hC:pC q=C at *; generalize hD:pD q=D at *; clear hA hB hC hD; go_wp2
       go_quiet (fail)
       go_upto_region 9 with fail; have K:=HK.out nq; clear p1 p2 p3 p4 HK; generalize wr.drewN nq=w3 at K ⊢; refine wp_region_C (S:=fun w'=>Kr w (X+1) [(X,.u32,16,v),(w.heap.size+1,.u32,16,m),(w.heap.size,.u32,8,h)] [(w.heap.size+1+1,8)] w') 33 (by kernel_rfl) K.drew ?_; clear K; intro K; refine xpC 0 44 (.int .u8 (A:Int)) K ?_
       refine xpC 1 45 (.int .u8 (B:Int)) K ?_; refine xpC 2 46 (.int .u8 (C:Int)) K ?_; refine xpC 3 47 (.int .u8 (D:Int)) K ?_; refine xpC 4 48 (.int .u8 (A:Int)) K ?_; refine xqC 5 49 rfl (.pointer (some ⟨X,A,none⟩)) (fun w'=>ixWb X A l1 w' _ _ rfl rfl rfl) K ?_
       refine cellC (i:=6) (some 50) rfl .u32 (.int .u32 (v A)) X A 122 _ rfl rfl (by kernel_rfl) rfl rfl rfl (by kernel_rfl) (by kernel_rfl) (by kernel_rfl) (by kernel_rfl) (fun _ _ _ h=>h) Tryz.underlying122 K (fun _ h=>(h.get _ _ _ _ mS).cell A l1) ?_; simp only [aP,lI,l0,lS]; refine xpC 7 51 (.int .u8 (B:Int)) K ?_
       refine xqC 8 52 rfl (.pointer (some ⟨X,B,none⟩)) (fun w'=>ixWb X B l2 w' _ _ rfl rfl rfl) K ?_; refine cellC (i:=9) (some 53) rfl .u32 (.int .u32 (v B)) X B 122 _ rfl rfl (by kernel_rfl) rfl rfl rfl (by kernel_rfl) (by kernel_rfl) (by kernel_rfl) (by kernel_rfl) (fun _ _ _ h=>h) Tryz.underlying122 K (fun _ h=>(h.get _ _ _ _ mS).cell B l2) ?_; simp only [aP,lI,l0,lS]
       refine xpC 10 54 (.int .u8 (C:Int)) K ?_; refine xqC 11 55 rfl (.pointer (some ⟨X,C,none⟩)) (fun w'=>ixWb X C l3 w' _ _ rfl rfl rfl) K ?_
       refine cellC (i:=12) (some 56) rfl .u32 (.int .u32 (v C)) X C 122 _ rfl rfl (by kernel_rfl) rfl rfl rfl (by kernel_rfl) (by kernel_rfl) (by kernel_rfl) (by kernel_rfl) (fun _ _ _ h=>h) Tryz.underlying122 K (fun _ h=>(h.get _ _ _ _ mS).cell C l3) ?_; simp only [aP,lI,l0,lS]; refine xpC 13 57 (.int .u8 (D:Int)) K ?_
       refine xqC 14 58 rfl (.pointer (some ⟨X,D,none⟩)) (fun w'=>ixWb X D l4 w' _ _ rfl rfl rfl) K ?_; refine cellC (i:=15) (some 59) rfl .u32 (.int .u32 (v D)) X D 122 _ rfl rfl (by kernel_rfl) rfl rfl rfl (by kernel_rfl) (by kernel_rfl) (by kernel_rfl) (by kernel_rfl) (fun _ _ _ h=>h) Tryz.underlying122 K (fun _ h=>(h.get _ _ _ _ mS).cell D l4) ?_; simp only [aP,lI,l0,lS]
       refine xpC 16 60 (.int .i64 (r:Int)) K ?_; refine xpC 17 61 (.int .i64 (q:Int)) K ?_; refine xqC 18 62 rfl (.int .i64 ((2*q:Nat):Int)) (fun w=>mulI .i64 _ _ _ _ _ _ _ rfl rfl rfl (by rw [xw6]; omega) w) K ?_
       refine xqC 19 63 rfl (.pointer (some ⟨5,0+r*16,none⟩)) (fun w'=>idxRows (P:=Tryz.prog) 182 50 10 16 .i64 5 0 r _ _ Tryz.underlying182 (fun _=>by kernel_rfl) hlt rfl rfl rfl w') K ?_
       refine xqC 20 64 rfl (.pointer (some ⟨5,0+r*16+(2*q),none⟩)) (fun w'=>idxArr (P:=Tryz.prog) 50 5 16 .i64 5 (0+r*16) (2*q) _ _ Tryz.underlying50 (fun _=>by kernel_rfl) (by omega) rfl rfl rfl w') K ?_
       refine cellCT (i:=21) 8 (some 65) rfl .u8 (.int .u8 ((sg r (2*q):Nat):Int)) 5 (0+r*16+(2*q)) 5 _ rfl (by kernel_rfl) (by kernel_rfl) rfl rfl rfl (by kernel_rfl) (by kernel_rfl) (by kernel_rfl) (by kernel_rfl) (fun _ _ _ h=>h) Tryz.underlying5 K (fun _ h=>(by rw [Nat.zero_add]; exact (hg.below h.below hg.size).sg r (2*q) hlt (by omega))) ?_
       simp only [aP,lI,l0,lS]; refine xqC 22 66 rfl (.pointer (some ⟨w.heap.size+1,sg r (2*q),none⟩)) (fun w'=>ixWb (w.heap.size+1) (sg r (2*q)) s1 w' _ _ rfl rfl rfl) K ?_
       refine cellC (i:=23) (some 67) rfl .u32 (.int .u32 (m (sg r (2*q)))) (w.heap.size+1) (sg r (2*q)) 122 _ rfl rfl (by kernel_rfl) rfl rfl rfl (by kernel_rfl) (by kernel_rfl) (by kernel_rfl) (by kernel_rfl) (fun _ _ _ h=>h) Tryz.underlying122 K (fun _ h=>(h.get _ _ _ _ (mT _ mS)).cell (sg r (2*q)) s1) ?_; simp only [aP,lI,l0,lS]; refine xpC 24 68 (.int .i64 (r:Int)) K ?_
       refine xpC 25 69 (.int .i64 (q:Int)) K ?_; refine xqC 26 70 rfl (.int .i64 ((2*q:Nat):Int)) (fun w=>mulI .i64 _ _ _ _ _ _ _ rfl rfl rfl (by rw [xw6]; omega) w) K ?_; refine xqC 27 71 rfl (.int .i64 ((2*q+1:Nat):Int)) (fun w=>addI .i64 _ _ _ _ _ _ _ rfl rfl rfl (by rw [xw6]; omega) w) K ?_
       refine xqC 28 72 rfl (.pointer (some ⟨5,0+r*16,none⟩)) (fun w'=>idxRows (P:=Tryz.prog) 182 50 10 16 .i64 5 0 r _ _ Tryz.underlying182 (fun _=>by kernel_rfl) hlt rfl rfl rfl w') K ?_
       refine xqC 29 73 rfl (.pointer (some ⟨5,0+r*16+(2*q+1),none⟩)) (fun w'=>idxArr (P:=Tryz.prog) 50 5 16 .i64 5 (0+r*16) (2*q+1) _ _ Tryz.underlying50 (fun _=>by kernel_rfl) (by omega) rfl rfl rfl w') K ?_
       refine cellCT (i:=30) 8 (some 74) rfl .u8 (.int .u8 ((sg r (2*q+1):Nat):Int)) 5 (0+r*16+(2*q+1)) 5 _ rfl (by kernel_rfl) (by kernel_rfl) rfl rfl rfl (by kernel_rfl) (by kernel_rfl) (by kernel_rfl) (by kernel_rfl) (fun _ _ _ h=>h) Tryz.underlying5 K (fun _ h=>(by rw [Nat.zero_add]; exact (hg.below h.below hg.size).sg r (2*q+1) hlt (by omega))) ?_
       simp only [aP,lI,l0,lS]; refine xqC 31 75 rfl (.pointer (some ⟨w.heap.size+1,sg r (2*q+1),none⟩)) (fun w'=>ixWb (w.heap.size+1) (sg r (2*q+1)) s2 w' _ _ rfl rfl rfl) K ?_
       refine cellC (i:=32) (some 76) rfl .u32 (.int .u32 (m (sg r (2*q+1)))) (w.heap.size+1) (sg r (2*q+1)) 122 _ rfl rfl (by kernel_rfl) rfl rfl rfl (by kernel_rfl) (by kernel_rfl) (by kernel_rfl) (by kernel_rfl) (fun _ _ _ h=>h) Tryz.underlying122 K (fun _ h=>(h.get _ _ _ _ (mT _ mS)).cell (sg r (2*q+1)) s2) ?_; simp only [aP,lI,l0,lS]
       refine callC (S2:=fun _=>True) (some 77) rfl (by kernel_rfl) rfl rfl (fun _=>by kernel_rfl) (bmix_any (v A) (v B) (v C) (v D) (m (sg r (2*q))) (m (sg r (2*q+1))) _) (by kernel_rfl) ?_; rintro e w' ⟨rfl,rfl⟩
       refine ⟨_,rfl,?_⟩
       simp only [aP,lI,l0,lS]
       have T:True:=trivial
       refine xpH 34 43 (.tuple #[.int .u32 (bA (v A) (v B) (v C) (v D) (m (sg r (2*q))) (m (sg r (2*q+1)))),.int .u32 (bB (v A) (v B) (v C) (v D) (m (sg r (2*q))) (m (sg r (2*q+1)))),.int .u32 (bC (v A) (v B) (v C) (v D) (m (sg r (2*q))) (m (sg r (2*q+1)))),.int .u32 (bD (v A) (v B) (v C) (v D) (m (sg r (2*q))) (m (sg r (2*q+1))))]) T ?_
       refine xpH 35 78 (.int .u32 (bA (v A) (v B) (v C) (v D) (m (sg r (2*q))) (m (sg r (2*q+1))))) T ?_; refine xpH 36 79 (.int .u32 (bB (v A) (v B) (v C) (v D) (m (sg r (2*q))) (m (sg r (2*q+1))))) T ?_; refine xpH 37 80 (.int .u32 (bC (v A) (v B) (v C) (v D) (m (sg r (2*q))) (m (sg r (2*q+1))))) T ?_
       refine xpH 38 81 (.int .u32 (bD (v A) (v B) (v C) (v D) (m (sg r (2*q))) (m (sg r (2*q+1))))) T ?_; have h0:=K.get _ _ _ _ mS
       replace K:=K.loose [(w.heap.size+1,.u32,16,m),(w.heap.size,.u32,8,h)] X .u32 16 v mS (fun p hp=>by rcases xc1 hp with rfl | hp; exact (mT _ mS); obtain rfl:=xm1 hp; exact (mI 2 rfl)) (fun p hp=>by rcases xc1 hp with rfl | hp; simp only; omega; obtain rfl:=xm1 hp; simp only; omega) (by omega)
       refine xqH 39 82 rfl (.pointer (some ⟨X,A,none⟩)) (fun w'=>ixWb X A l1 w' _ _ rfl rfl rfl) T ?_; refine storeH (i:=40) none rfl .u32 (bA (v A) (v B) (v C) (v D) (m (sg r (2*q))) (m (sg r (2*q+1)))) X A 122 _ _ (by kernel_rfl) rfl rfl rfl rfl rfl (by rw [h0.cell A l1]; rfl) (h0.free A l1) (by kernel_rfl) T ?_; simp only [Act.put]
       have h1:=h0.set A l1 (bA (v A) (v B) (v C) (v D) (m (sg r (2*q))) (m (sg r (2*q+1)))); replace K:=K.poke X 16 mS A [.int .u32 (bA (v A) (v B) (v C) (v D) (m (sg r (2*q))) (m (sg r (2*q+1))))]; clear h0; refine xqH 41 83 rfl (.pointer (some ⟨X,B,none⟩)) (fun w'=>ixWb X B l2 w' _ _ rfl rfl rfl) T ?_
       refine storeH (i:=42) none rfl .u32 (bB (v A) (v B) (v C) (v D) (m (sg r (2*q))) (m (sg r (2*q+1)))) X B 122 _ _ (by kernel_rfl) rfl rfl rfl rfl rfl (by rw [h1.cell B l2]; rfl) (h1.free B l2) (by kernel_rfl) T ?_; simp only [Act.put]; have h2:=h1.set B l2 (bB (v A) (v B) (v C) (v D) (m (sg r (2*q))) (m (sg r (2*q+1))))
       replace K:=K.poke X 16 mS B [.int .u32 (bB (v A) (v B) (v C) (v D) (m (sg r (2*q))) (m (sg r (2*q+1))))]; clear h1; refine xqH 43 84 rfl (.pointer (some ⟨X,C,none⟩)) (fun w'=>ixWb X C l3 w' _ _ rfl rfl rfl) T ?_
       refine storeH (i:=44) none rfl .u32 (bC (v A) (v B) (v C) (v D) (m (sg r (2*q))) (m (sg r (2*q+1)))) X C 122 _ _ (by kernel_rfl) rfl rfl rfl rfl rfl (by rw [h2.cell C l3]; rfl) (h2.free C l3) (by kernel_rfl) T ?_; simp only [Act.put]; have h3:=h2.set C l3 (bC (v A) (v B) (v C) (v D) (m (sg r (2*q))) (m (sg r (2*q+1))))
       replace K:=K.poke X 16 mS C [.int .u32 (bC (v A) (v B) (v C) (v D) (m (sg r (2*q))) (m (sg r (2*q+1))))]; clear h2; refine xqH 45 85 rfl (.pointer (some ⟨X,D,none⟩)) (fun w'=>ixWb X D l4 w' _ _ rfl rfl rfl) T ?_
       refine storeH (i:=46) none rfl .u32 (bD (v A) (v B) (v C) (v D) (m (sg r (2*q))) (m (sg r (2*q+1)))) X D 122 _ _ (by kernel_rfl) rfl rfl rfl rfl rfl (by rw [h3.cell D l4]; rfl) (h3.free D l4) (by kernel_rfl) T ?_; simp only [Act.put]; have h4:=h3.set D l4 (bD (v A) (v B) (v C) (v D) (m (sg r (2*q))) (m (sg r (2*q+1))))
       replace K:=K.poke X 16 mS D [.int .u32 (bD (v A) (v B) (v C) (v D) (m (sg r (2*q))) (m (sg r (2*q+1))))]; clear h3
       refine wpAnyH_done (by kernel_rfl) ?_ _
       rw [← HT.out] at h4
       replace K:=K.settle [(w.heap.size+1+1,8)] X .u32 16 _ mS (fun q hq=>mT _ hq) (fun q hq=>by obtain rfl:=xm1 hq; simp only; omega) h4; have HS:=show Hid _ from K; clear K h4 T l1 l2 l3 l4 HT; go_wp2
       go_roundw
       case rel=>first | exact ⟨q+1,by omega,by go_num,HS.out⟩ | ((repeat apply Exists.intro); refine ⟨⟨q+1,by omega,by go_num,HS.out⟩,rfl⟩)
       case measure=>simp [intOf]; omega
     · obtain rfl:q=8:=by omega
       have HS:=show Hid (Kr w (X+1) [(X,.u32,16,bR m v0 (r+1)),(w.heap.size+1,.u32,16,m),(w.heap.size,.u32,8,h)] [(w.heap.size+1+1,8)] wr) from K; clear K hlt2 hq g3; go_wp2
       go_roundw
       case rel=>first | exact ⟨r+1,by omega,by go_num,HS.out⟩ | ((repeat apply Exists.intro); refine ⟨⟨r+1,by omega,by go_num,HS.out⟩,rfl⟩)
       case measure=>simp [intOf]; omega
  · obtain rfl:r=10:=by omega
    clear hlt hr g1; generalize bR m v0 10=F at *
    replace K:Kr w (X+1) [(w.heap.size,.u32,8,h),(X,.u32,16,F)] [(w.heap.size+1+1,8)] wr:=K.sub _ (fun p hp=>by rcases xc1 hp with rfl | hp; exact (mI 2 rfl); obtain rfl:=xm1 hp; exact mS)
    go_wp2
    go_loopw [88] (fun i w'=>∃ (n:Nat) (f:Nat→Int),n≤8∧i=.int .i64 n∧Kr w (X+1) [(w.heap.size,.u32,8,f),(X,.u32,16,F)] [(w.heap.size+1+1,8)] w'∧(∀ j,j<n→f j=G j)∧∀ j,n≤j→f j=h j) (fun i _=>8-(intOf i).toNat)
    case atStart=>exact ⟨0,h,by omega,rfl,K,fun j hj=>by omega,fun _ _=>rfl⟩
    case round =>
     clear K
     obtain ⟨n,f,hn,rfl,K,hd,hk⟩:=hrel
     have g1:(0:Int)≤(n:Int):=by omega
     by_cases hlt:n<8
     · have g2:(n:Int)<8:=by omega
       have hz0:=K.base
       have HX:hxr (f n) (hxr (F n) (F (n+8)))=G n:=by rw [hk n (xnR _)]; exact HG.out n hlt
       have l8:n<16:=by omega
       have l88:n+8<16:=by omega
       go_upto_region 15 with fail; refine wp_region_C (S:=fun w'=>Kr w (X+1) [(w.heap.size,.u32,8,f),(X,.u32,16,F)] [(w.heap.size+1+1,8)] w') 13 (by kernel_rfl) K.drew ?_; clear K; intro K; generalize wr.drew=w4 at K ⊢; refine xpC 0 91 (.int .i64 (n:Int)) K ?_
       refine xqC 1 92 rfl (.pointer (some ⟨w.heap.size,n,none⟩)) (fun w'=>ixS (w.heap.size) n hlt w' _ _ rfl rfl rfl) K ?_; refine cellC (i:=2) (some 93) rfl .u32 (.int .u32 (f n)) (w.heap.size) n 122 _ rfl rfl (by kernel_rfl) rfl rfl rfl (by kernel_rfl) (by kernel_rfl) (by kernel_rfl) (by kernel_rfl) (fun _ _ _ h=>h) Tryz.underlying122 K (fun _ h=>(h.get _ _ _ _ mS).cell n hlt) ?_
       simp only [aP,lI,l0,lS]; refine xpC 3 94 (.int .i64 (n:Int)) K ?_; refine xqC 4 95 rfl (.pointer (some ⟨X,n,none⟩)) (fun w'=>ixW X n l8 w' _ _ rfl rfl rfl) K ?_
       refine cellC (i:=5) (some 96) rfl .u32 (.int .u32 (F n)) X n 122 _ rfl rfl (by kernel_rfl) rfl rfl rfl (by kernel_rfl) (by kernel_rfl) (by kernel_rfl) (by kernel_rfl) (fun _ _ _ h=>h) Tryz.underlying122 K (fun _ h=>(h.get _ _ _ _ (mT _ mS)).cell n l8) ?_; simp only [aP,lI,l0,lS]; refine xpC 6 97 (.int .i64 (n:Int)) K ?_
       refine xqC 7 98 rfl (.int .i64 ((n+8:Nat):Int)) (fun w=>addI .i64 _ _ _ _ _ _ _ rfl rfl rfl (by rw [xw6]; omega) w) K ?_; refine xqC 8 99 rfl (.pointer (some ⟨X,n+8,none⟩)) (fun w'=>ixW X (n+8) l88 w' _ _ rfl rfl rfl) K ?_
       refine cellC (i:=9) (some 100) rfl .u32 (.int .u32 (F (n+8))) X (n+8) 122 _ rfl rfl (by kernel_rfl) rfl rfl rfl (by kernel_rfl) (by kernel_rfl) (by kernel_rfl) (by kernel_rfl) (fun _ _ _ h=>h) Tryz.underlying122 K (fun _ h=>(h.get _ _ _ _ (mT _ mS)).cell (n+8) l88) ?_; simp only [aP,lI,l0,lS]
       refine xqC 10 101 rfl (.int .u32 (hxr (F n) (F (n+8)))) (fun w=>xorI .u32 _ _ _ _ _ _ _ rfl rfl rfl rfl w) K ?_; refine xqC 11 102 rfl (.int .u32 (G n)) (fun w=>xorI .u32 _ _ _ _ _ _ _ rfl rfl rfl HX w) K ?_; refine xqC 12 103 rfl (.pointer (some ⟨w.heap.size,n,none⟩)) (fun w'=>ixS (w.heap.size) n hlt w' _ _ rfl rfl rfl) K ?_
       refine storeC (S2:=fun _=>True) none rfl .u32 (G n) (w.heap.size) n 122 _ _ (by kernel_rfl) rfl rfl rfl rfl rfl (by rw [(K.get _ _ _ _ mS).cell n hlt]; rfl) ((K.get _ _ _ _ mS).free n hlt) (by kernel_rfl) (by kernel_rfl) ?_
       simp only [Act.put]
       refine wpAnyH_done (by kernel_rfl) ?_ _
       replace K:=K.setCell [(X,.u32,16,F)] (w.heap.size) .u32 8 f n hlt (G n) mS (fun p hp=>by obtain rfl:=xm1 hp; exact (mT _ mS)) (fun p hp=>by obtain rfl:=xm1 hp; simp only; omega) (xnR _)
       have HS:=show Hid _ from (And.intro K (And.intro (show ∀ j,j<n+1→upd f n (G n) j=G j from fun j hj=>by
        by_cases e:j=n
        · subst e; rw [upd_same]
        · rw [upd_other _ _ _ _ e]; exact hd j (by omega)) (show ∀ j,n+1≤j→upd f n (G n) j=h j from fun j hj=>by rw [upd_other _ _ _ _ (show j≠n by omega)]; exact hk j (by omega))))
       clear K hd hk HX; generalize w4.setCell ⟨w.heap.size,n,none⟩ (.int .u32 (G n))=w5 at HS ⊢; generalize upd f n (G n)=f' at HS; go_wp2
       go_roundw
       case rel=>first | exact ⟨n+1,f',by omega,by go_num,HS.out⟩ | ((repeat apply Exists.intro); refine ⟨⟨n+1,f',by omega,by go_num,HS.out⟩,rfl⟩)
       case measure=>simp [intOf]; omega
     · obtain rfl:n=8:=by omega
       have HR:=(K.get _ _ _ _ mS).congr (g:=G) (fun j hj=>hd j hj)
       have hz':=(K.room _ mS).1
       have hB:=(K.fill _ _ mS (row .u32 8 G)).below; clear K hd hk hlt hn g1
       go_wp2_with (first | (refine wpList_load_mid rfl 142 _ rfl (w.heap.size) 0 rfl (row .u32 8 (G)) _ (Has.range (HR)) Tryz.underlying142 rfl (bst_info _) ?_) | (refine wpList_store_mid rfl 142 _ _ rfl (w.heap.size+1+1) 0 (row .u32 8 G).toArray rfl rfl (room_of hz') (bst_info' _) (all_oneCell_toArray (row_one _ _ _)) ?_))
       exact bodyPost_ret (v:=(.agg (row .u32 8 (G)).toArray)) (results_row Tryz.results145 rfl (Has.all hz' .u32 G).range Tryz.underlying142 rfl (bst_info G)) rfl ⟨by first | rfl | rw [hGe],hB⟩
theorem bfinish_any (h0:Nat→Int) (hh:In V 8 h0) (n:Nat) (f:Nat→Int) (c:Nat) (sp:Option Addr) (len cap:Nat) (hn:n≤64*c+len) (hn':64*c+len≤n) (hc:c=0∨0<len) (hlen:n≤281474976710656) (hcap:len≤cap) (z:Nat→Int) (hz:In 256 len z) (hf:∀ j,f (64*c+j)=padz len z j) (w:World) (hg:BGlob w) (hs:Src w sp len z) :
 Calls Tryz.prog 144 #[(.agg (row .u32 8 (tH h0 n f c)).toArray),.int .u64 ((64*c:Nat):Int),.slice sp len cap] w fun e w'=>e=.returned (.agg (row .u32 8 (tH h0 n f (nbt n))).toArray)∧Below w.heap.size w w':=by
 have K:=Kr.init w; replace K:=K.box .u32 8 (tH h0 n f c) 142 (w.heap.size) rfl; replace K:=K.make 8 zu32_8 142 (w.heap.size+1) (by simp) (bst_zero _ _ _ (by simp)).there
 go_enter Tryz.func144,Tryz.ntmps144
 go_upto_region 1 with fail; generalize ((w.alloc (.cells (row .u32 8 (tH h0 n f c)).toArray 142)).alloc (.cells zu32_8 142))=w0 at K ⊢
 go_loopw [1,2] (fun d b w'=>∃ (i L:Nat) (sq:Option Addr) (cq:Nat),64*i+L=len∧(c+i=0∨0<L)∧L≤cq∧d=.int .u64 ((64*(c+i):Nat):Int)∧b=.slice sq L cq∧Src w sq L (fun j=>z (64*i+j))∧Kr w (w.heap.size+1+1) [(w.heap.size,.u32,8,tH h0 n f (c+i))] [(w.heap.size+1,8)] w') (fun _ b _=>slen b)
 case atStart=>exact ⟨0,len,sp,cap,by omega,by omega,hcap,rfl,rfl,by simpa using hs,K⟩
 case round =>
  clear K hs
  obtain ⟨i,L,sq,cq,hL,hp,hLc,rfl,rfl,hs,K⟩:=hrel
  by_cases hlt:64<L
  · have g1:(64:Int)<(L:Int):=by omega
    obtain ⟨sh,hh1,hh2⟩:=cut_hi (P:=Tryz.prog) (t:=32) (by kernel_rfl) (fun _=>by kernel_rfl) sq L cq 64 (by omega) hLc
    obtain ⟨sl,hl1,hl2⟩:=cut_lo (P:=Tryz.prog) (t:=32) (by kernel_rfl) (fun _=>by kernel_rfl) sq L cq 64 (by omega) hLc
    have HP:=show Hid _ from (show bpr (tH h0 n f (c+i)) (padz 64 (fun j=>z (64*i+j))) ((64*(c+i)+64:Nat):Int) false=tH h0 n f (c+i+1) from by
     have e1:min (64*(c+i)+64) n=64*(c+i)+64:=by omega
     have e2:decide (c+i+1=nbt n)=false:=decide_eq_false (by unfold nbt; rw [if_neg (by omega)]; omega)
     conv=>rhs; unfold tH; rw [e1,e2]
     refine bpr_congr _ _ _ _ _ (fun j hj=>?_)
     have e3:=hf (64*i+j)
     rw [show 64*c+(64*i+j)=64*(c+i)+j by omega] at e3
     rw [e3]
     unfold padz
     rw [if_pos hj,if_pos (by omega)])
    go_upto_region 2 with fail; refine wp_region_list ?_; refine xpL (.int .u64 ((64*(c+i):Nat):Int)) ?_; refine xqL (.int .u64 ((64*(c+i)+64:Nat):Int)) (fun w=>addI .u64 _ _ _ _ _ _ _ rfl rfl rfl (by rw [IntKind.wrap_u64]; omega) w) ?_; refine xpL (.int .u64 ((64*(c+i)+64:Nat):Int)) ?_; show Exit.then _ _ _ _ _; go_upto_region 3 with fail
    refine wp_region_C (S:=fun w'=>Kr w (w.heap.size+1+1) [(w.heap.size,.u32,8,tH h0 n f (c+i))] [(w.heap.size+1,8)] w') 6 (by kernel_rfl) K.drew ?_; clear K; intro K
    refine rowC (i:=0) (some 12) rfl .u32 8 (tH h0 n f (c+i)) (w.heap.size) 0 142 _ _ rfl rfl (by kernel_rfl) rfl rfl rfl (by kernel_rfl) (by kernel_rfl) (by kernel_rfl) (by kernel_rfl) (fun _ _ _ h=>h) Tryz.underlying142 rfl (bst_info _) K (fun _ h=>(h.get _ _ _ _ mS).range) ?_; simp only [aP,lI,l0,lS]; refine xpC 1 13 (.slice sq L cq) K ?_
    refine xqC 2 14 rfl (.slice sh 64 cq) (fun w=>cutHi _ _ _ _ _ _ rfl rfl rfl (hh1 w)) K ?_; refine xpC 4 16 (.int .u64 ((64*(c+i)+64:Nat):Int)) K ?_; refine callMC (i:=3) (some 15) rfl (by kernel_rfl) rfl rfl (fun _=>by kernel_rfl) (bload_any sh 64 cq (xnR _) (fun j=>z (64*i+j)) (fun j hj=>hz _ (by omega)) _ ((hh2 _ _ hs).below K.below (xnR _))) ?_; rintro e w2 ⟨rfl,l⟩
    replace K:=K.call l; clear l
    refine ⟨_,rfl,K,?_⟩
    simp only [aP,lI,l0,lS]; refine callMC (i:=5) (some 17) rfl (by kernel_rfl) rfl rfl (fun _=>by kernel_rfl) (bpress_any (tH h0 n f (c+i)) (tH_in h0 n f hh _) (padz 64 (fun j=>z (64*i+j))) ((64*(c+i)+64:Nat):Int) false _ (hg.below K.below hg.size)) ?_; rintro e w3 ⟨rfl,l⟩; replace K:=K.call l; clear l
    refine ⟨_,rfl,K,?_⟩
    simp only [aP,lI,l0,lS]
    rw [HP.out]
    refine storesC (S2:=fun _=>True) none rfl .u32 8 (tH h0 n f (c+i+1)) (w.heap.size) 142 _ _ (by kernel_rfl) rfl rfl rfl rfl rfl (bst_there (K.get _ _ _ _ mS)) (bst_info' _) (by kernel_rfl) ?_; simp only [Act.put]
    refine wpAnyH_done (by kernel_rfl) ?_ _
    replace K:=K.set [] (w.heap.size) .u32 8 (tH h0 n f (c+i)) (tH h0 n f (c+i+1)) mS (fun _ hp=>by cases hp) (fun _ hp=>by cases hp) (xnR _); generalize w3.setCells (w.heap.size) 0 (row .u32 8 (tH h0 n f (c+i+1)))=w4 at K ⊢; clear HP hh1 hh2; go_upto_region 4 with fail; refine wp_region_list ?_; refine xpL (.slice sq L cq) ?_
    refine xqL (.slice sl (L-64) (cq-64)) (fun w=>cutOp _ _ _ _ _ _ rfl rfl rfl (hl1 w)) ?_; refine xpL (.slice sl (L-64) (cq-64)) ?_
    have HS:=show Hid _ from (And.intro (show Src w sl (L-64) (fun j=>z (64*(i+1)+j)) from (hl2 _ _ hs).congr (fun j hj=>by show z (64*i+(64+j))=_; congr 1; omega)) (show Kr w (w.heap.size+1+1) [(w.heap.size,.u32,8,tH h0 n f (c+(i+1)))] [(w.heap.size+1,8)] w4 from K)); clear K hs hl1 hl2
    show Exit.inBlock _ _ _ _ _
    go_wp2
    go_roundw
    case rel=>first | exact ⟨i+1,L-64,sl,cq-64,by omega,by omega,by omega,by congr 1,rfl,HS.out⟩ | ((repeat apply Exists.intro); refine ⟨⟨i+1,L-64,sl,cq-64,by omega,by omega,by omega,by congr 1,rfl,HS.out⟩,rfl⟩)
    case measure=>simp [slen]; omega
  · have g1:(L:Int)≤64:=by omega
    have HP:=show Hid _ from (show bpr (tH h0 n f (c+i)) (padz L (fun j=>z (64*i+j))) ((64*(c+i)+L:Nat):Int) true=tH h0 n f (nbt n) from by
     have e0:nbt n=c+i+1:=by
      unfold nbt
      split
      · omega
      · omega
     have e1:min (64*(c+i)+64) n=64*(c+i)+L:=by omega
     have e2:decide (c+i+1=c+i+1)=true:=decide_eq_true rfl
     rw [e0]
     conv=>rhs; unfold tH; rw [e1,e0,e2]
     refine bpr_congr _ _ _ _ _ (fun j hj=>?_)
     have e3:=hf (64*i+j)
     rw [show 64*c+(64*i+j)=64*(c+i)+j by omega] at e3
     rw [e3]
     unfold padz
     by_cases e:j<L
     · rw [if_pos e,if_pos (by omega)]
     · rw [if_neg e,if_neg (by omega)])
    go_upto_region 5 with fail; refine wp_region_C (S:=fun w'=>Kr w (w.heap.size+1+1) [(w.heap.size,.u32,8,tH h0 n f (c+i))] [(w.heap.size+1,8)] w') 9 (by kernel_rfl) K.drew ?_; clear K; intro K
    refine rowC (i:=0) (some 20) rfl .u32 8 (tH h0 n f (c+i)) (w.heap.size) 0 142 _ _ rfl rfl (by kernel_rfl) rfl rfl rfl (by kernel_rfl) (by kernel_rfl) (by kernel_rfl) (by kernel_rfl) (fun _ _ _ h=>h) Tryz.underlying142 rfl (bst_info _) K (fun _ h=>(h.get _ _ _ _ mS).range) ?_; simp only [aP,lI,l0,lS]; refine xpC 1 21 (.slice sq L cq) K ?_
    refine xpC 3 23 (.int .u64 ((64*(c+i):Nat):Int)) K ?_; refine xpC 4 24 (.slice sq L cq) K ?_; refine xqC 5 25 rfl (.int .i64 (L:Int)) (fun w=>lenS _ 32 5 sq L cq rfl Tryz.underlying32 rfl w) K ?_; refine xqC 6 26 rfl (.int .u64 (L:Int)) (fun w=>convI .i64 .u64 _ _ _ _ _ rfl (by kernel_rfl) Tryz.underlying58 (by kernel_rfl) rfl (by rw [IntKind.wrap_u64]; omega) w) K ?_
    refine xqC 7 27 rfl (.int .u64 ((64*(c+i)+L:Nat):Int)) (fun w=>addI .u64 _ _ _ _ _ _ _ rfl rfl rfl (by rw [IntKind.wrap_u64]; omega) w) K ?_; refine callMC (i:=2) (some 22) rfl (by kernel_rfl) rfl rfl (fun _=>by kernel_rfl) (bload_any sq L cq (by omega) (fun j=>z (64*i+j)) (fun j hj=>hz _ (by omega)) _ (hs.below K.below (xnR _))) ?_; rintro e w2 ⟨rfl,l⟩
    replace K:=K.call l; clear l
    refine ⟨_,rfl,K,?_⟩
    simp only [aP,lI,l0,lS]; refine callMC (i:=8) (some 28) rfl (by kernel_rfl) rfl rfl (fun _=>by kernel_rfl) (bpress_any (tH h0 n f (c+i)) (tH_in h0 n f hh _) (padz L (fun j=>z (64*i+j))) ((64*(c+i)+L:Nat):Int) true _ (hg.below K.below hg.size)) ?_; rintro e w3 ⟨rfl,l⟩; replace K:=K.call l; clear l
    refine ⟨_,rfl,K,?_⟩
    simp only [aP,lI,l0,lS]
    rw [HP.out]
    have hz':=(K.room _ mS).1
    refine storesC (S2:=fun _=>True) none rfl .u32 8 (tH h0 n f (nbt n)) (w.heap.size+1) 142 _ _ (by kernel_rfl) rfl rfl rfl rfl rfl (room_of hz') (bst_info' _) (by kernel_rfl) ?_; simp only [Act.put]
    refine wpAnyH_done (by kernel_rfl) ?_ _
    have hB:=(K.fill _ _ mS (row .u32 8 (tH h0 n f (nbt n)))).below; clear K HP hs hp; generalize hGe:tH h0 n f (nbt n)=G at *; go_wp2
    exact bodyPost_ret (v:=(.agg (row .u32 8 (G)).toArray)) (results_row Tryz.results144 rfl (Has.all hz' .u32 G).range Tryz.underlying142 rfl (bst_info G)) rfl ⟨by first | rfl | rw [hGe] | (rw [← hGe]; done) | (rw [← hGe,Nat.zero_add]; done) | (rw [← hGe,Nat.add_zero]; done),hB⟩
theorem brun_any (h0:Nat→Int) (hh:In V 8 h0) (fp:Option Addr) (fl fc:Nat) (hfl:fl=0∨fl=64) (hfc:fl≤fc) (y:Nat→Int) (hy:In 256 fl y) (sp:Option Addr) (len cap:Nat) (hlen:len≤140737488355072) (hcap:len≤cap) (z:Nat→Int) (hz:In 256 len z) (w:World) (hg:BGlob w) (hf:Src w fp fl y) (hs:Src w sp len z) :
 Calls Tryz.prog 121 #[(.agg (row .u32 8 (h0)).toArray),.slice fp fl fc,.slice sp len cap] w fun e w'=>e=.returned (.agg (row .u32 8 (tH h0 (fl+len) (tx2 fl y len z) (nbt (fl+len)))).toArray)∧Below w.heap.size w w':=by
 have K:=Kr.init w; replace K:=K.box .u32 8 h0 142 (w.heap.size) rfl; replace K:=K.make 8 zu32_8 142 (w.heap.size+1) (by simp) (bst_zero _ _ _ (by simp)).there
 go_enter Tryz.func121,Tryz.ntmps121
 go_upto_region 1 with fail; generalize ((w.alloc (.cells (row .u32 8 h0).toArray 142)).alloc (.cells zu32_8 142))=w0 at K ⊢
 rcases hfl with rfl | rfl
 · go_upto_region 2 with fail
   refine wp_region_list ?_; refine rowKL .u32 8 (h0) (w.heap.size) 0 142 _ _ rfl rfl rfl Tryz.underlying142 rfl (bst_info _) ((K.get _ _ _ _ mS).range) ?_; simp only [aP,lI,l0,lS]; refine xpL (.slice sp len cap) ?_
   refine xcL (bfinish_any h0 hh (0+len) (tx2 0 y len z) 0 sp len cap (by omega) (by omega) (.inl rfl) (by omega) hcap z hz (fun j=>by unfold tx2; rw [if_neg (xnZ _),Nat.sub_zero,Nat.mul_zero,Nat.zero_add]) _ (hg.below K.below hg.size) (hs.below K.below (xnR _))) ?_
   rintro e w1 ⟨rfl,l⟩; replace K:=K.call l; clear l; refine xeL ?_
   have hz':=(K.room _ mS).1
   refine storesL .u32 8 (tH h0 (0+len) (tx2 0 y len z) (nbt (0+len))) (w.heap.size+1) 142 _ _ rfl rfl rfl rfl (room_of hz') (bst_info' _) ?_; simp only [Act.put]; have hB:=(K.fill _ _ mS (row .u32 8 (tH h0 (0+len) (tx2 0 y len z) (nbt (0+len))))).below; clear K; generalize hGe:(tH h0 (0+len) (tx2 0 y len z) (nbt (0+len)))=G at *; show Exit.then _ _ _ _ _; go_wp2
   exact bodyPost_ret (v:=(.agg (row .u32 8 (G)).toArray)) (results_row Tryz.results121 rfl (Has.all hz' .u32 G).range Tryz.underlying142 rfl (bst_info G)) rfl ⟨by first | rfl | rw [hGe] | (rw [← hGe]; done) | (rw [← hGe,Nat.zero_add]; done) | (rw [← hGe,Nat.add_zero]; done),hB⟩
 · by_cases hl0:len=0
   · subst hl0
     go_upto_region 4 with fail; refine wp_region_list ?_; refine rowKL .u32 8 (h0) (w.heap.size) 0 142 _ _ rfl rfl rfl Tryz.underlying142 rfl (bst_info _) ((K.get _ _ _ _ mS).range) ?_; simp only [aP,lI,l0,lS]; refine xpL (.slice fp 64 fc) ?_
     refine xcL (bfinish_any h0 hh (64+0) (tx2 64 y 0 z) 0 fp 64 fc (by omega) (by omega) (.inl rfl) (by omega) hfc y hy (tx2_none y z) _ (hg.below K.below hg.size) (hf.below K.below (xnR _))) ?_; rintro e w1 ⟨rfl,l⟩; replace K:=K.call l; clear l; refine xeL ?_
     have hz':=(K.room _ mS).1
     refine storesL .u32 8 (tH h0 (64+0) (tx2 64 y 0 z) (nbt (64+0))) (w.heap.size+1) 142 _ _ rfl rfl rfl rfl (room_of hz') (bst_info' _) ?_; simp only [Act.put]; have hB:=(K.fill _ _ mS (row .u32 8 (tH h0 (64+0) (tx2 64 y 0 z) (nbt (64+0))))).below; clear K; generalize hGe:(tH h0 (64+0) (tx2 64 y 0 z) (nbt (64+0)))=G at *; show Exit.then _ _ _ _ _; go_wp2
     exact bodyPost_ret (v:=(.agg (row .u32 8 (G)).toArray)) (results_row Tryz.results121 rfl (Has.all hz' .u32 G).range Tryz.underlying142 rfl (bst_info G)) rfl ⟨by first | rfl | rw [hGe] | (rw [← hGe]; done) | (rw [← hGe,Nat.zero_add]; done) | (rw [← hGe,Nat.add_zero]; done),hB⟩
   · have g1:(len:Int)≠0:=by omega
     have HP:=show Hid _ from (show bpr h0 (padz 64 y) ((64:Nat):Int) false=tH h0 (64+len) (tx2 64 y len z) 1 from by
      have e1:min (64*0+64) (64+len)=64:=by omega
      have e2:decide (0+1=nbt (64+len))=false:=decide_eq_false (by unfold nbt; rw [if_neg (by omega)]; omega)
      conv=>rhs; unfold tH; rw [e1,e2]
      refine bpr_congr _ _ _ _ _ (fun j hj=>?_)
      unfold padz tx2
      rw [if_pos hj,if_pos (show 64*0+j<64 by omega),Nat.mul_zero,Nat.zero_add])
     go_upto_region 5 with fail; refine wp_region_C (S:=fun w'=>Kr w (w.heap.size+1+1) [(w.heap.size,.u32,8,h0)] [(w.heap.size+1,8)] w') 6 (by kernel_rfl) K.drew ?_; clear K; intro K
     refine rowC (i:=0) (some 19) rfl .u32 8 (h0) (w.heap.size) 0 142 _ _ rfl rfl (by kernel_rfl) rfl rfl rfl (by kernel_rfl) (by kernel_rfl) (by kernel_rfl) (by kernel_rfl) (fun _ _ _ h=>h) Tryz.underlying142 rfl (bst_info _) K (fun _ h=>(h.get _ _ _ _ mS).range) ?_; simp only [aP,lI,l0,lS]; refine xpC 1 20 (.slice fp 64 fc) K ?_; refine xpC 4 23 (.slice sp len cap) K ?_
     refine callMC (i:=2) (some 21) rfl (by kernel_rfl) rfl rfl (fun _=>by kernel_rfl) (bload_any fp 64 fc (xnR _) y hy _ (hf.below K.below (xnR _))) ?_; rintro e w2 ⟨rfl,l⟩; replace K:=K.call l; clear l
     refine ⟨_,rfl,K,?_⟩
     simp only [aP,lI,l0,lS]; refine callMC (i:=3) (some 22) rfl (by kernel_rfl) rfl rfl (fun _=>by kernel_rfl) (bpress_any h0 hh (padz 64 y) ((64:Nat):Int) false _ (hg.below K.below hg.size)) ?_; rintro e w3 ⟨rfl,l⟩; replace K:=K.call l; clear l
     refine ⟨_,rfl,K,?_⟩
     simp only [aP,lI,l0,lS]
     rw [HP.out]
     refine callMC (i:=5) (some 24) rfl (by kernel_rfl) rfl rfl (fun _=>by kernel_rfl) (bfinish_any h0 hh (64+len) (tx2 64 y len z) 1 sp len cap (by omega) (by omega) (.inr (by omega)) (by omega) hcap z hz (fun j=>by unfold tx2; rw [if_neg (show ¬ 64*1+j<64 by omega),show 64*1+j-64=j by omega]) _ (hg.below K.below hg.size) (hs.below K.below (xnR _))) ?_
     rintro e w4 ⟨rfl,l⟩; replace K:=K.call l; clear l
     refine ⟨_,rfl,K,?_⟩
     simp only [aP,lI,l0,lS]
     have hz':=(K.room _ mS).1
     refine storesC (S2:=fun _=>True) none rfl .u32 8 (tH h0 (64+len) (tx2 64 y len z) (nbt (64+len))) (w.heap.size+1) 142 _ _ (by kernel_rfl) rfl rfl rfl rfl rfl (room_of hz') (bst_info' _) (by kernel_rfl) ?_; simp only [Act.put]
     refine wpAnyH_done (by kernel_rfl) ?_ _
     have hB:=(K.fill _ _ mS (row .u32 8 (tH h0 (64+len) (tx2 64 y len z) (nbt (64+len))))).below; clear K HP hs; generalize hGe:(tH h0 (64+len) (tx2 64 y len z) (nbt (64+len)))=G at *; go_wp2
     exact bodyPost_ret (v:=(.agg (row .u32 8 (G)).toArray)) (results_row Tryz.results121 rfl (Has.all hz' .u32 G).range Tryz.underlying142 rfl (bst_info G)) rfl ⟨by first | rfl | rw [hGe] | (rw [← hGe]; done) | (rw [← hGe,Nat.zero_add]; done) | (rw [← hGe,Nat.add_zero]; done),hB⟩
theorem bbehind_any (fp:Option Addr) (fl fc:Nat) (hfl:fl=0∨fl=64) (hfc:fl≤fc) (y:Nat→Int) (hy:In 256 fl y) (sp:Option Addr) (len cap:Nat) (hlen:len≤140737488355072) (hcap:len≤cap) (z:Nat→Int) (hz:In 256 len z) (w:World) (hg:BGlob w) (hf:Src w fp fl y) (hs:Src w sp len z) :
 Calls Tryz.prog 101 #[.slice fp fl fc,.slice sp len cap] w fun e w'=>e=.returned (.agg (row .u8 32 (bhash (fl+len) (app y fl z))).toArray)∧Below w.heap.size w w':=by
 have HE:=show Hid _ from bhash_tx2 fl y len z; have K:=Kr.init w; replace K:=K.make 32 zu8_32 23 (w.heap.size) rfl (key_zero _ _ _ rfl).there
 go_enter Tryz.func101,Tryz.ntmps101
 go_upto_region 1 with fail; generalize (w.alloc (.cells zu8_32 23))=w0 at K ⊢; refine wp_region_list ?_; refine xcL (bbegin_any 0 32 (by decide) (by decide) _ (hg.below K.below hg.size)) ?_; rintro e w1 ⟨rfl,l⟩; replace K:=K.call l; clear l; refine xeL ?_; refine xpL (.slice fp fl fc) ?_; refine xpL (.slice sp len cap) ?_
 refine xcL (brun_any (bh0 0 32) (bh0_in 0 32 (by decide) (by decide)) fp fl fc hfl hfc y hy sp len cap hlen hcap z hz _ (hg.below K.below hg.size) (hf.below K.below (xnR _)) (hs.below K.below (xnR _))) ?_; rintro e w2 ⟨rfl,l⟩; replace K:=K.call l; clear l; refine xeL ?_; refine xcL (bbytes_any (tH (bh0 0 32) (fl+len) (tx2 fl y len z) (nbt (fl+len))) _) ?_; rintro e w3 ⟨rfl,l⟩
 replace K:=K.call l; clear l; refine xeL ?_
 rw [← HE.out]
 have hz':=(K.room _ mS).1
 refine storesL .u8 32 (bhash (fl+len) (app y fl z)) (w.heap.size) 23 _ _ rfl rfl rfl rfl (room_of hz') (key_info' _) ?_; simp only [Act.put]; have hB:=(K.fill _ _ mS (row .u8 32 (bhash (fl+len) (app y fl z)))).below; clear K HE; generalize hGe:bhash (fl+len) (app y fl z)=G at *; show Exit.then _ _ _ _ _; go_wp2
 exact bodyPost_ret (v:=(.agg (row .u8 32 (G)).toArray)) (results_row Tryz.results101 rfl (Has.all hz' .u8 G).range Tryz.underlying23 rfl (key_info G)) rfl ⟨by first | rfl | rw [hGe] | (rw [← hGe]; done) | (rw [← hGe,Nat.zero_add]; done) | (rw [← hGe,Nat.add_zero]; done),hB⟩
theorem bpad_any (kp:Option Addr) (kl kc:Nat) (hkl:kl≤64) (key:Nat→Int) (c:Int) (w:World) (hk:Src w kp kl key) :
 Calls Tryz.prog 162 #[.slice kp kl kc,.int .u8 c] w fun e w'=>∃ g,e=.returned (.slice (some ⟨g,0,none⟩) 64 64)∧Has w' g .u8 64 (bxx c (padz kl key))∧(w.heap.size≤g∧g<w'.heap.size)∧Below w.heap.size w w':=by
 go_enter Tryz.func162,Tryz.ntmps162
 go_upto_region 1 with fail; have K:=(Kr.init w).box .u8 64 (fun _=>0) 5 (w.heap.size) rfl; refine wp_region_list ?_; refine actL (w':=w.alloc (.cells (row .u8 64 (fun _=>0)).toArray 5)) (.slice (some ⟨w.heap.size,0,none⟩) 64 64) rfl (makeOp 32 _ _ _ _ _ rfl rfl rfl (made8 64 (by decide) w)) ?_; simp only [aP,lI,l0,lS]; refine xpL (.slice (some ⟨w.heap.size,0,none⟩) 64 64) ?_
 show Exit.then _ _ _ _ _; go_upto_region 2 with fail; generalize w.alloc (.cells (row .u8 64 (fun _=>0)).toArray 5)=w0 at K ⊢; have HR:=K.get _ _ _ _ mS; replace K:=K.loose [] (w.heap.size) .u8 64 (fun _=>0) mS (fun _ hp=>by cases hp) (fun _ hp=>by cases hp) (xnR _); refine wp_region_list ?_; refine xpL (.slice (some ⟨w.heap.size,0,none⟩) 64 64) ?_; refine xpL (.slice kp kl kc) ?_
 refine xaL (.int .i64 (kl:Int)) (run_copy_src _ _ 32 32 5 rfl Tryz.underlying32 (by kernel_rfl) (w.heap.size) 64 64 kl kc 64 kp key rfl rfl hkl hkl HR.there (hk.below K.below (xnR _))) ?_; replace K:=K.fill (w.heap.size) 64 mS (row .u8 kl key)
 replace HR:=(HR.part 0 kl (by omega) key).congr (g:=padz kl key) (fun j hj=>by
  unfold over padz
  by_cases e:j<kl
  · rw [if_pos (by omega),if_pos e,Nat.sub_zero]
  · rw [if_neg (by omega),if_neg e])
 replace K:=K.settle [] (w.heap.size) .u8 64 (padz kl key) mS (fun _ hq=>by cases hq) (fun _ hq=>by cases hq) HR; generalize w0.setCells (w.heap.size) 0 (row .u8 kl key)=w1 at K ⊢; clear HR w0 hk hkl; show Exit.then _ _ _ _ _; generalize hpe:padz kl key=p at K; go_wp2
 go_loopw [13] (fun i w'=>∃ (n:Nat) (f:Nat→Int),n≤64∧i=.int .i64 n∧Kr w (w.heap.size+1) [(w.heap.size,.u8,64,f)] [] w'∧(∀ j,j<n→f j=bxx c p j)∧∀ j,n≤j→f j=p j) (fun i _=>64-(intOf i).toNat)
 case atStart=>exact ⟨0,p,by omega,rfl,K,fun j hj=>by omega,fun _ _=>rfl⟩
 case round =>
  clear K
  obtain ⟨n,f,hn,rfl,K,hd,hk⟩:=hrel
  have g1:(0:Int)≤(n:Int):=by omega
  by_cases hlt:n<64
  · have g2:(n:Int)<64:=by omega
    have HX:bits .xor .u8 (f n) c=bxx c p n:=by rw [hk n (xnR _)]; rfl
    go_upto_region 6 with fail; refine wp_region_list ?_; refine xpL (.slice (some ⟨w.heap.size,0,none⟩) 64 64) ?_; refine xpL (.int .i64 (n:Int)) ?_; refine xqL (.pointer (some ⟨w.heap.size,n,none⟩)) (fun w'=>idxO (w.heap.size) 64 64 n hlt w' _ _ rfl rfl rfl) ?_; refine cellL .u8 (.int .u8 (f n)) (w.heap.size) n 5 _ rfl rfl rfl Tryz.underlying5 ((K.get _ _ _ _ mS).cell n hlt) ?_
    simp only [aP,lI,l0,lS]; refine xpL (.int .u8 c) ?_; refine xqL (.int .u8 (bxx c p n)) (fun w=>xorI .u8 _ _ _ _ _ _ _ rfl rfl rfl HX w) ?_; refine xqL (.pointer (some ⟨w.heap.size,n,none⟩)) (fun w'=>idxO (w.heap.size) 64 64 n hlt w' _ _ rfl rfl rfl) ?_
    refine storeL .u8 (bxx c p n) (w.heap.size) n 5 _ _ rfl rfl rfl rfl (by rw [(K.get _ _ _ _ mS).cell n hlt]; rfl) ((K.get _ _ _ _ mS).free n hlt) (by kernel_rfl) ?_
    simp only [Act.put]; replace K:=K.setCell [] (w.heap.size) .u8 64 f n hlt (bxx c p n) mS (fun _ hp=>by cases hp) (fun _ hp=>by cases hp) (xnR _)
    have HS:=show Hid _ from (And.intro K (And.intro (show ∀ j,j<n+1→upd f n (bxx c p n) j=bxx c p j from fun j hj=>by
     by_cases e:j=n
     · subst e; rw [upd_same]
     · rw [upd_other _ _ _ _ e]; exact hd j (by omega)) (show ∀ j,n+1≤j→upd f n (bxx c p n) j=p j from fun j hj=>by rw [upd_other _ _ _ _ (show j≠n by omega)]; exact hk j (by omega))))
    clear K hd hk HX; generalize wr.setCell ⟨w.heap.size,n,none⟩ (.int .u8 (bxx c p n))=w5 at HS ⊢; generalize upd f n (bxx c p n)=f' at HS
    show Exit.inBlock _ _ _ _ _
    go_wp2
    go_roundw
    case rel=>first | exact ⟨n+1,f',by omega,by go_num,HS.out⟩ | ((repeat apply Exists.intro); refine ⟨⟨n+1,f',by omega,by go_num,HS.out⟩,rfl⟩)
    case measure=>simp [intOf]; omega
  · obtain rfl:n=64:=by omega
    have HR:=(K.get _ _ _ _ mS).congr (g:=bxx c p) (fun j hj=>hd j hj); have hB:=K.below; have hz:=K.size; clear K hd hk hlt hn g1; go_wp2; go_ret
    exact ⟨w.heap.size,rfl,by rw [hpe]; exact HR,⟨xnR _,by omega⟩,hB⟩
theorem bcutAll_key (b:Nat) (w:World):(Instr.sliceAt 23 (.pointer (some ⟨b,0,none⟩)) none none none).run Tryz.prog w=.ok (.slice (some ⟨b,0,none⟩) 32 32) w:=by kernel_rfl
theorem app_none (y z:Nat→Int):app y 0 z=z:=by
 funext j
 unfold app
 rw [if_neg (xnZ j),Nat.sub_zero]
theorem bhash_any:BHashOK:=by
 intro sp len cap hlen hcap _ z hz w hg hs; have K:=Kr.init w; replace K:=K.make 32 zu8_32 23 (w.heap.size) rfl (key_zero _ _ _ rfl).there
 go_enter Tryz.func78,Tryz.ntmps78
 go_upto_region 1 with fail; generalize (w.alloc (.cells zu8_32 23))=w0 at K ⊢; refine wp_region_list ?_; refine xpL (.slice sp len cap) ?_; refine xcL (bbehind_any none 0 0 (.inl rfl) (xnR _) (fun _=>0) (fun j hj=>absurd hj (xnZ j)) sp len cap hlen hcap z hz _ (hg.below K.below hg.size) (fun j hj=>absurd hj (xnZ j)) (hs.below K.below (xnR _))) ?_; rintro e w1 ⟨rfl,l⟩
 replace K:=K.call l; clear l; refine xeL ?_
 rw [app_none,Nat.zero_add]
 have hz':=(K.room _ mS).1
 refine storesL .u8 32 (bhash len z) (w.heap.size) 23 _ _ rfl rfl rfl rfl (room_of hz') (key_info' _) ?_; simp only [Act.put]; have hB:=(K.fill _ _ mS (row .u8 32 (bhash len z))).below; clear K; generalize hGe:bhash len z=G at *; show Exit.then _ _ _ _ _; go_wp2
 exact bodyPost_ret (v:=(.agg (row .u8 32 (G)).toArray)) (results_row Tryz.results78 rfl (Has.all hz' .u8 G).range Tryz.underlying23 rfl (key_info G)) rfl ⟨by first | rfl | rw [hGe] | (rw [← hGe]; done),hB⟩
theorem bkk_short (kl:Nat) (key:Nat→Int) (h:kl≤64):bkk kl key=padz kl key:=by
 funext j
 unfold bkk padz
 rw [if_pos h]
theorem bkk_long (kl:Nat) (key:Nat→Int) (h:¬ kl≤64):bkk kl key=padz 32 (bhash kl key):=by
 funext j
 unfold bkk padz
 rw [if_neg h]
theorem bmac_any:BMacOK:=by
 intro kp kl kc hkl hkc _ key hkk sp len cap hlen hcap _ z hz w hg hk hs; have K:=Kr.init w; replace K:=K.make 32 zu8_32 23 (w.heap.size) rfl (key_zero _ _ _ rfl).there
 go_enter Tryz.func143,Tryz.ntmps143
 go_upto_region 1 with fail; generalize (w.alloc (.cells zu8_32 23))=w0 at K ⊢
 by_cases hl:kl≤64
 · have g1:(kl:Int)≤64:=by omega
   have HE:=show Hid _ from (show (bhash (64+32) (app (bxx 92 (padz (kl) key)) 64 (bhash (64+len) (app (bxx 54 (padz (kl) key)) 64 z))))=bmac kl key len z from by unfold bmac; rw [bkk_short kl key hl]); have hp54:=bxx_in 54 (by decide) (padz (kl) key) 64 (padz_in (kl) key hkk 64); have hp92:=bxx_in 92 (by decide) (padz (kl) key) 64 (padz_in (kl) key hkk 64); go_upto_region 4 with fail
   refine wp_region_list ?_; refine xpL (.slice kp kl kc) ?_; refine xcL (bpad_any kp (kl) kc hl key 54 _ (hk.below K.below (xnR _))) ?_; rintro e wa ⟨g,rfl,hG,⟨_,hgl⟩,l⟩; replace K:=K.call l; clear l; refine xeL ?_; refine xpL (.slice sp len cap) ?_
   refine xcL (bbehind_any (some ⟨g,0,none⟩) 64 64 (.inr rfl) (xnR _) (bxx 54 (padz (kl) key)) hp54 sp len cap (by omega) hcap z hz _ (hg.below K.below hg.size) hG.src0 (hs.below K.below (xnR _))) ?_; rintro e wb ⟨rfl,l⟩; replace K:=K.call l; clear l; refine xeL ?_; clear hG hgl; refine allocL zu8_32 23 rfl (fun _=>by kernel_rfl) ?_; simp only [aP,lI,l0,lS]
   refine storesL .u8 32 ((bhash (64+len) (app (bxx 54 (padz (kl) key)) 64 z))) wb.heap.size 23 _ _ rfl rfl rfl rfl (room_of (key_zero _ _ _ rfl).there) (key_info' _) ?_; simp only [Act.put]; have zJ:=K.size; replace K:=K.fresh .u8 32 ((bhash (64+len) (app (bxx 54 (padz (kl) key)) 64 z))) zu8_32 23 (key_zero _ _ _ rfl).there
   generalize ((wb.alloc (.cells zu8_32 23)).setCells wb.heap.size 0 (row .u8 32 ((bhash (64+len) (app (bxx 54 (padz (kl) key)) 64 z)))))=wc at K ⊢; generalize wb.heap.size=J at *; show Exit.then _ _ _ _ _; go_upto_region 5 with fail
   refine wp_region_C (S:=fun w'=>Kr w (J+1) [(J,.u8,32,(bhash (64+len) (app (bxx 54 (padz (kl) key)) 64 z)))] [(w.heap.size,32)] w') 4 (by kernel_rfl) K.drew ?_; clear K; intro K; refine xpC 0 17 (.slice kp kl kc) K ?_; refine xqC 2 19 rfl (.slice (some ⟨J,0,none⟩) 32 32) (fun w'=>cutAll _ _ _ _ rfl rfl (bcutAll_key J w')) K ?_
   refine callMC (i:=1) (some 18) rfl (by kernel_rfl) rfl rfl (fun _=>by kernel_rfl) (bpad_any kp (kl) kc hl key 92 _ (hk.below K.below (xnR _))) ?_; rintro e wd ⟨g2,rfl,hG,⟨_,hgl⟩,l⟩; replace K:=K.call l; clear l
   refine ⟨_,rfl,K,?_⟩
   simp only [aP,lI,l0,lS]; refine callMC (i:=3) (some 20) rfl (by kernel_rfl) rfl rfl (fun _=>by kernel_rfl) (bbehind_any (some ⟨g2,0,none⟩) 64 64 (.inr rfl) (xnR _) (bxx 92 (padz (kl) key)) hp92 (some ⟨J,0,none⟩) 32 32 (by decide) (xnR _) (bhash (64+len) (app (bxx 54 (padz (kl) key)) 64 z)) (bhash_in _ _ 32) _ (hg.below K.below hg.size) hG.src0 (K.get _ _ _ _ mS).src0) ?_
   rintro e we ⟨rfl,l⟩; replace K:=K.call l; clear l
   refine ⟨_,rfl,K,?_⟩
   simp only [aP,lI,l0,lS]
   rw [HE.out]
   have hz':=(K.room _ mS).1
   refine storesC (S2:=fun _=>True) none rfl .u8 32 (bmac kl key len z) (w.heap.size) 23 _ _ (by kernel_rfl) rfl rfl rfl rfl rfl (room_of hz') (key_info' _) (by kernel_rfl) ?_; simp only [Act.put]
   refine wpAnyH_done (by kernel_rfl) ?_ _
   have hB:=(K.fill _ _ mS (row .u8 32 (bmac kl key len z))).below; clear K HE hG hgl; generalize hGe:bmac kl key len z=G at *; go_wp2
   exact bodyPost_ret (v:=(.agg (row .u8 32 (G)).toArray)) (results_row Tryz.results143 rfl (Has.all hz' .u8 G).range Tryz.underlying23 rfl (key_info G)) rfl ⟨by first | rfl | rw [hGe] | (rw [← hGe]; done),hB⟩
 · have g1:(64:Int)<(kl:Int):=by omega
   go_upto_region 2 with fail; refine wp_region_list ?_; refine xpL (.slice kp kl kc) ?_; refine xcL (bhash_any kp kl kc hkl hkc (fun e=>by have h0:=hk.none e; omega) key hkk _ (hg.below K.below hg.size) (hk.below K.below (xnR _))) ?_; rintro e w1 ⟨rfl,l⟩; replace K:=K.call l; clear l; refine xeL ?_; refine allocL zu8_32 23 rfl (fun _=>by kernel_rfl) ?_; simp only [aP,lI,l0,lS]
   refine storesL .u8 32 (bhash kl key) w1.heap.size 23 _ _ rfl rfl rfl rfl (room_of (key_zero _ _ _ rfl).there) (key_info' _) ?_; simp only [Act.put]; have zX:=K.size; replace K:=K.fresh .u8 32 (bhash kl key) zu8_32 23 (key_zero _ _ _ rfl).there; generalize ((w1.alloc (.cells zu8_32 23)).setCells w1.heap.size 0 (row .u8 32 (bhash kl key)))=w2 at K ⊢; generalize w1.heap.size=X at *
   show Exit.then _ _ _ _ _; go_upto_region 3 with fail; refine wp_region_list ?_; refine xqL (.slice (some ⟨X,0,none⟩) 32 32) (fun w'=>cutAll _ _ _ _ rfl rfl (bcutAll_key X w')) ?_; refine xpL (.slice (some ⟨X,0,none⟩) 32 32) ?_; show Exit.then _ _ _ _ _
   have HE:=show Hid _ from (show (bhash (64+32) (app (bxx 92 (padz (32) (bhash kl key))) 64 (bhash (64+len) (app (bxx 54 (padz (32) (bhash kl key))) 64 z))))=bmac kl key len z from by unfold bmac; rw [bkk_long kl key hl]); have hp54:=bxx_in 54 (by decide) (padz (32) (bhash kl key)) 64 (padz_in (32) (bhash kl key) (bhash_in kl key 32) 64)
   have hp92:=bxx_in 92 (by decide) (padz (32) (bhash kl key)) 64 (padz_in (32) (bhash kl key) (bhash_in kl key 32) 64); go_upto_region 4 with fail; refine wp_region_list ?_; refine xpL (.slice (some ⟨X,0,none⟩) 32 32) ?_; refine xcL (bpad_any (some ⟨X,0,none⟩) (32) 32 (by decide) (bhash kl key) 54 _ (K.get _ _ _ _ mS).src0) ?_; rintro e wa ⟨g,rfl,hG,⟨_,hgl⟩,l⟩; replace K:=K.call l
   clear l; refine xeL ?_; refine xpL (.slice sp len cap) ?_; refine xcL (bbehind_any (some ⟨g,0,none⟩) 64 64 (.inr rfl) (xnR _) (bxx 54 (padz (32) (bhash kl key))) hp54 sp len cap (by omega) hcap z hz _ (hg.below K.below hg.size) hG.src0 (hs.below K.below (xnR _))) ?_; rintro e wb ⟨rfl,l⟩; replace K:=K.call l; clear l; refine xeL ?_; clear hG hgl
   refine allocL zu8_32 23 rfl (fun _=>by kernel_rfl) ?_; simp only [aP,lI,l0,lS]; refine storesL .u8 32 ((bhash (64+len) (app (bxx 54 (padz (32) (bhash kl key))) 64 z))) wb.heap.size 23 _ _ rfl rfl rfl rfl (room_of (key_zero _ _ _ rfl).there) (key_info' _) ?_; simp only [Act.put]; have zJ:=K.size
   replace K:=K.fresh .u8 32 ((bhash (64+len) (app (bxx 54 (padz (32) (bhash kl key))) 64 z))) zu8_32 23 (key_zero _ _ _ rfl).there; generalize ((wb.alloc (.cells zu8_32 23)).setCells wb.heap.size 0 (row .u8 32 ((bhash (64+len) (app (bxx 54 (padz (32) (bhash kl key))) 64 z)))))=wc at K ⊢; generalize wb.heap.size=J at *; show Exit.then _ _ _ _ _; go_upto_region 5 with fail
   refine wp_region_C (S:=fun w'=>Kr w (J+1) [(J,.u8,32,(bhash (64+len) (app (bxx 54 (padz (32) (bhash kl key))) 64 z))),(X,.u8,32,bhash kl key)] [(w.heap.size,32)] w') 4 (by kernel_rfl) K.drew ?_; clear K; intro K; refine xpC 0 17 (.slice (some ⟨X,0,none⟩) 32 32) K ?_
   refine xqC 2 19 rfl (.slice (some ⟨J,0,none⟩) 32 32) (fun w'=>cutAll _ _ _ _ rfl rfl (bcutAll_key J w')) K ?_; refine callMC (i:=1) (some 18) rfl (by kernel_rfl) rfl rfl (fun _=>by kernel_rfl) (bpad_any (some ⟨X,0,none⟩) (32) 32 (by decide) (bhash kl key) 92 _ (K.get _ _ _ _ (mT _ mS)).src0) ?_; rintro e wd ⟨g2,rfl,hG,⟨_,hgl⟩,l⟩; replace K:=K.call l; clear l
   refine ⟨_,rfl,K,?_⟩
   simp only [aP,lI,l0,lS]
   refine callMC (i:=3) (some 20) rfl (by kernel_rfl) rfl rfl (fun _=>by kernel_rfl) (bbehind_any (some ⟨g2,0,none⟩) 64 64 (.inr rfl) (xnR _) (bxx 92 (padz (32) (bhash kl key))) hp92 (some ⟨J,0,none⟩) 32 32 (by decide) (xnR _) (bhash (64+len) (app (bxx 54 (padz (32) (bhash kl key))) 64 z)) (bhash_in _ _ 32) _ (hg.below K.below hg.size) hG.src0 (K.get _ _ _ _ mS).src0) ?_
   rintro e we ⟨rfl,l⟩; replace K:=K.call l; clear l
   refine ⟨_,rfl,K,?_⟩
   simp only [aP,lI,l0,lS]
   rw [HE.out]
   have hz':=(K.room _ mS).1
   refine storesC (S2:=fun _=>True) none rfl .u8 32 (bmac kl key len z) (w.heap.size) 23 _ _ (by kernel_rfl) rfl rfl rfl rfl rfl (room_of hz') (key_info' _) (by kernel_rfl) ?_; simp only [Act.put]
   refine wpAnyH_done (by kernel_rfl) ?_ _
   have hB:=(K.fill _ _ mS (row .u8 32 (bmac kl key len z))).below; clear K HE hG hgl; generalize hGe:bmac kl key len z=G at *; go_wp2
   exact bodyPost_ret (v:=(.agg (row .u8 32 (G)).toArray)) (results_row Tryz.results143 rfl (Has.all hz' .u8 G).range Tryz.underlying23 rfl (key_info G)) rfl ⟨by first | rfl | rw [hGe] | (rw [← hGe]; done),hB⟩
end Go.Proofs.YtklnibmfpcmeeaaGreatDoor
