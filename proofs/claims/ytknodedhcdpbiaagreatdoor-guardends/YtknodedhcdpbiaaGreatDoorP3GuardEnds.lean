/- Texts of Ky Hc Hd He Hf Mk Hg Sc Lw Ij Om Ba Bp Az Bb Vl Bt Jz Ja Jl Jb Va Vg Qa Oa Ya Ea Xa Mx My, joined. -/
import Derived.Test.YtknodedhcdpbiaaGreatDoorP2GuardEnds
import Derived.Lib.ConvBytes
set_option maxRecDepth 20000
set_option maxHeartbeats 64000000
namespace Go.Proofs.YtknodedhcdpbiaaGreatDoor
open Go.RowKit
theorem key_info (f:Nat→Int):(Tryz.prog.info? 23).map (·.size)=some (row .u8 32 f).length:=by rw [row_length]; kernel_rfl
theorem key_info' (f:Nat→Int):(Tryz.prog.info? 23).map (·.size)=some (row .u8 32 f).toArray.size:=by rw [List.size_toArray]; exact key_info f
theorem key_zero (w:World) (t:TypeId) (b:Nat) (hb:b=w.heap.size):Has (w.alloc (.cells zu8_32 t)) b .u8 32 (fun _=>0):=Has.new w .u8 32 (fun _=>0) t b hb
theorem hs_info (f:Nat→Int):(Tryz.prog.info? 125).map (·.size)=some (row .u32 16 f).length:=by rw [row_length]; kernel_rfl
theorem hs_info' (f:Nat→Int):(Tryz.prog.info? 125).map (·.size)=some (row .u32 16 f).toArray.size:=by rw [List.size_toArray]; exact hs_info f
theorem hs_there {w:World} {b:Nat} {f g:Nat→Int} (h:Has w b .u32 16 f):w.there b 0 (row .u32 16 g).toArray.size:=by rw [List.size_toArray,row_length]; exact h.there
theorem hs_zero (w:World) (t:TypeId) (b:Nat) (hb:b=w.heap.size):Has (w.alloc (.cells zu32_16 t)) b .u32 16 (fun _=>0):=Has.new w .u32 16 (fun _=>0) t b hb
theorem hn_info (f:Nat→Int):(Tryz.prog.info? 75).map (·.size)=some (row .u8 12 f).length:=by rw [row_length]; kernel_rfl
theorem hb_info (f:Nat→Int):(Tryz.prog.info? 104).map (·.size)=some (row .u8 64 f).length:=by rw [row_length]; kernel_rfl
theorem hb_info' (f:Nat→Int):(Tryz.prog.info? 104).map (·.size)=some (row .u8 64 f).toArray.size:=by rw [List.size_toArray]; exact hb_info f
theorem hb_zero (w:World) (t:TypeId) (b:Nat) (hb:b=w.heap.size):Has (w.alloc (.cells zu8_64 t)) b .u8 64 (fun _=>0):=Has.new w .u8 64 (fun _=>0) t b hb
def hfst:Nat→Int:=quad 1634760805 857760878 2036477234 1797285236
def plc (j:Nat):Int:=if j%4=0 then (pA (j/4):Int) else if j%4=1 then (pB (j/4):Int) else if j%4=2 then (pC (j/4):Int) else (pD (j/4):Int)
structure HGlob (w:World):Prop where
 first:∀ j,j<4→w.cell? ⟨1,j,none⟩=some (.int .u32 (hfst j))
 place:∀ j,j<32→w.cell? ⟨2,j,none⟩=some (.int .i64 (plc j))
 size:8≤w.heap.size
theorem HGlob.below {w w':World} (h:HGlob w) {B:Nat} (l:Below B w w') (hB:8≤B):HGlob w' :=
 ⟨fun j hj=>by rw [l.cell (p:=⟨1,j,none⟩) (xnL (show 1<8 by decide) hB)]; exact h.first j hj,fun j hj=>by rw [l.cell (p:=⟨2,j,none⟩) (xnL (show 2<8 by decide) hB)]; exact h.place j hj,by have:=h.size; have:=l.size; omega⟩
theorem HGlob.fr {w w':World} {k:Nat} (h:HGlob w) (g:Fr w k w'):HGlob w':=h.below g.below h.size
theorem HGlob.four {w:World} (h:HGlob w) (k:Nat) (hk:k<8):w.cell? ⟨2,k*4,none⟩=some (.int .i64 (pA k))∧w.cell? ⟨2,k*4+1,none⟩=some (.int .i64 (pB k))∧w.cell? ⟨2,k*4+2,none⟩=some (.int .i64 (pC k))∧w.cell? ⟨2,k*4+3,none⟩=some (.int .i64 (pD k)):=by
 have e1:plc (k*4)=(pA k:Int):=by unfold plc; rw [if_pos (by omega),show k*4/4=k by omega]
 have e2:plc (k*4+1)=(pB k:Int):=by unfold plc; rw [if_neg (by omega),if_pos (by omega),show (k*4+1)/4=k by omega]
 have e3:plc (k*4+2)=(pC k:Int):=by unfold plc; rw [if_neg (by omega),if_neg (by omega),if_pos (by omega),show (k*4+2)/4=k by omega]
 have e4:plc (k*4+3)=(pD k:Int):=by unfold plc; rw [if_neg (by omega),if_neg (by omega),if_neg (by omega),show (k*4+3)/4=k by omega]
 rw [← e1,← e2,← e3,← e4]
 exact ⟨h.place _ (by omega),h.place _ (by omega),h.place _ (by omega),h.place _ (by omega)⟩
theorem idx16 (b i:Nat) (hi:i<16) (w:World) {o:Oper} {a:Act} (x y:Operand) (ho:o.op=.indexAddr 125 x y) (hx:a.eval x=.pointer (some ⟨b,0,none⟩)) (hy:a.eval y=.int .i64 (i:Int)) :
 (execOp a.eval o).run Tryz.prog w=.ok (.value (.pointer (some ⟨b,i,none⟩))) w:=by
 have h:=idxArr (P:=Tryz.prog) 125 87 16 .i64 b 0 i x y Tryz.underlying125 (fun _=>by kernel_rfl) hi ho hx hy w
 rw [Nat.zero_add] at h
 exact h
structure HDI (s:Nat→Int) (w:World) (k:Nat) (w':World):Prop where
 hs:Has w' w.heap.size .u32 16 (htN s k)
 hr:Has w' (w.heap.size+1) .u32 16 (fun _=>0)
 fr:Fr w 2 w'
theorem HDI.drewN {s:Nat→Int} {w:World} {k q:Nat} {w':World} (h:HDI s w k w'):HDI s w k (w'.drewN q):=⟨⟨h.hs.cell,h.hs.free⟩,⟨h.hr.cell,h.hr.free⟩,⟨below_drewN h.fr.below,h.fr.size⟩⟩
theorem HDI.drew {s:Nat→Int} {w:World} {k:Nat} {w':World} (h:HDI s w k w'):HDI s w k w'.drew:=⟨h.hs.drew,h.hr.drew,h.fr.drew⟩
theorem hdouble_any (s:Nat→Int) (w:World) (hg:HGlob w) :
 Calls Tryz.prog 72 #[(.agg (row .u32 16 (s)).toArray)] w fun e w'=>e=.returned (.agg (row .u32 16 (htN s 8)).toArray)∧Below w.heap.size w w':=by
 go_enter Tryz.func72,Tryz.ntmps72
 go_wp2
 go_loopw [8] (fun i w'=>∃ k:Nat,k≤8∧i=.int .i64 k∧HDI s w k w') (fun i _=>8-(intOf i).toNat)
 case atStart=>exact ⟨0,by omega,rfl,⟨(Has.new w _ _ _ _ _ rfl).alloc _ (by simp),hs_zero _ _ _ (by simp),((Fr.refl w).alloc _).alloc _⟩⟩
 case round =>
  obtain ⟨k,hk,rfl,hI⟩:=hrel
  have hG:=hg.fr hI.fr
  have g1:(0:Int)≤(k:Int):=by omega
  by_cases hlt:k<8
  · have HT:=show Hid _ from (show htN s (k+1)=tAt (htN s k) k from rfl)
    have HI:=show Hid _ from fun (q:Nat)=>(hI.drewN (q:=q)).drew
    have g2:(k:Int)<8:=by omega
    obtain ⟨p1,p2,p3,p4⟩:=hG.four k hlt
    have l1:pA k<16:=by have:=pA_lt k; omega
    have l2:pB k<16:=by have:=pB_lt k; omega
    have l3:pC k<16:=by have:=pC_lt k; omega
    have l4:pD k<16:=pD_lt k
    unfold tAt at HT
    clear hI hG hk; generalize hA:pA k=A at *; generalize hB:pB k=B at *; generalize hC:pC k=C at *; generalize hD:pD k=D at *; clear hA hB hC hD; go_wp2
    go_quiet (fail)
    go_upto_region 5 with fail; have hI:=HI.out nq; clear p1 p2 p3 p4 HI; refine wp_region_C (S:=fun w'=>HDI s w k w') 16 (by kernel_rfl) hI ?_; clear hI; intro K; refine xpC 0 28 (.int .i64 (A:Int)) K ?_; refine xpC 1 29 (.int .i64 (B:Int)) K ?_; refine xpC 2 30 (.int .i64 (C:Int)) K ?_; refine xpC 3 31 (.int .i64 (D:Int)) K ?_; refine xpC 4 32 (.int .i64 (A:Int)) K ?_
    refine xqC 5 33 rfl (.pointer (some ⟨w.heap.size,A,none⟩)) (fun w'=>idx16 w.heap.size A l1 w' _ _ rfl rfl rfl) K ?_; refine cellC (i:=6) (some 34) rfl .u32 (.int .u32 (htN s k A)) w.heap.size A 87 _ rfl rfl (by kernel_rfl) rfl rfl rfl (by kernel_rfl) (by kernel_rfl) (by kernel_rfl) (by kernel_rfl) (fun _ _ _ h=>h) Tryz.underlying87 K (fun _ h=>h.hs.cell A l1) ?_
    simp only [aP,lI,l0,lS]; refine xpC 7 35 (.int .i64 (B:Int)) K ?_; refine xqC 8 36 rfl (.pointer (some ⟨w.heap.size,B,none⟩)) (fun w'=>idx16 w.heap.size B l2 w' _ _ rfl rfl rfl) K ?_
    refine cellC (i:=9) (some 37) rfl .u32 (.int .u32 (htN s k B)) w.heap.size B 87 _ rfl rfl (by kernel_rfl) rfl rfl rfl (by kernel_rfl) (by kernel_rfl) (by kernel_rfl) (by kernel_rfl) (fun _ _ _ h=>h) Tryz.underlying87 K (fun _ h=>h.hs.cell B l2) ?_; simp only [aP,lI,l0,lS]; refine xpC 10 38 (.int .i64 (C:Int)) K ?_
    refine xqC 11 39 rfl (.pointer (some ⟨w.heap.size,C,none⟩)) (fun w'=>idx16 w.heap.size C l3 w' _ _ rfl rfl rfl) K ?_; refine cellC (i:=12) (some 40) rfl .u32 (.int .u32 (htN s k C)) w.heap.size C 87 _ rfl rfl (by kernel_rfl) rfl rfl rfl (by kernel_rfl) (by kernel_rfl) (by kernel_rfl) (by kernel_rfl) (fun _ _ _ h=>h) Tryz.underlying87 K (fun _ h=>h.hs.cell C l3) ?_
    simp only [aP,lI,l0,lS]; refine xpC 13 41 (.int .i64 (D:Int)) K ?_; refine xqC 14 42 rfl (.pointer (some ⟨w.heap.size,D,none⟩)) (fun w'=>idx16 w.heap.size D l4 w' _ _ rfl rfl rfl) K ?_
    refine cellC (i:=15) (some 43) rfl .u32 (.int .u32 (htN s k D)) w.heap.size D 87 _ rfl rfl (by kernel_rfl) rfl rfl rfl (by kernel_rfl) (by kernel_rfl) (by kernel_rfl) (by kernel_rfl) (fun _ _ _ h=>h) Tryz.underlying87 K (fun _ h=>h.hs.cell D l4) ?_; simp only [aP,lI,l0,lS]
    refine callC (S2:=fun _=>True) (some 44) rfl (by kernel_rfl) rfl rfl (fun _=>by kernel_rfl) (turn_any (htN s k A) (htN s k B) (htN s k C) (htN s k D) _) (by kernel_rfl) ?_; rintro e w' ⟨rfl,rfl⟩
    refine ⟨_,rfl,?_⟩
    simp only [aP,lI,l0,lS]
    have T:True:=trivial
    refine xpH 17 27 (.tuple #[.int .u32 (qA (htN s k A) (htN s k B) (htN s k C) (htN s k D)),.int .u32 (qB (htN s k A) (htN s k B) (htN s k C) (htN s k D)),.int .u32 (qC (htN s k A) (htN s k B) (htN s k C) (htN s k D)),.int .u32 (qD (htN s k A) (htN s k B) (htN s k C) (htN s k D))]) T ?_; refine xpH 18 45 (.int .u32 (qA (htN s k A) (htN s k B) (htN s k C) (htN s k D))) T ?_
    refine xpH 19 46 (.int .u32 (qB (htN s k A) (htN s k B) (htN s k C) (htN s k D))) T ?_; refine xpH 20 47 (.int .u32 (qC (htN s k A) (htN s k B) (htN s k C) (htN s k D))) T ?_; refine xpH 21 48 (.int .u32 (qD (htN s k A) (htN s k B) (htN s k C) (htN s k D))) T ?_; have h0:=K.hs; have r0:=K.hr; have f0:=K.fr; clear K
    refine xqH 22 49 rfl (.pointer (some ⟨w.heap.size,A,none⟩)) (fun w'=>idx16 w.heap.size A l1 w' _ _ rfl rfl rfl) T ?_; refine storeH (i:=23) none rfl .u32 (qA (htN s k A) (htN s k B) (htN s k C) (htN s k D)) w.heap.size A 87 _ _ (by kernel_rfl) rfl rfl rfl rfl rfl (by rw [h0.cell A l1]; rfl) (h0.free A l1) (by kernel_rfl) T ?_; simp only [Act.put]
    have h1:=h0.set A l1 (qA (htN s k A) (htN s k B) (htN s k C) (htN s k D)); have r1:=r0.set_other ⟨w.heap.size,A,none⟩ (.int .u32 (qA (htN s k A) (htN s k B) (htN s k C) (htN s k D))) (by simp); have f1:=f0.set ⟨w.heap.size,A,none⟩ (.int .u32 (qA (htN s k A) (htN s k B) (htN s k C) (htN s k D))) (by simp); clear h0 r0 f0
    refine xqH 24 50 rfl (.pointer (some ⟨w.heap.size,B,none⟩)) (fun w'=>idx16 w.heap.size B l2 w' _ _ rfl rfl rfl) T ?_; refine storeH (i:=25) none rfl .u32 (qB (htN s k A) (htN s k B) (htN s k C) (htN s k D)) w.heap.size B 87 _ _ (by kernel_rfl) rfl rfl rfl rfl rfl (by rw [h1.cell B l2]; rfl) (h1.free B l2) (by kernel_rfl) T ?_; simp only [Act.put]
    have h2:=h1.set B l2 (qB (htN s k A) (htN s k B) (htN s k C) (htN s k D)); have r2:=r1.set_other ⟨w.heap.size,B,none⟩ (.int .u32 (qB (htN s k A) (htN s k B) (htN s k C) (htN s k D))) (by simp); have f2:=f1.set ⟨w.heap.size,B,none⟩ (.int .u32 (qB (htN s k A) (htN s k B) (htN s k C) (htN s k D))) (by simp); clear h1 r1 f1
    refine xqH 26 51 rfl (.pointer (some ⟨w.heap.size,C,none⟩)) (fun w'=>idx16 w.heap.size C l3 w' _ _ rfl rfl rfl) T ?_; refine storeH (i:=27) none rfl .u32 (qC (htN s k A) (htN s k B) (htN s k C) (htN s k D)) w.heap.size C 87 _ _ (by kernel_rfl) rfl rfl rfl rfl rfl (by rw [h2.cell C l3]; rfl) (h2.free C l3) (by kernel_rfl) T ?_; simp only [Act.put]
    have h3:=h2.set C l3 (qC (htN s k A) (htN s k B) (htN s k C) (htN s k D)); have r3:=r2.set_other ⟨w.heap.size,C,none⟩ (.int .u32 (qC (htN s k A) (htN s k B) (htN s k C) (htN s k D))) (by simp); have f3:=f2.set ⟨w.heap.size,C,none⟩ (.int .u32 (qC (htN s k A) (htN s k B) (htN s k C) (htN s k D))) (by simp); clear h2 r2 f2
    refine xqH 28 52 rfl (.pointer (some ⟨w.heap.size,D,none⟩)) (fun w'=>idx16 w.heap.size D l4 w' _ _ rfl rfl rfl) T ?_; refine storeH (i:=29) none rfl .u32 (qD (htN s k A) (htN s k B) (htN s k C) (htN s k D)) w.heap.size D 87 _ _ (by kernel_rfl) rfl rfl rfl rfl rfl (by rw [h3.cell D l4]; rfl) (h3.free D l4) (by kernel_rfl) T ?_; simp only [Act.put]
    have h4:=h3.set D l4 (qD (htN s k A) (htN s k B) (htN s k C) (htN s k D)); have r4:=r3.set_other ⟨w.heap.size,D,none⟩ (.int .u32 (qD (htN s k A) (htN s k B) (htN s k C) (htN s k D))) (by simp); have f4:=f3.set ⟨w.heap.size,D,none⟩ (.int .u32 (qD (htN s k A) (htN s k B) (htN s k C) (htN s k D))) (by simp); clear h3 r3 f3
    refine wpAnyH_done (by kernel_rfl) ?_ _
    rw [← HT.out] at h4
    have HS:=show Hid _ from (HDI.mk h4 r4 f4); clear h4 r4 f4 T l1 l2 l3 l4; go_wp2
    go_roundw
    case rel=>exact ⟨k+1,by omega,by go_num,HS.out⟩
    case measure=>simp [intOf]; omega
  · obtain rfl:k=8:=by omega
    have hs:=hI.hs; have hz:=hI.hr; have hB:=(hI.fr.setAll (w.heap.size+1) (by omega) (row .u32 16 (htN s 8))).below; clear hI hlt hk hG; generalize hf:htN s 8=f at *
    go_wp2_with (first | (refine wpList_load_mid rfl 125 _ rfl (w.heap.size) 0 rfl (row .u32 16 (f)) _ (Has.range (hs)) Tryz.underlying125 rfl (hs_info _) ?_) | (refine wpList_store_mid rfl 125 _ _ rfl (w.heap.size+1) 0 (row .u32 16 (f)).toArray rfl rfl (hs_there (hz)) (hs_info' _) (all_oneCell_toArray (row_one _ _ _)) ?_))
    exact bodyPost_ret (v:=(.agg (row .u32 16 (f)).toArray)) (results_row Tryz.results72 rfl (Has.all hz.there .u32 _).range Tryz.underlying125 rfl (hs_info _)) rfl ⟨by rw [hf],hB⟩
theorem hcut_key (b k:Nat) (hk:k<8) (w:World):(Instr.sliceAt 23 (.pointer (some ⟨b,0,none⟩)) (some (.int .i64 (4*(k:Int)))) none none).run Tryz.prog w=.ok (.slice (some ⟨b,4*k,none⟩) (32-4*k) (32-4*k)) w:=by
 have hl:Tryz.prog.arrayLen 23=32:=by kernel_rfl
 have hs:∀ w,(sizeOf (Tryz.prog.elem 23)).run Tryz.prog w=.ok 1 w:=fun w=>by kernel_rfl
 rw [run_sliceAt_array_l w 23 ⟨b,0,none⟩ (by kernel_rfl) .i64 _ (by omega) (by rw [hl]; omega),hs,hl]
 simp only [Result.andThen,slicedAt]
 have e1:(4*(k:Int)).toNat=4*k:=by omega
 rw [e1,if_neg (by omega),Addr.add_mid,Nat.zero_add,Nat.mul_one]
theorem hcut_non (b k:Nat) (hk:k<3) (w:World):(Instr.sliceAt 75 (.pointer (some ⟨b,0,none⟩)) (some (.int .i64 (4*(k:Int)))) none none).run Tryz.prog w=.ok (.slice (some ⟨b,4*k,none⟩) (12-4*k) (12-4*k)) w:=by
 have hl:Tryz.prog.arrayLen 75=12:=by kernel_rfl
 have hs:∀ w,(sizeOf (Tryz.prog.elem 75)).run Tryz.prog w=.ok 1 w:=fun w=>by kernel_rfl
 rw [run_sliceAt_array_l w 75 ⟨b,0,none⟩ (by kernel_rfl) .i64 _ (by omega) (by rw [hl]; omega),hs,hl]
 simp only [Result.andThen,slicedAt]
 have e1:(4*(k:Int)).toNat=4*k:=by omega
 rw [e1,if_neg (by omega),Addr.add_mid,Nat.zero_add,Nat.mul_one]
structure HBI (k:Nat→Int) (c:Int) (n:Nat→Int) (w:World) (m:Nat) (f:Nat→Int) (w':World):Prop where
 done:∀ j,j<m→f j=hst k c n j
 hk:Has w' w.heap.size .u8 32 k
 hn:Has w' (w.heap.size+1) .u8 12 n
 hr:Has w' (w.heap.size+1+1) .u32 16 (fun _=>0)
 hs:Has w' (w.heap.size+1+1+1) .u32 16 f
 fr:Fr w 4 w'
theorem HBI.drewN {k:Nat→Int} {c:Int} {n:Nat→Int} {w:World} {m:Nat} {f:Nat→Int} {w':World} (h:HBI k c n w m f w') (q:Nat):HBI k c n w m f (w'.drewN q) :=
 ⟨h.done,⟨h.hk.cell,h.hk.free⟩,⟨h.hn.cell,h.hn.free⟩,⟨h.hr.cell,h.hr.free⟩,⟨h.hs.cell,h.hs.free⟩,⟨below_drewN h.fr.below,h.fr.size⟩⟩
theorem HBI.step {k:Nat→Int} {c:Int} {n:Nat→Int} {w:World} {m:Nat} {f:Nat→Int} {w':World} (h:HBI k c n w m f w') (hm:m<16) (v:Int) (hv:hst k c n m=v):HBI k c n w (m+1) (upd f m v) (w'.setCell ⟨w.heap.size+1+1+1,m,none⟩ (.int .u32 v)):=by
 refine ⟨fun j hj=>?_,h.hk.set_other _ _ (by simp; omega),h.hn.set_other _ _ (by simp; omega),h.hr.set_other _ _ (by simp),h.hs.set m hm v,h.fr.set _ _ (by simp; omega)⟩
 by_cases e:j=m
 · subst e; rw [upd_same,hv]
 · rw [upd_other _ _ _ _ e]; exact h.done j (by omega)
theorem hst_first (k:Nat→Int) (c:Int) (n:Nat→Int) (j:Nat) (hj:j<4):hst k c n j=hfst j:=by
 match j,hj with
 | 0,_ | 1,_ | 2,_ | 3,_=>rfl
theorem hst_key (k:Nat→Int) (c:Int) (n:Nat→Int) (j:Nat) (hj:j<8):hst k c n (4+j)=w32 k (4*j):=by
 match j,hj with
 | 0,_ | 1,_ | 2,_ | 3,_ | 4,_ | 5,_ | 6,_ | 7,_=>rfl
theorem hst_non (k:Nat→Int) (c:Int) (n:Nat→Int) (j:Nat) (hj:j<3):hst k c n (13+j)=w32 n (4*j):=by
 match j,hj with
 | 0,_ | 1,_ | 2,_=>rfl
theorem hbegin_any (k:Nat→Int) (c:Int) (n:Nat→Int) (hk:In 256 32 k) (hn:In 256 12 n) (w:World) (hg:HGlob w) :
 Calls Tryz.prog 71 #[(.agg (row .u8 32 (k)).toArray),.int .u32 c,(.agg (row .u8 12 (n)).toArray)] w fun e w'=>e=.returned (.agg (row .u32 16 (hst k c n)).toArray)∧Below w.heap.size w w':=by
 go_enter Tryz.func71,Tryz.ntmps71
 go_wp2
 go_loopw [11] (fun i w'=>∃ (m:Nat) (f:Nat→Int),m≤4∧i=.int .i64 m∧HBI k c n w m f w') (fun i _=>4-(intOf i).toNat)
 case atStart=>exact ⟨0,fun _=>0,by omega,rfl,⟨fun j hj=>by omega,(((Has.new w _ _ _ _ _ rfl).alloc _ (by simp)).alloc _ (by simp; omega)).alloc _ (by simp; omega),((Has.new _ _ _ _ _ _ (by simp)).alloc _ (by simp)).alloc _ (by simp),(hs_zero _ _ _ (by simp)).alloc _ (by simp),hs_zero _ _ _ (by simp),((((Fr.refl w).alloc _).alloc _).alloc _).alloc _⟩⟩
 case round =>
  obtain ⟨m,f,hm,rfl,hI⟩:=hrel
  have g1:(0:Int)≤(m:Int):=by omega
  by_cases hlt:m<4
  · have HS:=show Hid _ from hI.step (by omega) _ (hst_first k c n m hlt)
    have g2:(m:Int)<4:=by omega
    have g3:(m:Int)<16:=by omega
    have p1:=(hg.fr hI.fr).first m hlt; have c1:=hI.hs.cell m (by omega); have f1:=hI.hs.free m (by omega); clear hI hm; generalize f m=y at *; generalize hfst m=z at *; go_wp2
    go_roundw
    case rel=>exact ⟨m+1,_,by omega,by go_num,HS.out⟩
    case measure=>simp [intOf]; omega
  · obtain rfl:m=4:=by omega
    clear hlt hm g1; go_wp2
    go_loopw [20] (fun i w'=>∃ (m:Nat) (f:Nat→Int),m≤8∧i=.int .i64 m∧HBI k c n w (4+m) f w') (fun i _=>8-(intOf i).toNat)
    case atStart=>exact ⟨0,f,by omega,rfl,hI⟩
    case round =>
     obtain ⟨m,f,hm,rfl,hI⟩:=hrel
     have g1:(0:Int)≤(m:Int):=by omega
     by_cases hlt:m<8
     · have hcut:=hcut_key w.heap.size m hlt
       have HC:=show Hid _ from of32_any w.heap.size (4*m) 32 (32-4*m) (32-4*m) k (by omega) (by omega) hk wr hI.hk; have HS:=show Hid _ from fun q=>(hI.drewN q).step (by omega) _ (hst_key k c n m hlt)
       have g2:(m:Int)<8:=by omega
       have g3:(0:Int)≤4+(m:Int):=by omega
       have g4:4+(m:Int)<16:=by omega
       have g5:(4+(m:Int)).toNat=4+m:=by omega
       have cn:∀ q,(wr.drewN q).cell? ⟨w.heap.size+1+1+1,4+m,none⟩=some (.int .u32 (f (4+m))):=fun q=>hI.hs.cell (4+m) (by omega)
       have fn:∀ q,(wr.drewN q).frozen? ⟨w.heap.size+1+1+1,4+m,none⟩=false:=fun q=>hI.hs.free (4+m) (by omega)
       clear hI hm; generalize f (4+m)=y at *; generalize w32 k (4*m)=z at *
       go_wp2_with fail
       refine Calls.mono HC.out ?_; rintro e w' ⟨q,rfl,rfl⟩
       have cn':=cn q
       have fn':=fn q
       have HT:=show Hid _ from HS.out q; clear HC HS cn fn hcut; generalize wr.drewN q=w2 at *; go_wp2
       go_roundw
       case rel=>first | exact ⟨m+1,_,by omega,by go_num,HT.out⟩ | ((repeat apply Exists.intro); refine ⟨⟨m+1,_,by omega,?_,HT.out⟩,rfl⟩ <;> first | rfl | go_num)
       case measure=>simp [intOf]; omega
     · obtain rfl:m=8:=by omega
       have hI2:=hI.step (by omega) c rfl; have c1:=hI.hs.cell 12 (by omega); have f1:=hI.hs.free 12 (by omega); clear hlt hm g1 hI; generalize f 12=y at *; go_wp2
       go_loopw [33] (fun i w'=>∃ (m:Nat) (f:Nat→Int),m≤3∧i=.int .i64 m∧HBI k c n w (13+m) f w') (fun i _=>3-(intOf i).toNat)
       case atStart=>exact ⟨0,_,by omega,rfl,hI2⟩
       case round =>
        obtain ⟨m,f,hm,rfl,hI⟩:=hrel
        have g1:(0:Int)≤(m:Int):=by omega
        clear hI2 c1 f1
        by_cases hlt:m<3
        · have hcut:=hcut_non (w.heap.size+1) m hlt
          have HC:=show Hid _ from of32_any (w.heap.size+1) (4*m) 12 (12-4*m) (12-4*m) n (by omega) (by omega) hn wr hI.hn; have HS:=show Hid _ from fun q=>(hI.drewN q).step (by omega) _ (hst_non k c n m hlt)
          have g2:(m:Int)<3:=by omega
          have g3:(0:Int)≤13+(m:Int):=by omega
          have g4:13+(m:Int)<16:=by omega
          have g5:(13+(m:Int)).toNat=13+m:=by omega
          have cn:∀ q,(wr.drewN q).cell? ⟨w.heap.size+1+1+1,13+m,none⟩=some (.int .u32 (f (13+m))):=fun q=>hI.hs.cell (13+m) (by omega)
          have fn:∀ q,(wr.drewN q).frozen? ⟨w.heap.size+1+1+1,13+m,none⟩=false:=fun q=>hI.hs.free (13+m) (by omega)
          clear hI hm; generalize f (13+m)=y at *; generalize w32 n (4*m)=z at *
          go_wp2_with fail
          refine Calls.mono HC.out ?_; rintro e w' ⟨q,rfl,rfl⟩
          have cn':=cn q
          have fn':=fn q
          have HT:=show Hid _ from HS.out q; clear HC HS cn fn hcut; generalize wr.drewN q=w2 at *; go_wp2
          go_roundw
          case rel=>first | exact ⟨m+1,_,by omega,by go_num,HT.out⟩ | ((repeat apply Exists.intro); refine ⟨⟨m+1,_,by omega,?_,HT.out⟩,rfl⟩ <;> first | rfl | go_num)
          case measure=>simp [intOf]; omega
        · obtain rfl:m=3:=by omega
          have hs:=hI.hs.congr (g:=hst k c n) (fun j hj=>hI.done j hj); have hz:=hI.hr; have hB:=(hI.fr.setAll (w.heap.size+1+1) (by omega) (row .u32 16 (hst k c n))).below; clear hI hlt hm g1; generalize hf:hst k c n=g at *
          go_wp2_with (first | (refine wpList_load_mid rfl 125 _ rfl (w.heap.size+1+1+1) 0 rfl (row .u32 16 (g)) _ (Has.range (hs)) Tryz.underlying125 rfl (hs_info _) ?_) | (refine wpList_store_mid rfl 125 _ _ rfl (w.heap.size+1+1) 0 (row .u32 16 (g)).toArray rfl rfl (hs_there (hz)) (hs_info' _) (all_oneCell_toArray (row_one _ _ _)) ?_))
          exact bodyPost_ret (v:=(.agg (row .u32 16 (g)).toArray)) (results_row Tryz.results71 rfl (Has.all hz.there .u32 _).range Tryz.underlying125 rfl (hs_info _)) rfl ⟨by rw [hf],hB⟩
theorem hcut_64 (b k:Nat) (hk:k<16) (w:World):(Instr.sliceAt 104 (.pointer (some ⟨b,0,none⟩)) (some (.int .i64 (4*(k:Int)))) none none).run Tryz.prog w=.ok (.slice (some ⟨b,4*k,none⟩) (64-4*k) (64-4*k)) w:=by
 have hl:Tryz.prog.arrayLen 104=64:=by kernel_rfl
 have hs:∀ w,(sizeOf (Tryz.prog.elem 104)).run Tryz.prog w=.ok 1 w:=fun w=>by kernel_rfl
 rw [run_sliceAt_array_l w 104 ⟨b,0,none⟩ (by kernel_rfl) .i64 _ (by omega) (by rw [hl]; omega),hs,hl]
 simp only [Result.andThen,slicedAt]
 have e1:(4*(k:Int)).toNat=4*k:=by omega
 rw [e1,if_neg (by omega),Addr.add_mid,Nat.zero_add,Nat.mul_one]
def HO (k:Nat→Int) (c:Int) (n:Nat→Int) (O i:Nat) (g:Nat→Int) (w':World):Prop:=Has w' O .u8 64 g∧∀ j,j<4*i→g j=hblk k c n j
theorem over_hblk {k:Nat→Int} {c:Int} {n:Nat→Int} {i:Nat} {g:Nat→Int} (h:∀ j,j<4*i→g j=hblk k c n j) (j:Nat) (hj:j<4*(i+1)):over g (4*i) 4 (b32 (hwd k c n i)) j=hblk k c n j:=by
 unfold over
 by_cases e:4*i≤j∧j<4*i+4
 · rw [if_pos e]
   unfold hblk
   rw [show j/4=i by omega,show j%4=j-4*i by omega]
 · rw [if_neg e]; exact h j (by omega)
theorem hblock_any (k:Nat→Int) (c:Int) (n:Nat→Int) (hk:In 256 32 k) (hn:In 256 12 n) (w:World) (hg:HGlob w) :
 Calls Tryz.prog 54 #[(.agg (row .u8 32 (k)).toArray),.int .u32 c,(.agg (row .u8 12 (n)).toArray)] w fun e w'=>e=.returned (.agg (row .u8 64 (hblk k c n)).toArray)∧Below w.heap.size w w':=by
 have K:=Kr.init w; replace K:=K.box .u8 32 k 23 w.heap.size rfl; replace K:=K.box .u8 12 n 75 (w.heap.size+1) (by simp); replace K:=K.make 64 zu8_64 104 (w.heap.size+1+1) (by simp) (hb_zero _ _ _ (by simp)).there
 go_enter Tryz.func54,Tryz.ntmps54
 go_upto_region 1 with fail; generalize (((w.alloc (.cells (row .u8 32 k).toArray 23)).alloc (.cells (row .u8 12 n).toArray 75)).alloc (.cells zu8_64 104))=w0 at K ⊢; refine wp_region_list ?_; refine rowKL .u8 32 k w.heap.size 0 23 _ _ rfl rfl rfl Tryz.underlying23 rfl (key_info _) (K.get _ _ _ _ (mT _ mS)).range ?_; simp only [aP,lI,l0,lS]; refine xpL (.int .u32 c) ?_
 refine rowKL .u8 12 n (w.heap.size+1) 0 75 _ _ rfl rfl rfl Tryz.underlying75 rfl (hn_info _) (K.get _ _ _ _ mS).range ?_; simp only [aP,lI,l0,lS]; refine xcL (hbegin_any k c n hk hn _ (hg.below K.below hg.size)) ?_; rintro e w1 ⟨rfl,l⟩; replace K:=K.call l; clear l; refine xeL ?_; refine allocL zu32_16 125 rfl (fun _=>by kernel_rfl) ?_; simp only [aP,lI,l0,lS]
 refine storesL .u32 16 (hst k c n) w1.heap.size 125 _ _ rfl rfl rfl rfl (room_of (hs_zero _ _ _ rfl).there) (hs_info' _) ?_; simp only [Act.put]; have z1:=K.size; replace K:=K.fresh .u32 16 (hst k c n) zu32_16 125 (hs_zero _ _ _ rfl).there; generalize ((w1.alloc (.cells zu32_16 125)).setCells w1.heap.size 0 (row .u32 16 (hst k c n)))=w2 at K ⊢; generalize w1.heap.size=B at *; clear w1 w0
 show Exit.then _ _ _ _ _; go_upto_region 2 with fail; refine wp_region_list ?_; refine rowKL .u32 16 (hst k c n) B 0 125 _ _ rfl rfl rfl Tryz.underlying125 rfl (hs_info _) (K.get _ _ _ _ mS).range ?_; simp only [aP,lI,l0,lS]; refine allocL zu32_16 125 rfl (fun _=>by kernel_rfl) ?_; simp only [aP,lI,l0,lS]
 refine storesL .u32 16 (hst k c n) w2.heap.size 125 _ _ rfl rfl rfl rfl (room_of (hs_zero _ _ _ rfl).there) (hs_info' _) ?_; simp only [Act.put]; have z2:=K.size; replace K:=K.fresh .u32 16 (hst k c n) zu32_16 125 (hs_zero _ _ _ rfl).there; generalize ((w2.alloc (.cells zu32_16 125)).setCells w2.heap.size 0 (row .u32 16 (hst k c n)))=w3 at K ⊢; generalize w2.heap.size=S at *; clear w2
 show Exit.then _ _ _ _ _
 replace K:=K.sub [(S,.u32,16,hst k c n),(B,.u32,16,hst k c n)] (fun p hp=>by
  rcases xc1 hp with rfl | hp
  · exact mS
  · rcases xc1 hp with rfl | hp
    · exact mT _ mS
    · cases hp)
 go_wp2
 go_loopw [16] (fun i w'=>∃ t:Nat,t≤10∧i=.int .i64 t∧Kr w (S+1) [(S,.u32,16,drN (hst k c n) t),(B,.u32,16,hst k c n)] [(w.heap.size+1+1,64)] w') (fun i _=>10-(intOf i).toNat)
 case atStart=>exact ⟨0,by omega,rfl,K⟩
 case round =>
  clear K
  obtain ⟨t,ht,rfl,K⟩:=hrel
  have g1:(0:Int)≤(t:Int):=by omega
  by_cases hlt:t<10
  · have g2:(t:Int)<10:=by omega
    go_upto_region 5 with fail; refine wp_region_list ?_; refine rowKL .u32 16 (drN (hst k c n) t) S 0 125 _ _ rfl rfl rfl Tryz.underlying125 rfl (hs_info _) (K.get _ _ _ _ mS).range ?_; simp only [aP,lI,l0,lS]; refine xcL (hdouble_any (drN (hst k c n) t) _ (hg.below K.below hg.size)) ?_; rintro e w4 ⟨rfl,l⟩; replace K:=K.call l; clear l; refine xeL ?_
    refine storesL .u32 16 (htN (drN (hst k c n) t) 8) S 125 _ _ rfl rfl rfl rfl (hs_there (K.get _ _ _ _ mS)) (hs_info' _) ?_; simp only [Act.put]; have HS:=show Hid _ from K.set [(B,.u32,16,hst k c n)] S .u32 16 (drN (hst k c n) t) (drN (hst k c n) (t+1)) mS (fun p hp=>mT _ hp) (fun p hp=>by obtain rfl:=xm1 hp; simp only; omega) (by have:=K.base; omega); clear K
    show Exit.inBlock _ _ _ _ _
    go_wp2
    go_roundw
    case rel=>exact ⟨t+1,by omega,by go_num,HS.out⟩
    case measure=>simp [intOf]; omega
  · obtain rfl:t=10:=by omega
    clear ht hlt g1; go_upto_region 8 with fail; have z3:=K.size; have H:=hb_zero wr 104 wr.heap.size rfl; replace K:=K.make 64 zu8_64 104 wr.heap.size rfl H.there; generalize wr.alloc (.cells zu8_64 104)=w5 at K H ⊢; generalize wr.heap.size=O at *
    have H0:HO k c n O 0 (fun _=>0) w5:=⟨H,fun j hj=>by omega⟩
    clear H; go_wp2
    go_loopw [21] (fun i w'=>∃ (i':Nat) (g:Nat→Int),i'≤16∧i=.int .i64 i'∧Kr w (O+1) [(S,.u32,16,drN (hst k c n) 10),(B,.u32,16,hst k c n)] [(O,64),(w.heap.size+1+1,64)] w'∧HO k c n O i' g w') (fun i _=>16-(intOf i).toNat)
    case atStart=>exact ⟨0,_,by omega,rfl,K,H0⟩
    case round =>
     clear K H0
     obtain ⟨i,g,hi,rfl,K,H,hd⟩:=hrel
     have g1:(0:Int)≤(i:Int):=by omega
     by_cases hlt:i<16
     · have g2:(i:Int)<16:=by omega
       have HD:=show Hid _ from fun j hj=>over_hblk hd j hj; clear hd; go_upto_region 11 with fail; refine wp_region_held_drew (S:=fun w'=>Kr w (O+1) [(S,.u32,16,drN (hst k c n) 10),(B,.u32,16,hst k c n)] [(O,64),(w.heap.size+1+1,64)] w') (by kernel_rfl) K.drew ?_; clear K; intro K; replace H:=H.drew; refine xpH 0 24 (.int .i64 (i:Int)) K ?_
       refine xqH 1 25 rfl (.int .i64 (4*(i:Int))) (fun w=>mulI .i64 4 (i:Int) _ _ _ _ _ rfl rfl rfl (by rw [xw6]; omega) w) K ?_; refine xqH 2 26 rfl (.slice (some ⟨O,4*i,none⟩) (64-4*i) (64-4*i)) (fun w=>cutOp _ _ _ _ _ _ rfl rfl rfl (hcut_64 O i hlt w)) K ?_; refine xpH 3 27 (.int .i64 (i:Int)) K ?_
       refine xqH 4 28 rfl (.pointer (some ⟨S,i,none⟩)) (fun w=>idx16 S i hlt w _ _ rfl rfl rfl) K ?_; refine cellH (i:=5) (some 29) rfl .u32 (.int .u32 (drN (hst k c n) 10 i)) S i 87 _ rfl rfl rfl rfl (by kernel_rfl) (by kernel_rfl) (by kernel_rfl) (fun _ _ _ h=>h) Tryz.underlying87 K (fun _ h=>(h.get _ _ _ _ mS).cell i hlt) ?_; simp only [aP,lI,l0,lS]
       refine xpH 6 30 (.int .i64 (i:Int)) K ?_; refine xqH 7 31 rfl (.pointer (some ⟨B,i,none⟩)) (fun w=>idx16 B i hlt w _ _ rfl rfl rfl) K ?_; refine cellH (i:=8) (some 32) rfl .u32 (.int .u32 (hst k c n i)) B i 87 _ rfl rfl rfl rfl (by kernel_rfl) (by kernel_rfl) (by kernel_rfl) (fun _ _ _ h=>h) Tryz.underlying87 K (fun _ h=>(h.get _ _ _ _ (mT _ mS)).cell i hlt) ?_
       simp only [aP,lI,l0,lS]; refine xqH 9 33 rfl (.int .u32 (hwd k c n i)) (fun w=>addI .u32 (drN (hst k c n) 10 i) (hst k c n i) _ _ _ _ _ rfl rfl rfl (by rw [IntKind.wrap_u32']; rfl) w) K ?_; refine callH (i:=10) (some 34) rfl (by kernel_rfl) rfl rfl (fun _=>by kernel_rfl) (put32_any O (4*i) 64 (64-4*i) (64-4*i) (by omega) g (hwd k c n i) (by omega) _ H) ?_
       rintro e w' ⟨rfl,rfl⟩; replace K:=K.poke O 64 mS (4*i) (row .u8 4 (b32 (hwd k c n i))); replace H:=H.part (4*i) 4 (by omega) (b32 (hwd k c n i))
       refine ⟨_,rfl,K,?_⟩
       simp only [aP,lI,l0,lS]
       refine wpAnyH_done (by kernel_rfl) ?_ _
       have HS:=show Hid _ from (And.intro K (show HO k c n O (i+1) _ _ from ⟨H,HD.out⟩)); clear K H HD; generalize (wr.drew.setCells O (4*i) (row .u8 4 (b32 (hwd k c n i))))=w6 at *; go_wp2
       go_roundw
       case rel=>first | exact ⟨i+1,_,by omega,by go_num,HS.out⟩ | ((repeat apply Exists.intro); refine ⟨⟨i+1,_,by omega,?_,HS.out⟩,rfl⟩ <;> first | rfl | go_num)
       case measure=>simp [intOf]; omega
     · obtain rfl:i=16:=by omega
       have h1:=H.congr (g:=hblk k c n) (fun j hj=>hd j (by omega)); have hz:=(K.room _ (mT _ mS)).1; have hB:=(K.fill _ _ (mT _ mS) (row .u8 64 (hblk k c n))).below; clear K H hd hlt hi g1; generalize hf:hblk k c n=f at *
       go_wp2_with (first | (refine wpList_load_mid rfl 104 _ rfl (O) 0 rfl (row .u8 64 (f)) _ (Has.range (h1)) Tryz.underlying104 rfl (hb_info _) ?_) | (refine wpList_store_mid rfl 104 _ _ rfl (w.heap.size+1+1) 0 (row .u8 64 f).toArray rfl rfl (room_of hz) (hb_info' _) (all_oneCell_toArray (row_one _ _ _)) ?_))
       exact bodyPost_ret (v:=(.agg (row .u8 64 (f)).toArray)) (results_row Tryz.results54 rfl (Has.all hz .u8 _).range Tryz.underlying104 rfl (hb_info _)) rfl ⟨by first | rfl | rw [hf],hB⟩
theorem made8 (n:Nat) (hn:n≤281474976710656) (w:World):(Instr.makeSlice 29 (.int .i64 (n:Int)) (.int .i64 (n:Int))).run Tryz.prog w=.ok (.slice (some ⟨w.heap.size,0,none⟩) n n) (w.alloc (.cells (row .u8 n (fun _=>0)).toArray 5)):=by
 have h0:(Tryz.prog.info? 5).map (fun i=>(i.zero,i.bytes,i.size))=some (some (.int .u8 0),1,1):=by kernel_rfl
 obtain ⟨i,hi,he⟩:=Option.map_eq_some_iff.1 h0
 simp only [Prod.mk.injEq] at he
 obtain ⟨h1,h2,h3⟩:=he
 rw [run_make w 29 5 i _ Tryz.underlying29 hi h1 .i64 .i64 n n (by omega) (by omega) (by rw [h2]; omega) (by omega),h3]
 simp only [Int.toNat_natCast,Nat.mul_one]
 have e:madeCells (Value.int .u8 0).cells n=(row .u8 n (fun _=>0)).toArray:=by
  refine Array.toList_inj.1 ?_
  unfold madeCells row
  simp [Value.cells,Nat.mod_one]
 rw [e]
theorem makeOp {P:Program} {o:Oper} {a:Act} {w w':World} (t:TypeId) (x y:Operand) (p q v:Value) (ho:o.op=.makeSlice t x y) (hx:a.eval x=p) (hy:a.eval y=q) (hr:(Instr.makeSlice t p q).run P w=.ok v w') :
 (execOp a.eval o).run P w=.ok (.value v) w':=by
 unfold execOp
 simp only [ho,hx,hy,Sem.run_bind,hr,Result.andThen_ok,Sem.run_pure]
theorem one8:One Tryz.prog 5 .u8 1:=⟨by kernel_rfl⟩
theorem idxO (b len cap i:Nat) (hi:i<len) (w:World) {o:Oper} {a:Act} (x y:Operand) (ho:o.op=.indexAddr 29 x y) (hx:a.eval x=.slice (some ⟨b,0,none⟩) len cap) (hy:a.eval y=.int .i64 (i:Int)) :
 (execOp a.eval o).run Tryz.prog w=.ok (.value (.pointer (some ⟨b,i,none⟩))) w:=by
 have h:=idxSl (P:=Tryz.prog) 29 5 len cap .i64 ⟨b,0,none⟩ i x y Tryz.underlying29 (fun _=>by kernel_rfl) hi ho hx hy w
 rw [Addr.add_mid,Nat.zero_add] at h
 exact h
theorem idx64 (b i:Nat) (hi:i<64) (w:World) {o:Oper} {a:Act} (x y:Operand) (ho:o.op=.indexAddr 104 x y) (hx:a.eval x=.pointer (some ⟨b,0,none⟩)) (hy:a.eval y=.int .i64 (i:Int)) :
 (execOp a.eval o).run Tryz.prog w=.ok (.value (.pointer (some ⟨b,i,none⟩))) w:=by
 have h:=idxArr (P:=Tryz.prog) 104 5 64 .i64 b 0 i x y Tryz.underlying104 (fun _=>by kernel_rfl) hi ho hx hy w
 rw [Nat.zero_add] at h
 exact h
def HX (k:Nat→Int) (c:Int) (n:Nat→Int) (z:Nat→Int) (O len m:Nat) (g:Nat→Int) (w':World):Prop:=Has w' O .u8 len g∧∀ j,j<m→g j=hxor k c n z j
theorem hxor_any (k:Nat→Int) (c:Int) (n:Nat→Int) (hk:In 256 32 k) (hn:In 256 12 n) (hc:0≤c∧c<V) (sp:Option Addr) (len cap:Nat) (hlen:len≤140737488355328) (z:Nat→Int) (w:World) (hg:HGlob w) (hs:Src w sp len z) :
 Calls Tryz.prog 36 #[(.agg (row .u8 32 (k)).toArray),.int .u32 c,(.agg (row .u8 12 (n)).toArray),.slice sp len cap] w fun e w'=>∃ B,e=.returned (.slice (some ⟨B,0,none⟩) len len)∧(w.heap.size≤B∧B<w'.heap.size∧Has w' B .u8 len (hxor k c n z))∧Below w.heap.size w w':=by
 have K:=Kr.init w; replace K:=K.box .u8 32 k 23 w.heap.size rfl; replace K:=K.box .u8 12 n 75 (w.heap.size+1) (by simp)
 go_enter Tryz.func36,Tryz.ntmps36
 go_upto_region 1 with fail; generalize ((w.alloc (.cells (row .u8 32 k).toArray 23)).alloc (.cells (row .u8 12 n).toArray 75))=w0 at K ⊢; refine wp_region_list ?_; refine xpL (.slice sp len cap) ?_; refine xqL (.int .i64 (len:Int)) (fun w=>lenS _ 29 5 sp len cap rfl Tryz.underlying29 rfl w) ?_
 refine xaL (.slice (some ⟨w0.heap.size,0,none⟩) len len) (makeOp _ _ _ _ _ _ rfl rfl rfl (made8 len (by omega) w0)) ?_; refine xpL (.slice (some ⟨w0.heap.size,0,none⟩) len len) ?_; have z0:=K.size; have H:=Has.new w0 .u8 len (fun _=>0) 5 w0.heap.size rfl; replace K:=K.make len _ 5 w0.heap.size rfl H.there
 have HI:=show HX k c n z w0.heap.size len 0 (fun _=>0) _ from ⟨H,fun j hj=>by omega⟩; clear H; generalize (w0.alloc (.cells (row .u8 len (fun _=>0)).toArray 5))=w1 at K HI ⊢; generalize w0.heap.size=O at *; show Exit.then _ _ _ _ _; go_wp2
 go_loopw [1,10] (fun cv i w'=>∃ (t:Nat) (g:Nat→Int),64*t<len+64∧i=.int .i64 (64*(t:Int))∧cv=.int .u32 ((c+(t:Int))%4294967296)∧Kr w (O+1) [(w.heap.size+1,.u8,12,n),(w.heap.size,.u8,32,k)] [(O,len)] w'∧HX k c n z O len (min (64*t) len) g w') (fun _ i _=>len+64-(intOf i).toNat)
 case atStart=>exact ⟨0,_,by omega,rfl,by rw [show (c+((0:Nat):Int))%4294967296=c by simp only [V] at hc; omega],K,by rw [show min (64*0) len=0 by omega]; exact HI⟩
 case round =>
  clear K HI
  obtain ⟨t,g,ht,rfl,rfl,K,H,hd⟩:=hrel
  obtain ⟨C,hC⟩:∃ C,(c+(t:Int))%4294967296=C:=⟨_,rfl⟩
  rw [hC]
  have g1:(0:Int)≤64*(t:Int):=by omega
  by_cases hlt:64*t<len
  · have g2:64*(t:Int)<(len:Int):=by omega
    have HCn:=show Hid _ from hC; clear hC; go_upto_region 5 with fail; refine wp_region_list ?_; refine rowKL .u8 32 k w.heap.size 0 23 _ _ rfl rfl rfl Tryz.underlying23 rfl (key_info _) (K.get _ _ _ _ (mT _ mS)).range ?_; simp only [aP,lI,l0,lS]; refine xpL (.int .u32 C) ?_
    refine rowKL .u8 12 n (w.heap.size+1) 0 75 _ _ rfl rfl rfl Tryz.underlying75 rfl (hn_info _) (K.get _ _ _ _ mS).range ?_; simp only [aP,lI,l0,lS]; refine xcL (hblock_any k C n hk hn _ (hg.below K.below hg.size)) ?_; rintro e w2 ⟨rfl,l⟩; have hO:=(K.room (O,len) mS).2.1; have hsz:=K.size; replace H:=H.below l (by omega); replace K:=K.call l; clear l; refine xeL ?_
    refine allocL zu8_64 104 rfl (fun _=>by kernel_rfl) ?_; simp only [aP,lI,l0,lS]; refine storesL .u8 64 (hblk k C n) w2.heap.size 104 _ _ rfl rfl rfl rfl (room_of (hb_zero _ _ _ rfl).there) (hb_info' _) ?_; simp only [Act.put]; have z2:=K.size; replace H:=(H.alloc (.cells zu8_64 104) (by omega)).setAll_other w2.heap.size (by omega) 0 (row .u8 64 (hblk k C n))
    replace K:=K.fresh .u8 64 (hblk k C n) zu8_64 104 (hb_zero _ _ _ rfl).there; generalize ((w2.alloc (.cells zu8_64 104)).setCells w2.heap.size 0 (row .u8 64 (hblk k C n)))=w3 at K H ⊢; generalize w2.heap.size=D at *; clear w2 hsz; have HX0:=show HX k c n z O len (64*t) g w3 from ⟨H,fun j hj=>hd j (by omega)⟩; clear H hd; show Exit.then _ _ _ _ _; go_wp2
    go_loopw [12] (fun i w'=>∃ (i':Nat) (g:Nat→Int),64*t≤i'∧i'≤min (64*t+64) len∧i=.int .i64 (i':Int)∧Kr w (D+1) [(D,.u8,64,hblk k C n),(w.heap.size+1,.u8,12,n),(w.heap.size,.u8,32,k)] [(O,len)] w'∧HX k c n z O len i' g w') (fun i _=>len+64-(intOf i).toNat)
    case atStart=>exact ⟨64*t,g,by omega,by omega,by go_num,K,HX0⟩
    case round =>
     clear K HX0
     obtain ⟨i,g,hi0,hi1,rfl,K,H,hd⟩:=hrel
     have g3:(0:Int)≤(i:Int):=by omega
     obtain ⟨M,hM⟩:∃ M:Nat,M=min (64*t+64) len:=⟨_,rfl⟩
     have hm:(if (len:Int)<64*(t:Int)+64 then (len:Int) else 64*(t:Int)+64)=(M:Int):=by rw [hM]; split <;> omega
     go_upto_region 7 with fail; refine wp_region_list ?_; refine xpL (.int .i64 (i:Int)) ?_; refine xpL (.int .i64 (64*(t:Int))) ?_; refine xqL (.int .i64 (64*(t:Int)+64)) (fun w=>addI .i64 (64*(t:Int)) 64 _ _ _ _ _ rfl rfl rfl (by rw [xw6]; omega) w) ?_; refine xpL (.slice sp len cap) ?_
     refine xqL (.int .i64 (len:Int)) (fun w=>lenS _ 29 5 sp len cap rfl Tryz.underlying29 rfl w) ?_; refine xqL (.int .i64 (M:Int)) (fun w=>minI .i64 .i64 _ _ _ _ _ _ _ rfl rfl rfl hm w) ?_; refine xqL (.bool (decide ((i:Int)<(M:Int)))) (fun w=>lssI .i64 _ _ _ _ _ _ rfl rfl rfl _ rfl w) ?_; show Exit.then _ _ _ _ _
     by_cases hlt2:i<M
     · have e2:decide ((i:Int)<(M:Int))=true:=by simp; omega
       rw [e2]
       have hil:i<len:=by omega
       have hit:i-64*t<64:=by omega
       obtain ⟨ad,rfl,ca⟩:=hs i hil
       go_upto_region 9 with fail
       have hv:bits .xor .u8 (z i) (hblk k C n (i-64*t))=hxor k c n z i:=by
        unfold hxor
        rw [show i/64=t by omega,show i%64=i-64*t by omega,HCn.out]
       have H2:=show Hid _ from hd; clear hd; refine wp_region_held_drew (S:=fun w'=>Kr w (D+1) [(D,.u8,64,hblk k C n),(w.heap.size+1,.u8,12,n),(w.heap.size,.u8,32,k)] [(O,len)] w') (by kernel_rfl) K.drew ?_; clear K; intro K; replace H:=H.drew; refine xpH 0 36 (.slice (some ⟨O,0,none⟩) len len) K ?_; refine xpH 1 37 (.int .i64 (i:Int)) K ?_
       refine xpH 2 38 (.slice (some ad) len cap) K ?_; refine xpH 3 39 (.int .i64 (i:Int)) K ?_; refine xqH 4 40 rfl (.pointer (some (ad.add i))) (fun w=>idxSl 29 5 len cap .i64 ad i _ _ Tryz.underlying29 (fun _=>by kernel_rfl) hil rfl rfl rfl w) K ?_
       refine cellPH (i:=5) (some 41) rfl .u8 (.int .u8 (z i)) (ad.add i) 5 _ rfl rfl rfl rfl (by kernel_rfl) (by kernel_rfl) (by kernel_rfl) (fun _ _ _ h=>h) Tryz.underlying5 K (fun w' h=>by rw [h.below.cell (World.block_lt_of_cell? w _ ca)]; exact ca) ?_
       simp only [aP,lI,l0,lS]; refine xpH 6 42 (.int .i64 (i:Int)) K ?_; refine xpH 7 43 (.int .i64 (64*(t:Int))) K ?_; refine xqH 8 44 rfl (.int .i64 ((i-64*t:Nat):Int)) (fun w=>subI .i64 (i:Int) (64*(t:Int)) _ _ _ _ _ rfl rfl rfl (by rw [xw6]; omega) w) K ?_
       refine xqH 9 45 rfl (.pointer (some ⟨D,i-64*t,none⟩)) (fun w=>idx64 D (i-64*t) hit w _ _ rfl rfl rfl) K ?_; refine cellH (i:=10) (some 46) rfl .u8 (.int .u8 (hblk k C n (i-64*t))) D (i-64*t) 5 _ rfl rfl rfl rfl (by kernel_rfl) (by kernel_rfl) (by kernel_rfl) (fun _ _ _ h=>h) Tryz.underlying5 K (fun _ h=>(h.get _ _ _ _ mS).cell (i-64*t) hit) ?_
       simp only [aP,lI,l0,lS]; refine xqH 11 47 rfl (.int .u8 (hxor k c n z i)) (fun w=>xorI .u8 _ _ _ _ _ _ _ rfl rfl rfl hv w) K ?_; refine xqH 12 48 rfl (.pointer (some ⟨O,i,none⟩)) (fun w=>idxO O len len i hil w _ _ rfl rfl rfl) K ?_
       refine storeH (i:=13) none rfl .u8 (hxor k c n z i) O i 5 _ _ (by kernel_rfl) rfl rfl rfl rfl rfl (by rw [H.cell i hil]; rfl) (H.free i hil) (by kernel_rfl) (K.poke O len mS i [.int .u8 (hxor k c n z i)]) ?_; replace K:=K.poke O len mS i [.int .u8 (hxor k c n z i)]; replace H:=H.set i hil (hxor k c n z i); simp only [Act.put]
       refine wpAnyH_done (by kernel_rfl) ?_ _
       have HS:=show Hid _ from (And.intro K (show HX k c n z O len (i+1) _ _ from ⟨H,fun j hj=>by
        by_cases e:j=i
        · subst e; rw [upd_same]
        · rw [upd_other _ _ _ _ e]; exact H2.out j (by omega)⟩))
       clear K H H2 hv ca hs e2; go_wp2
       go_roundw
       case rel=>first | exact ⟨i+1,_,by omega,by omega,by go_num,HS.out⟩ | ((repeat apply Exists.intro); refine ⟨⟨i+1,_,by omega,by omega,?_,HS.out⟩,rfl⟩ <;> first | rfl | go_num)
       case measure=>simp [intOf]; omega
     · have e2:decide ((i:Int)<(M:Int))=false:=by simp; omega
       rw [e2]
       obtain rfl:i=M:=by omega
       have K0:=K.back [(w.heap.size+1,.u8,12,n),(w.heap.size,.u8,32,k)] (O+1) (fun p hp=>mT _ hp) (fun p hp=>by
        rcases xc1 hp with rfl | hp
        · simp only; omega
        · obtain rfl:=xm1 hp; simp only; omega) (fun q hq=>by obtain rfl:=xm1 hq; simp only; omega) (by omega) (by omega)
       have HS:=show Hid _ from (And.intro K0 (show HX k c n z O len (min (64*(t+1)) len) g wr from ⟨H,fun j hj=>hd j (by omega)⟩)); have HC2:=show Hid _ from (show (C+1)%4294967296=(c+((t+1:Nat):Int))%4294967296 by rw [← HCn.out]; omega); clear K K0 H hd HCn hs hlt2 hM hm; go_wp2
       go_roundw
       case rel=>first | exact ⟨t+1,g,by omega,by go_num,by rw [HC2.out],HS.out⟩ | ((repeat apply Exists.intro); refine ⟨⟨t+1,g,by omega,?_,?_,HS.out⟩,rfl⟩ <;> first | rfl | go_num | rw [HC2.out])
       case measure=>simp [intOf]; omega
  · obtain ⟨e1,hall⟩:min (64*t) len=len∧len≤64*t:=by omega
    rw [e1] at hd
    have HS:=show Hid _ from (H.congr (g:=hxor k c n z) (fun j hj=>hd j hj)); have hlo:=(K.room (O,len) mS).2; have hsz:=K.size; have hbl:=K.below
    have g2:¬ 64*(t:Int)<(len:Int):=by omega
    clear K H hd hlt hC; go_wp2; go_ret
    exact ⟨O,rfl,⟨hlo.2,by omega,HS.out⟩,hbl⟩
section
theorem Src.none {w:World} {sp:Option Addr} {len:Nat} {z:Nat→Int} (h:Src w sp len z):sp=none→len=0:=fun e=>by
 rcases Nat.eq_zero_or_pos len with h0 | h0
 · exact h0
 · obtain ⟨ad,he,_⟩:=h 0 h0
   rw [e] at he
   cases he
section
variable {P:Program} {o:Oper} {a:Act}
theorem negI (k:IntKind) (n r:Int) (t:TypeId) (x:Operand) (ho:o.op=.unOp .neg t x) (hx:a.eval x=.int k n) (hr:k.wrap (0-n)=r) (w:World):(execOp a.eval o).run P w=.ok (.value (.int k r)) w:=by
 unfold execOp
 simp only [ho,hx,Op.unary,Op.intArith,Sem.run_bind,Sem.run_pure,Result.andThen_ok,hr]
theorem cut_hi {t:TypeId} (ht:P.underlying t=some (.slice (P.elem t))) (hsz:∀ w,(sizeOf (P.elem t)).run P w=.ok 1 w) (sp:Option Addr) (len cap m:Nat) (hm:m≤len) (hc:len≤cap) :
 ∃ sp',(∀ w,(Instr.sliceAt t (.slice sp len cap) none (some (.int .i64 (m:Int))) none).run P w=.ok (.slice sp' m cap) w)∧∀ w z,Src w sp len z→Src w sp' m z:=by
 refine ⟨if cap=0 then sp else sp.map (·.add (0*1)),fun w=>?_,fun w z h j hj=>?_⟩
 · rw [run_sliceAt_slice w t _ _ _ _ ht,run_slice_h w t sp len cap ht .i64 (m:Int) (by omega) (by omega),hsz]
   simp only [Result.andThen,sliced,Int.toNat_natCast,Nat.sub_zero]
 · obtain ⟨ad,rfl,hc'⟩:=h j (by omega)
   rw [if_neg (by omega)]
   exact ⟨ad.add (0*1),rfl,by rw [Nat.zero_mul,Addr.add_add,Nat.zero_add]; exact hc'⟩
theorem cut_lo {t:TypeId} (ht:P.underlying t=some (.slice (P.elem t))) (hsz:∀ w,(sizeOf (P.elem t)).run P w=.ok 1 w) (sp:Option Addr) (len cap m:Nat) (hm:m≤len) (hc:len≤cap) :
 ∃ sp',(∀ w,(Instr.sliceAt t (.slice sp len cap) (some (.int .i64 (m:Int))) none none).run P w=.ok (.slice sp' (len-m) (cap-m)) w)∧∀ w z,Src w sp len z→Src w sp' (len-m) (fun j=>z (m+j)):=by
 refine ⟨if cap=m then sp else sp.map (·.add (m*1)),fun w=>?_,fun w z h j hj=>?_⟩
 · rw [run_sliceAt_slice w t _ _ _ _ ht,run_slice_l w t sp len cap ht .i64 (m:Int) (by omega) (by omega),hsz]
   simp only [Result.andThen,sliced,Int.toNat_natCast]
 · obtain ⟨ad,rfl,hc'⟩:=h (m+j) (by omega)
   rw [if_neg (by omega)]
   exact ⟨ad.add (m*1),rfl,by rw [Nat.mul_one,Addr.add_add]; exact hc'⟩
theorem cut_lh {t:TypeId} (ht:P.underlying t=some (.slice (P.elem t))) (hsz:∀ w,(sizeOf (P.elem t)).run P w=.ok 1 w) (sp:Option Addr) (len cap l h:Nat) (hl:l≤h) (hh:h≤len) (hc:len≤cap) :
 ∃ sp',(∀ w,(Instr.sliceAt t (.slice sp len cap) (some (.int .i64 (l:Int))) (some (.int .i64 (h:Int))) none).run P w=.ok (.slice sp' (h-l) (cap-l)) w)∧∀ w z,Src w sp len z→Src w sp' (h-l) (fun j=>z (l+j)):=by
 refine ⟨if cap=l then sp else sp.map (·.add (l*1)),fun w=>?_,fun w z hs j hj=>?_⟩
 · rw [run_sliceAt_slice w t _ _ _ _ ht,run_slice_lh w t sp len cap ht .i64 .i64 (l:Int) (h:Int) (by omega) (by omega) (by omega),hsz]
   simp only [Result.andThen,sliced,Int.toNat_natCast]
 · obtain ⟨ad,rfl,hc'⟩:=hs (l+j) (by omega)
   rw [if_neg (by omega)]
   exact ⟨ad.add (l*1),rfl,by rw [Nat.mul_one,Addr.add_add]; exact hc'⟩
theorem cutLHop {w:World} (t:TypeId) (x y z:Operand) (p q r v:Value) (ho:o.op=.slice t x (some y) (some z) none) (hx:a.eval x=p) (hy:a.eval y=q) (hz:a.eval z=r) (hr:(Instr.sliceAt t p (some q) (some r) none).run P w=.ok v w) :
 (execOp a.eval o).run P w=.ok (.value v) w:=by
 unfold execOp
 simp only [ho,hx,hy,hz,Option.map_some,Option.map_none,Sem.run_bind,hr,Result.andThen_ok,Sem.run_pure]
end
end
structure Str (w:World) (b:Nat) (k:Nat→Int) (c:Int) (n:Nat→Int):Prop where
 key:w.rangeAt b 0 (row .u8 32 k)
 ctr:w.cell? ⟨b,32,none⟩=some (.int .u32 c)
 non:w.rangeAt b 33 (row .u8 12 n)
 lt:b<w.heap.size
structure HL (w:World) (b:Nat) (k:Nat→Int) (c:Int) (n:Nat→Int) (L:List (Option Addr × Nat × (Nat→Int))) (w':World):Prop where
 st:Str w' b k c n
 src:∀ p∈L,Src w' p.1 p.2.1 p.2.2
 below:Below w.heap.size w w'
theorem xor_twice (x y:Int) (hx:0≤x∧x<256) (hy:0≤y∧y<256):bits .xor .u8 (bits .xor .u8 x y) y=x:=by
 obtain ⟨x,rfl⟩:=xiN hx.1
 obtain ⟨y,rfl⟩:=xiN hy.1
 rw [u8_xor_nat x y (by omega) (by omega),u8_xor_nat _ y (Nat.xor_lt_two_pow (n:=8) (by omega) (by omega)) (by omega),Nat.xor_assoc,Nat.xor_self,Nat.xor_zero]
theorem hxor_twice (k:Nat→Int) (c:Int) (n z:Nat→Int) (m:Nat) (hz:In 256 m z) (j:Nat) (hj:j<m):hxor k c n (hxor k c n z) j=z j :=
 xor_twice _ _ (hz j hj) (hblk_in _ _ _ 64 _ (Nat.mod_lt _ (by decide)))
theorem aout_lo (k n:Nat→Int) (bl:Nat) (b:Nat→Int) (len:Nat) (z:Nat→Int) (j:Nat) (hj:j<len):aout k n bl b len z j=hxor k 1 n z j:=by
 unfold aout app
 rw [if_pos hj]
theorem aout_hi (k n:Nat→Int) (bl:Nat) (b:Nat→Int) (len:Nat) (z:Nat→Int) (j:Nat):aout k n bl b len z (len+j)=atag k n bl b len (hxor k 1 n z) j:=by
 unfold aout app
 rw [if_neg (by omega),show len+j-len=j by omega]
theorem aback_ok (k n:Nat→Int) (bl:Nat) (b:Nat→Int) (len:Nat) (z:Nat→Int):aok k n bl b (len+16) (aout k n bl b len z):=by
 refine ⟨by omega,?_⟩
 rw [show len+16-16=len by omega,atg_congr k n bl b b len _ (hxor k 1 n z) (fun _ _=>rfl) (fun j hj=>aout_lo k n bl b len z j hj),← atag_val]
 exact val_congr 256 16 fun j _=>(aout_hi k n bl b len z j).symm
theorem aback_text (k n:Nat→Int) (bl:Nat) (b:Nat→Int) (len:Nat) (z:Nat→Int) (hz:In 256 len z) (j:Nat) (hj:j<len):hxor k 1 n (aout k n bl b len z) j=z j:=by
 have e:=hxor_twice k 1 n z len hz j hj
 unfold hxor at e ⊢
 rw [aout_lo k n bl b len z j hj]
 exact e
theorem Below.grown {B:Nat} {w w1 w2:World} (l:Below B w w1) {r:Option Nat} (g:w1.grownBy w2 r) (hB:B≤w1.heap.size) (hr:∀ b,r=some b→B≤b):Below B w w2 :=
 ⟨g.os.trans l.os,g.tape.trans l.tape,g.output.trans l.output,xnT l.size g.size,fun j hj=>(g.block j (xnL hj hB) (fun e=>by have:=hr j e.symm; omega)).trans (l.block j hj)⟩
def slen:Value→Nat
 | .slice _ n _=>n
 | _=>0
theorem Own.nilCap {w:World} {base:Nat} {e:TypeId} {k:IntKind} {n:Nat} {f:Nat→Int} {sp:Option Addr} {c:Nat} (h:Own w base e k n f (.slice sp n c)):sp=none→c=0:=fun e=>by
 rcases h.2 with ⟨hv,_⟩ | ⟨g,cap,cur,hv,_⟩
 · injection hv
 · injection hv with hv _ _
   rw [e] at hv
   cases hv
theorem Own.lower {w:World} {base base':Nat} {e:TypeId} {k:IntKind} {n:Nat} {f:Nat→Int} {v:Value} (h:Own w base e k n f v) (hb:base'≤base):Own w base' e k n f v:=by
 refine ⟨h.1,?_⟩
 rcases h.2 with h2 | ⟨g,cap,cur,h1,h2,h3⟩
 · exact .inl h2
 · exact .inr ⟨g,cap,cur,h1,xnT hb h2,h3⟩
theorem Own.le {w:World} {base:Nat} {e:TypeId} {k:IntKind} {n:Nat} {f:Nat→Int} {sp:Option Addr} {c:Nat} (h:Own w base e k n f (.slice sp n c)):n≤c:=by
 rcases h.2 with ⟨hv,h0⟩ | ⟨g,cap,cur,hv,_,_,hc,_⟩
 · omega
 · injection hv with _ _ hc2
   omega
def mA (a b x:Int):Int:=had (had a b) x
def mD (p:Nat) (d a:Int):Int:=hrl p (hxr d a)
def bA1 (a b x:Int):Int:=mA a b x
def bD1 (a b d x:Int):Int:=mD 16 d (bA1 a b x)
def bC1 (a b c d x:Int):Int:=had c (bD1 a b d x)
def bB1 (a b c d x:Int):Int:=mD 20 b (bC1 a b c d x)
def bA (a b c d x y:Int):Int:=mA (bA1 a b x) (bB1 a b c d x) y
def bD (a b c d x y:Int):Int:=mD 24 (bD1 a b d x) (bA a b c d x y)
def bC (a b c d x y:Int):Int:=had (bC1 a b c d x) (bD a b c d x y)
def bB (a b c d x y:Int):Int:=mD 25 (bB1 a b c d x) (bC a b c d x y)
theorem mD_in (p:Nat) (d a:Int) (hd:0≤d∧d<V) (ha:0≤a∧a<V):0≤mD p d a∧mD p d a<V:=hrl_in _ _ (hxr_in _ _ hd ha)
theorem bA_in (a b c d x y:Int):0≤bA a b c d x y∧bA a b c d x y<V:=had_in _ _
theorem bD1_in (a b d x:Int) (hd:0≤d∧d<V):0≤bD1 a b d x∧bD1 a b d x<V:=mD_in _ _ _ hd (had_in _ _)
theorem bB1_in (a b c d x:Int) (hb:0≤b∧b<V):0≤bB1 a b c d x∧bB1 a b c d x<V:=mD_in _ _ _ hb (had_in _ _)
theorem bD_in (a b c d x y:Int) (hd:0≤d∧d<V):0≤bD a b c d x y∧bD a b c d x y<V:=mD_in _ _ _ (bD1_in a b d x hd) (had_in _ _)
theorem bC_in (a b c d x y:Int):0≤bC a b c d x y∧bC a b c d x y<V:=had_in _ _
theorem bB_in (a b c d x y:Int) (hb:0≤b∧b<V):0≤bB a b c d x y∧bB a b c d x y<V:=mD_in _ _ _ (bB1_in a b c d x hb) (had_in _ _)
def bMx (v:Nat→Int) (a b c d:Nat) (x y:Int):Nat→Int :=
 upd (upd (upd (upd v a (bA (v a) (v b) (v c) (v d) x y)) b (bB (v a) (v b) (v c) (v d) x y)) c (bC (v a) (v b) (v c) (v d) x y)) d (bD (v a) (v b) (v c) (v d) x y)
theorem bMx_in (v:Nat→Int) (a b c d:Nat) (x y:Int) (hb:b<16) (hd:d<16) (h:In V 16 v):In V 16 (bMx v a b c d x y) :=
 (((h.upd _ _ (bA_in _ _ _ _ _ _).1 (bA_in _ _ _ _ _ _).2).upd _ _ (bB_in _ _ _ _ _ _ (h b hb)).1 (bB_in _ _ _ _ _ _ (h b hb)).2).upd _ _ (bC_in _ _ _ _ _ _).1 (bC_in _ _ _ _ _ _).2).upd _ _ (bD_in _ _ _ _ _ _ (h d hd)).1 (bD_in _ _ _ _ _ _ (h d hd)).2
def sgL:List Nat:=[0,1,2,3,4,5,6,7,8,9,10,11,12,13,14,15,14,10,4,8,9,15,13,6,1,12,0,2,11,7,5,3,11,8,12,0,5,2,15,13,10,14,3,6,7,1,9,4,7,9,3,1,13,12,11,14,2,6,5,10,4,0,15,8,9,0,5,7,2,4,10,15,14,1,11,12,6,8,3,13,2,12,6,10,0,11,8,3,4,13,7,5,15,14,1,9,12,5,1,15,14,13,4,10,0,7,6,3,9,2,8,11,13,11,7,14,12,1,3,9,5,0,15,4,8,6,2,10,6,15,14,9,11,3,0,8,12,2,13,7,1,4,10,5,10,2,8,4,7,6,1,5,15,11,9,14,3,12,13,0]
def sg (r i:Nat):Nat:=sgL.getD (16*r+i) 0
theorem sg_lt (r i:Nat):sg r i<16:=by
 unfold sg
 rw [List.getD_eq_getElem?_getD]
 cases e:sgL[16*r+i]? with
 | none=>simp
 | some x =>
   have h:∀ x∈sgL,x<16:=by decide +kernel
   simpa using h x (List.mem_of_getElem? e)
def bAt (m:Nat→Int) (s:Nat→Nat) (v:Nat→Int) (i:Nat):Nat→Int:=bMx v (pA i) (pB i) (pC i) (pD i) (m (s (2*i))) (m (s (2*i+1)))
def bN (m:Nat→Int) (s:Nat→Nat) (v:Nat→Int):Nat→Nat→Int
 | 0=>v
 | i+1=>bAt m s (bN m s v i) i
def bR (m:Nat→Int) (v:Nat→Int):Nat→Nat→Int
 | 0=>v
 | r+1=>bN m (sg r) (bR m v r) 8
theorem bAt_in (m:Nat→Int) (s:Nat→Nat) (v:Nat→Int) (i:Nat) (h:In V 16 v):In V 16 (bAt m s v i):=bMx_in _ _ _ _ _ _ _ (by have:=pB_lt i; omega) (by have:=pD_lt i; omega) h
theorem bN_in (m:Nat→Int) (s:Nat→Nat) (v:Nat→Int) (h:In V 16 v):∀ i,In V 16 (bN m s v i)
 | 0=>h
 | i+1=>bAt_in _ _ _ _ (bN_in m s v h i)
theorem bR_in (m:Nat→Int) (v:Nat→Int) (h:In V 16 v):∀ r,In V 16 (bR m v r)
 | 0=>h
 | r+1=>bN_in _ _ _ (bR_in m v h r) 8
def iv:Nat→Int:=bl [1779033703,3144134277,1013904242,2773480762,1359893119,2600822924,528734635,1541459225]
theorem iv_in:In V 8 iv:=fun j hj=>by
 match j,hj with
 | 0,_ | 1,_ | 2,_ | 3,_ | 4,_ | 5,_ | 6,_ | 7,_=>decide
def bst (h:Nat→Int) (t:Int) (last:Bool):Nat→Int:=six (h 0) (h 1) (h 2) (h 3) (h 4) (h 5) (h 6) (h 7) (iv 0) (iv 1) (iv 2) (iv 3) (hxr (iv 4) (t%4294967296)) (hxr (iv 5) (t/4294967296%4294967296)) (if last then 4294967295-iv 6 else iv 6) (iv 7)
def bpw (z:Nat→Int):Nat→Int:=fun i=>w32 z (4*i)
def bpr (h:Nat→Int) (z:Nat→Int) (t:Int) (last:Bool):Nat→Int:=fun i=>hxr (hxr (h i) (bR (bpw z) (bst h t last) 10 i)) (bR (bpw z) (bst h t last) 10 (i+8))
theorem bst_in (h:Nat→Int) (t:Int) (last:Bool) (hh:In V 8 h):In V 16 (bst h t last) :=
 six_in _ _ _ _ _ _ _ _ _ _ _ _ _ _ _ _ (hh 0 (by omega)) (hh 1 (by omega)) (hh 2 (by omega)) (hh 3 (by omega)) (hh 4 (by omega)) (hh 5 (by omega)) (hh 6 (by omega)) (hh 7 (by omega)) (iv_in 0 (by omega)) (iv_in 1 (by omega)) (iv_in 2 (by omega)) (iv_in 3 (by omega))
  (hxr_in _ _ (iv_in 4 (by omega)) (by simp only [V]; omega)) (hxr_in _ _ (iv_in 5 (by omega)) (by simp only [V]; omega)) (by have h6:=iv_in 6 (by omega); simp only [V] at h6 ⊢; split <;> omega) (iv_in 7 (by omega))
theorem bpr_in (h z:Nat→Int) (t:Int) (last:Bool) (hh:In V 8 h):In V 8 (bpr h z t last):=fun j hj =>
 hxr_in _ _ (hxr_in _ _ (hh j hj) (bR_in _ _ (bst_in h t last hh) 10 j (by omega))) (bR_in _ _ (bst_in h t last hh) 10 (j+8) (by omega))
def btl (kl len:Nat):Nat:=(if kl=0 then 0 else 64)+len
def btx (kl:Nat) (key:Nat→Int) (len:Nat) (z:Nat→Int):Nat→Int:=fun j =>
 if kl=0 then (if j<len then z j else 0) else if j<64 then (if j<kl then key j else 0) else if j<64+len then z (j-64) else 0
def bnb (kl len:Nat):Nat:=if btl kl len=0 then 1 else (btl kl len+63)/64
def bh0 (kl size:Nat):Nat→Int:=upd iv 0 (hxr (hxr (hxr (iv 0) 16842752) (256*(kl:Int))) (size:Int))
theorem bh0_in (kl size:Nat) (hk:kl≤32) (hs:size≤32):In V 8 (bh0 kl size):=by
 have h:=hxr_in _ _ (hxr_in _ _ (hxr_in _ _ (iv_in 0 (by omega)) (show 0≤(16842752:Int)∧(16842752:Int)<V by decide)) (show 0≤256*(kl:Int)∧256*(kl:Int)<V by simp only [V]; omega)) (show 0≤(size:Int)∧(size:Int)<V by simp only [V]; omega)
 exact iv_in.upd _ _ h.1 h.2
def bH (kl:Nat) (key:Nat→Int) (size len:Nat) (z:Nat→Int):Nat→Nat→Int
 | 0=>bh0 kl size
 | i+1=>bpr (bH kl key size len z i) (fun j=>btx kl key len z (64*i+j)) ((min (64*i+64) (btl kl len):Nat):Int) (decide (i+1=bnb kl len))
def bsum (kl:Nat) (key:Nat→Int) (size len:Nat) (z:Nat→Int):Nat→Int:=fun j=>b32 (bH kl key size len z (bnb kl len) (j/4)) (j%4)
theorem bsum_in (kl:Nat) (key:Nat→Int) (size len:Nat) (z:Nat→Int) (n:Nat):In 256 n (bsum kl key size len z):=fun j _=>b32_in _ _ (Nat.mod_lt _ (by decide))
def bhash (len:Nat) (z:Nat→Int):Nat→Int:=bsum 0 (fun _=>0) 32 len z
theorem bshlI {P:Program} {o:Oper} {a:Act} (k yk:IntKind) (n y r:Int) (t t':TypeId) (x x':Operand) (ho:o.op=.binOp .shl t x x' t') (hx:a.eval x=.int k n) (hy:a.eval x'=.int yk y) (h0:0≤y) (hr:k.wrap (n*2^min y.toNat k.bits)=r) (w:World):(execOp a.eval o).run P w=.ok (.value (.int k r)) w:=by
 unfold execOp
 simp only [ho,hx,hy,Sem.run_bind,eqGuard_at_int,binOp_shl,shift_shl_any k yk n y h0,Sem.run_pure,Result.andThen_ok,hr]
theorem notI {P:Program} {o:Oper} {a:Act} (k:IntKind) (n r:Int) (t:TypeId) (x:Operand) (ho:o.op=.unOp .xor t x) (hx:a.eval x=.int k n) (hr:bits .xor k (if k.signed then -1 else k.max) n=r) (w:World):(execOp a.eval o).run P w=.ok (.value (.int k r)) w:=by
 unfold execOp
 simp only [ho,hx,unary_xor,intBits_xor,Sem.run_bind,Sem.run_pure,Result.andThen_ok,hr]
theorem bst_of (h:Nat→Int) (t:Int) (f:Nat→Int) (last:Bool) (he:∀ j,f j=upd (upd (app h 8 iv) 12 (hxr (iv 4) (t%4294967296))) 13 (hxr (iv 5) (t/4294967296%4294967296)) j):∀ j,j<16→(if last then upd f 14 (4294967295-iv 6) else f) j=bst h t last j:=fun j hj=>by
 have e14:bst h t last 14=if last then 4294967295-iv 6 else iv 6:=rfl
 have hne:j≠14→f j=bst h t last j:=fun e=>by
  rw [he j]
  match j,hj,e with
  | 0,_,_ | 1,_,_ | 2,_,_ | 3,_,_ | 4,_,_ | 5,_,_ | 6,_,_ | 7,_,_ | 8,_,_ | 9,_,_ | 10,_,_ | 11,_,_ | 12,_,_ | 13,_,_ | 15,_,_=>rfl
  | 14,_,e=>exact absurd rfl e
  | _+16,hj,_=>omega
 have h14:f 14=iv 6:=he 14
 by_cases e:j=14
 · subst e
   rw [e14]
   cases last
   · rw [if_neg (by decide),if_neg (by decide)]; exact h14
   · rw [if_pos rfl,if_pos rfl,upd_same]
 · cases last
   · rw [if_neg (by decide)]; exact hne e
   · rw [if_pos rfl,upd_other _ _ _ _ e]; exact hne e
section
theorem zeros_row (k:IntKind) (m:Nat):Builtin.zeroCells (Value.int k 0).cells m=(row k m (fun _=>0)).toArray:=by
 refine Array.toList_inj.1 ?_
 unfold Builtin.zeroCells row
 simp [Value.cells,Nat.mod_one]
section
variable {P:Program}
end
end
def bkk (kl:Nat) (key:Nat→Int):Nat→Int:=fun j=>if kl≤64 then (if j<kl then key j else 0) else if j<32 then bhash kl key j else 0
def bxx (c:Int) (k:Nat→Int):Nat→Int:=fun j=>bits .xor .u8 (k j) c
def bmac (kl:Nat) (key:Nat→Int) (len:Nat) (z:Nat→Int):Nat→Int:=bhash 96 (app (bxx 92 (bkk kl key)) 64 (bhash (64+len) (app (bxx 54 (bkk kl key)) 64 z)))
theorem bhash_in (len:Nat) (z:Nat→Int) (n:Nat):In 256 n (bhash len z):=bsum_in _ _ _ _ _ _
theorem bxx_in (c:Int) (hc:0≤c∧c<256) (k:Nat→Int) (n:Nat) (hk:In 256 n k):In 256 n (bxx c k):=fun j hj=>by
 unfold bxx
 obtain ⟨x,hx⟩:=xiN (hk j hj).1
 obtain ⟨y,rfl⟩:=xiN hc.1
 have h1:=(hk j hj).2
 rw [hx] at h1 ⊢
 have h:x ^^^ y<2^8:=Nat.xor_lt_two_pow (by omega) (by omega)
 rw [u8_xor_nat x y (by omega) (by omega)]
 omega
theorem app_in (n m:Nat) (f g:Nat→Int) (hf:In 256 n f) (hg:In 256 m g):In 256 (n+m) (app f n g):=fun j hj=>by
 unfold app
 split
 · exact hf j (by assumption)
 · exact hg _ (by omega)
section
section
variable {P:Program} {o:Oper} {a:Act}
theorem shlI (k yk:IntKind) (n y r:Int) (t t':TypeId) (x x':Operand) (ho:o.op=.binOp .shl t x x' t') (hx:a.eval x=.int k n) (hy:a.eval x'=.int yk y) (h0:0≤y) (hr:k.wrap (n*2^min y.toNat k.bits)=r) (w:World):(execOp a.eval o).run P w=.ok (.value (.int k r)) w:=by
 unfold execOp
 simp only [ho,hx,hy,Sem.run_bind,eqGuard_at_int,binOp_shl,shift_shl_any k yk n y h0,Sem.run_pure,Result.andThen_ok,hr]
theorem vandI (k:IntKind) (n n' r:Int) (t t':TypeId) (x y:Operand) (ho:o.op=.binOp .and t x y t') (hx:a.eval x=.int k n) (hy:a.eval y=.int k n') (hr:bits .and k n n'=r) (w:World):(execOp a.eval o).run P w=.ok (.value (.int k r)) w:=by
 unfold execOp
 simp only [ho,hx,hy,Sem.run_bind,eqGuard_at_int,binOp_and,intBits_and,Sem.run_pure,Result.andThen_ok,hr]
theorem vorI (k:IntKind) (n n' r:Int) (t t':TypeId) (x y:Operand) (ho:o.op=.binOp .or t x y t') (hx:a.eval x=.int k n) (hy:a.eval y=.int k n') (hr:bits .or k n n'=r) (w:World):(execOp a.eval o).run P w=.ok (.value (.int k r)) w:=by
 unfold execOp
 simp only [ho,hx,hy,Sem.run_bind,eqGuard_at_int,binOp_or,intBits_or,Sem.run_pure,Result.andThen_ok,hr]
theorem gtrI (k:IntKind) (n n':Int) (t t':TypeId) (x y:Operand) (ho:o.op=.binOp .gtr t x y t') (hx:a.eval x=.int k n) (hy:a.eval y=.int k n') (r:Bool) (hr:decide (n>n')=r) (w:World):(execOp a.eval o).run P w=.ok (.value (.bool r)) w:=by
 unfold execOp
 simp only [ho,hx,hy,Sem.run_bind,eqGuard_at_int,binOp_gtr,Sem.run_pure,Result.andThen_ok,hr]
theorem geqI (k:IntKind) (n n':Int) (t t':TypeId) (x y:Operand) (ho:o.op=.binOp .geq t x y t') (hx:a.eval x=.int k n) (hy:a.eval y=.int k n') (r:Bool) (hr:decide (n≥n')=r) (w:World):(execOp a.eval o).run P w=.ok (.value (.bool r)) w:=by
 unfold execOp
 simp only [ho,hx,hy,Sem.run_bind,eqGuard_at_int,binOp_geq,Sem.run_pure,Result.andThen_ok,hr]
end
theorem loadAny {P:Program} {o:Oper} {a:Act} {w:World} (ty:TypeId) (k:IntKind) (x:Operand) (p:Addr) (v:Value) (ho:o.op=.load ty x) (hx:a.eval x=.pointer (some p)) (hu:P.underlying ty=some (.int k)) (hc:w.cell? p=some v):(execOp a.eval o).run P w=.ok (.value v) w:=by
 have hagg:(isAgg ty).run P w=.ok false w:=by
  unfold isAgg
  rw [Sem.run_bind,run_underlying hu w]
  rfl
 have e:(loadVar ty p).run P w=.ok v w:=by simp [loadVar,Sem.run_bind,hagg,hc]
 unfold execOp
 simp only [ho,hx,Instr.loadAt,Instr.sureAddr,Sem.run_bind,Sem.run_pure,Result.andThen_ok,e]
theorem cut_loN {P:Program} {t:TypeId} (ht:P.underlying t=some (.slice (P.elem t))) (hsz:∀ w,(sizeOf (P.elem t)).run P w=.ok 1 w) (sp:Option Addr) (len cap m:Nat) (hm:m≤len) (hc:len≤cap) (hn:sp=none→cap=0) :
 ∃ sp',(∀ w,(Instr.sliceAt t (.slice sp len cap) (some (.int .i64 (m:Int))) none none).run P w=.ok (.slice sp' (len-m) (cap-m)) w)∧(∀ w z,Src w sp len z→Src w sp' (len-m) (fun j=>z (m+j)))∧(sp'=none→cap-m=0):=by
 refine ⟨if cap=m then sp else sp.map (·.add (m*1)),fun w=>?_,fun w z h j hj=>?_,fun e=>?_⟩
 · rw [run_sliceAt_slice w t _ _ _ _ ht,run_slice_l w t sp len cap ht .i64 (m:Int) (by omega) (by omega),hsz]
   simp only [Result.andThen,sliced,Int.toNat_natCast]
 · obtain ⟨ad,rfl,hc'⟩:=h (m+j) (by omega)
   rw [if_neg (by omega)]
   exact ⟨ad.add (m*1),rfl,by rw [Nat.mul_one,Addr.add_add]; exact hc'⟩
 · by_cases hm:cap=m
   · omega
   · rw [if_neg hm] at e
     cases sp with
     | none=>have:=hn rfl; omega
     | some ad=>cases e
theorem cut_hiN {P:Program} {t:TypeId} (ht:P.underlying t=some (.slice (P.elem t))) (hsz:∀ w,(sizeOf (P.elem t)).run P w=.ok 1 w) (sp:Option Addr) (len cap m:Nat) (hm:m≤len) (hc:len≤cap) (hn:sp=none→cap=0) :
 ∃ sp',(∀ w,(Instr.sliceAt t (.slice sp len cap) none (some (.int .i64 (m:Int))) none).run P w=.ok (.slice sp' m cap) w)∧(∀ w z,Src w sp len z→Src w sp' m z)∧(sp'=none→cap=0):=by
 refine ⟨if cap=0 then sp else sp.map (·.add (0*1)),fun w=>?_,fun w z h j hj=>?_,fun e=>?_⟩
 · rw [run_sliceAt_slice w t _ _ _ _ ht,run_slice_h w t sp len cap ht .i64 (m:Int) (by omega) (by omega),hsz]
   simp only [Result.andThen,sliced,Int.toNat_natCast,Nat.sub_zero]
 · obtain ⟨ad,rfl,hc'⟩:=h j (by omega)
   rw [if_neg (by omega)]
   exact ⟨ad.add (0*1),rfl,by rw [Nat.zero_mul,Addr.add_add,Nat.zero_add]; exact hc'⟩
 · by_cases hm:cap=0
   · exact hm
   · rw [if_neg hm] at e
     cases sp with
     | none=>exact hn rfl
     | some ad=>cases e
theorem shr_byte (n e:Nat) (he:e≤7):(n:Int)/2^min ((8*e:Nat):Int).toNat IntKind.i64.bits=((n/256^e:Nat):Int):=by
 have h1:min ((8*e:Nat):Int).toNat IntKind.i64.bits=8*e:=by
  show min ((8*e:Nat):Int).toNat 64=8*e
  omega
 rw [h1,show (2:Int)^(8*e)=((256^e:Nat):Int) by rw [show (256:Nat)=2^8 from rfl,← Nat.pow_mul]; norm_cast]
 norm_cast
end
def bout (h:Nat→Int):Nat→Int:=fun j=>b32 (h (j/4)) (j%4)
def nbt (n:Nat):Nat:=if n=0 then 1 else (n+63)/64
def tH (h0:Nat→Int) (n:Nat) (f:Nat→Int):Nat→Nat→Int
 | 0=>h0
 | i+1=>bpr (tH h0 n f i) (fun j=>f (64*i+j)) ((min (64*i+64) n:Nat):Int) (decide (i+1=nbt n))
theorem tH_in (h0:Nat→Int) (n:Nat) (f:Nat→Int) (h:In V 8 h0):∀ i,In V 8 (tH h0 n f i)
 | 0=>h
 | i+1=>bpr_in _ _ _ _ (tH_in h0 n f h i)
theorem bH_tH (kl:Nat) (key:Nat→Int) (size len:Nat) (z:Nat→Int):∀ i,bH kl key size len z i=tH (bh0 kl size) (btl kl len) (btx kl key len z) i
 | 0=>rfl
 | i+1=>by
   unfold bH tH
   rw [bH_tH kl key size len z i]
   rfl
theorem bsum_tH (kl:Nat) (key:Nat→Int) (size len:Nat) (z:Nat→Int):bsum kl key size len z=bout (tH (bh0 kl size) (btl kl len) (btx kl key len z) (nbt (btl kl len))):=by
 funext j
 unfold bsum bout
 rw [bH_tH]
 rfl
theorem bN_congr (m m':Nat→Int) (r:Nat) (h:∀ i,i<16→m i=m' i) (v:Nat→Int):∀ k,bN m (sg r) v k=bN m' (sg r) v k
 | 0=>rfl
 | k+1=>by
   unfold bN
   rw [bN_congr m m' r h v k]
   unfold bAt
   rw [h _ (sg_lt r _),h _ (sg_lt r _)]
theorem bR_congr (m m':Nat→Int) (h:∀ i,i<16→m i=m' i) (v:Nat→Int):∀ r,bR m v r=bR m' v r
 | 0=>rfl
 | r+1=>by
   unfold bR
   rw [bR_congr m m' h v r,bN_congr m m' r h]
theorem bpr_congr (h z z':Nat→Int) (t:Int) (last:Bool) (e:∀ j,j<64→z j=z' j):bpr h z t last=bpr h z' t last:=by
 funext i
 unfold bpr
 rw [bR_congr (bpw z) (bpw z') (fun i hi=>by unfold bpw w32; rw [e _ (by omega),e _ (by omega),e _ (by omega),e _ (by omega)])]
def tx2 (fl:Nat) (y:Nat→Int) (len:Nat) (z:Nat→Int):Nat→Int:=fun j=>if j<fl then y j else padz len z (j-fl)
theorem tx2_none (y z:Nat→Int) (j:Nat):tx2 64 y 0 z (64*0+j)=padz 64 y j:=by
 unfold tx2 padz
 rw [Nat.mul_zero,Nat.zero_add]
 by_cases e:j<64
 · rw [if_pos e,if_pos e]
 · rw [if_neg e,if_neg e,if_neg (xnZ _)]
theorem bhash_tx2 (fl:Nat) (y:Nat→Int) (len:Nat) (z:Nat→Int):bhash (fl+len) (app y fl z)=bout (tH (bh0 0 32) (fl+len) (tx2 fl y len z) (nbt (fl+len))):=by
 have e1:btl 0 (fl+len)=fl+len:=Nat.zero_add _
 have e2:btx 0 (fun _=>0) (fl+len) (app y fl z)=tx2 fl y len z:=by
  funext j
  unfold btx tx2 padz app
  rw [if_pos rfl]
  by_cases e:j<fl
  · rw [if_pos (by omega),if_pos e,if_pos e]
  · rw [if_neg e,if_neg e]
    by_cases e3:j<fl+len
    · rw [if_pos e3,if_pos (by omega)]
    · rw [if_neg e3,if_neg (by omega)]
 unfold bhash
 rw [bsum_tH,e1,e2]
def z0:Nat→Int:=fun _=>0
def zs (s:ByteArray):Nat→Int:=fun j=>((s.data.toList.getD j 0).toNat:Int)
theorem zs_in (s:ByteArray) (n:Nat):In 256 n (zs s):=fun j _=>by
 have h:(s.data.toList.getD j 0).toNat<256:=UInt8.toNat_lt _
 unfold zs
 omega
theorem bmac_in (kl:Nat) (key:Nat→Int) (len:Nat) (z:Nat→Int) (n:Nat):In 256 n (bmac kl key len z):=bhash_in _ _ n
def klen:Nat→Nat
 | 0=>0
 | _+1=>32
def ktx (il:Nat) (inf:Nat→Int) (i:Nat) (t:Nat→Int):Nat→Int:=app (app t (klen i) inf) (klen i+il) (fun _=>((i+1:Nat):Int))
def kT (k:Nat→Int) (il:Nat) (inf:Nat→Int):Nat→Nat→Int
 | 0=>fun _=>0
 | i+1=>bmac 32 k (klen i+il+1) (ktx il inf i (kT k il inf i))
theorem kT_in (k:Nat→Int) (il:Nat) (inf:Nat→Int) (n:Nat):∀ i,In 256 n (kT k il inf i)
 | 0=>fun _ _=>⟨Int.le_refl 0,(by decide:(0:Int)<256)⟩
 | _+1=>bmac_in _ _ _ _ _
def sLater:ByteArray:=⟨#[115,104,101,97,118,101,32,108,97,116,101,114]⟩
def sKey:ByteArray:=⟨#[115,104,101,97,118,101,32,107,101,121]⟩
section
theorem bytes_below (w:World) (e:TypeId) (s:ByteArray):Below w.heap.size w (Lib.bytesWorld w e s) :=
 ⟨rfl,rfl,rfl,by rw [Lib.bytesWorld_size]; omega,fun j hj=>Lib.bytesWorld_at_old w e s j hj⟩
theorem bytes_src (w:World) (e:TypeId) (s:ByteArray):Src (Lib.bytesWorld w e s) (some ⟨w.heap.size,0,none⟩) s.size (zs s):=fun j hj=>⟨_,rfl,by
 rw [Addr.add_mid,Nat.zero_add]
 exact Lib.bytesWorld_cell w e s j hj⟩
theorem convStr {P:Program} {o:Oper} {a:Act} {w:World} (t t' e:TypeId) (x:Operand) (s:ByteArray) (ho:o.op=.convert t t' x) (hx:a.eval x=.string s) (ht:P.underlying t=some .string) (hd:P.underlying t'=some (.slice e)) (he:P.underlying e=some (.int .u8)) :
 (execOp a.eval o).run P w=.ok (.value (.slice (some ⟨w.heap.size,0,none⟩) s.size (grownCap w s.size 0 e))) (Lib.bytesWorld w e s):=by
 unfold execOp
 simp only [ho,hx,Sem.run_bind,Lib.run_convert_string_bytes w t t' e s ht hd he,Sem.run_pure,Result.andThen_ok]
section
variable {P:Program} {ops:Array Oper} {Q:Exit→Act→World→Prop} {md:Region.Mode} {S:World→Prop}
theorem skipL {o:Oper} {rest:List Oper} {a:Act} {w:World} (hw:Region.wanted o (yielded ops a.tmps)=false) (h:wpList P ops Q rest (a.put o.dst undef) w):wpList P ops Q (o::rest) a w:=by
 unfold wpList
 rw [if_neg (by rw [hw]; decide)]
 exact h
theorem twoH (i j:Nat) {fuel:Nat} {listed:Array Bool} {a:Act} {w:World} (hr:Region.ready md ops listed=[i,j])
 (hi:wpOp P ops Q i (fun a' w'=>S w'∧wpAnyH P md ops Q S fuel (listed.setIfInBounds i true) a' w') a w) (hj:wpOp P ops Q j (fun a' w'=>S w'∧wpAnyH P md ops Q S fuel (listed.setIfInBounds j true) a' w') a w):wpAnyH P md ops Q S (fuel+1) listed a w :=
 ⟨fun h0=>(by rw [h0] at hr; cases hr),fun q hq=>by
  rw [hr] at hq
  rcases xc1 hq with rfl | hq
  · exact hi
  · obtain rfl:=xm1 hq
    exact hj⟩
end
end
theorem kcutAll (b:Nat) (w:World):(Instr.sliceAt 23 (.pointer (some ⟨b,0,none⟩)) none none none).run Tryz.prog w=.ok (.slice (some ⟨b,0,none⟩) 32 32) w:=by kernel_rfl
def vsz (n:Nat):Nat:=if n<64 then 1 else if n<16384 then 2 else if n<1073741824 then 4 else 8
def fby (n s j:Nat):Int:=((n/256^(s-1-j)%256:Nat):Int)
theorem fby_in (n s j:Nat):0≤fby n s j∧fby n s j<256:=by
 unfold fby
 have:=Nat.mod_lt (n/256^(s-1-j)) (show 0<256 by decide)
 omega
def fV (z:Nat→Int):Nat→Int
 | 0=>0
 | i+1=>fV z i*256+z i
def tV (z:Nat→Int):Nat→Int
 | 0=>z 0%64
 | i+1=>tV z i*256+z (i+1)
def tK (b:Int):Nat:=2^(b/64).toNat
theorem div_step (n e:Nat):n/256^(e+1)*256+n/256^e%256=n/256^e:=by
 rw [Nat.pow_succ,← Nat.div_div_eq_div_mul]
 omega
theorem fV_fby (n s:Nat) (h:n<256^s):∀ i,i≤s→fV (fby n s) i=((n/256^(s-i):Nat):Int)
 | 0,_=>by
   rw [Nat.sub_zero,Nat.div_eq_of_lt h]
   rfl
 | i+1,hi=>by
   show fV (fby n s) i*256+fby n s i=_
   rw [fV_fby n s h i (by omega)]
   unfold fby
   have e1:s-i=(s-(i+1))+1:=by omega
   have e2:s-1-i=s-(i+1):=by omega
   have:=div_step n (s-(i+1))
   rw [e1,e2]
   omega
theorem fV_back (n s:Nat) (h:n<256^s):fV (fby n s) s=(n:Int):=by
 rw [fV_fby n s h s (xnR _),Nat.sub_self,Nat.pow_zero,Nat.div_one]
theorem fV_nonneg (z:Nat→Int) (m:Nat) (hz:In 256 m z):∀ i,i≤m→0≤fV z i∧fV z i<256^i
 | 0,_=>by
   show (0:Int)≤0∧(0:Int)<1
   omega
 | i+1,hi=>by
   have h1:=fV_nonneg z m hz i (by omega); have h2:=hz i (by omega)
   show 0≤fV z i*256+z i∧fV z i*256+z i<256^(i+1)
   rw [Int.pow_succ]
   omega
def tE (len:Nat) (z:Nat→Int):Int:=if len=0 then 3 else if len<tK (z 0) then 3 else if vsz (tV z (tK (z 0)-1)).toNat≠tK (z 0) then 90 else 0
def tN (len:Nat) (z:Nat→Int):Int:=if tE len z=0 then tV z (tK (z 0)-1) else 0
abbrev fbad (n s:Int):Prop:=s<1∨7<s∨n<0∨256^s.toNat≤n
def fL (len:Nat) (n s:Int):Nat:=if fbad n s then 0 else len+s.toNat
def fE (n s:Int):Int:=if fbad n s then 1 else 0
def fput (len:Nat) (z:Nat→Int) (n s:Int):Nat→Int:=app z len (fby n.toNat s.toNat)
def gE (len:Nat) (s:Int):Int:=if s<1∨7<s then 1 else if (len:Int)<s then 3 else 0
def gN (len:Nat) (z:Nat→Int) (s:Int):Int:=if gE len s=0 then fV z s.toNat else 0
def gL (len:Nat) (s:Int):Nat:=if gE len s=0 then len-s.toNat else 0
theorem fV_congr {z y:Nat→Int}:∀ i,(∀ j,j<i→z j=y j)→fV z i=fV y i
 | 0,_=>rfl
 | i+1,h=>by
   show fV z i*256+z i=fV y i*256+y i
   rw [fV_congr i fun j hj=>h j (by omega),h i (by omega)]
theorem bl_app (a b:List Int) (j:Nat):bl (a++b) j=if j<a.length then bl a j else bl b (j-a.length):=by
 unfold bl
 simp only [List.getD_eq_getElem?_getD,List.getElem?_append]
 split <;> rfl
def Byts (b:List Int):Prop:=∀ x∈b,0≤x∧x<256
theorem Byts.bl {b:List Int} (h:Byts b):In 256 b.length (bl b):=fun j hj=>by
 unfold Go.Proofs.YtknodedhcdpbiaaGreatDoor.bl
 rw [List.getD_eq_getElem?_getD,List.getElem?_eq_getElem hj]
 exact h _ (List.getElem_mem hj)
theorem Byts.drop {b:List Int} (h:Byts b) (n:Nat):Byts (b.drop n):=fun x hx=>h x (List.mem_of_mem_drop hx)
theorem Byts.app {a b:List Int} (ha:Byts a) (hb:Byts b):Byts (a++b):=fun x hx=>by
 rcases List.mem_append.1 hx with h | h
 · exact ha x h
 · exact hb x h
theorem Byts.tail {x:Int} {b:List Int} (h:Byts (x::b)):Byts b:=fun y hy=>h y (mT _ hy)
theorem bl_ext {a b:List Int} (hl:a.length=b.length) (h:∀ j,j<a.length→bl a j=bl b j):a=b:=by
 apply List.ext_getElem hl
 intro j h1 h2
 have:=h j h1
 unfold bl at this
 rw [List.getD_eq_getElem?_getD,List.getD_eq_getElem?_getD,List.getElem?_eq_getElem h1,List.getElem?_eq_getElem h2] at this
 exact this
theorem bl_drop (b:List Int) (n j:Nat):bl (b.drop n) j=bl b (n+j):=by
 unfold bl
 simp [List.getD_eq_getElem?_getD,List.getElem?_drop]
def nm (b:List Int):Except Int (Int × List Int):=if tE b.length (bl b)=0 then .ok (tN b.length (bl b),b.drop (tK (bl b 0))) else .error (tE b.length (bl b))
def MX:Int:=4611686018427387903
def rd:Nat→Int→List Int→Except Int (List (Int × Int) × List Int)
 | 0,_,b=>.ok ([],b)
 | n+1,last,b=>match nm b with
   | .error e=>.error e
   | .ok (g,b1)=>match nm b1 with
     | .error e=>.error e
     | .ok (l,b2)=>if MX-last<g∨MX-last-g<l then .error 100 else match rd n (last+g+l) b2 with
       | .error e=>.error e
       | .ok (rs,b3)=>.ok ((last+g,last+g+l)::rs,b3)
def tx (b:List Int):Except Int (List Int × List Int):=match nm b with
 | .error e=>.error e
 | .ok (n,r)=>if 128<n then .error 2 else if (r.length:Int)<n then .error 3 else .ok (r.take n.toNat,r.drop n.toNat)
def rok:List (Int × Int)→Int→Bool→Int→Bool
 | [],_,_,_=>true
 | p::l,fr,ab,upb=>!(decide (p.1<fr) || (ab&&p.1 == fr) || decide (p.2≤p.1) || decide (upb<p.2))&&rok l p.2 true upb
structure Frm where
 kind:Int
 pos:Int
 lim:Int
 rg:List (Int × Int)
 byt:List Int
 tok:List Int
def z8:List Int:=[0,0,0,0,0,0,0,0]
def nmb (n:Int):Bool:=decide (0≤n)&&decide (n≤MX)
def rise (l:List (Int × Int)) (fr:Int) (ab:Bool) (upb:Int):Bool:=rok l fr ab upb&&decide (l.length≤8)
def fkd (f:Frm):Bool :=
 if f.kind=1 then decide (1≤f.byt.length)&&decide (f.byt.length≤128)
 else if f.kind=2 then nmb f.pos&&nmb f.lim&&rise f.rg f.pos true MX
 else if f.kind=3∨f.kind=4 then f.pos == 0
 else if f.kind=5 then decide (f.pos≤65535)
 else if f.kind=6 then true
 else if f.kind=7 then nmb f.pos&&decide (0≤f.lim)&&decide (f.lim≤65535)&&rise f.rg 0 false f.pos
 else false
def foth (f:Frm):Bool :=
 (decide (f.kind≠1)&&decide (0<f.byt.length)) || (decide (f.kind≠2∧f.kind≠7)&&decide (f.lim≠0)) || (decide (f.kind≠2∧f.kind≠7)&&decide (0<f.rg.length)) || (decide (f.kind≠3∧f.kind≠4)&&decide (f.tok≠z8))
def fok (f:Frm):Bool:=fkd f&&!foth f&&nmb f.pos
def fp (k:Int) (b:List Int):Except Int (Frm × List Int) :=
 if k=3∨k=4 then (if b.length<8 then .error 3 else .ok (⟨k,0,0,[],[],b.take 8⟩,b.drop 8))
 else match nm b with
  | .error e=>.error e
  | .ok (a,b1) =>
    if k=1 then (match tx b1 with
     | .error e=>.error e
     | .ok (t,b2)=>.ok (⟨k,a,0,[],t,z8⟩,b2))
    else if k=2∨k=7 then (match nm b1 with
     | .error e=>.error e
     | .ok (l,b2)=>match nm b2 with
       | .error e=>.error e
       | .ok (n,b3)=>if 8<n then .error 100 else match rd n.toNat (if k=2 then a else 0) b3 with
         | .error e=>.error e
         | .ok (rs,b4)=>.ok (⟨k,a,l,rs,[],z8⟩,b4))
    else .ok (⟨k,a,0,[],[],z8⟩,b1)
def dc:Nat→List Int→Except Int (List Frm)
 | _,[]=>.ok []
 | 0,_::_=>.error 2
 | n+1,k::b=>if k<1∨7<k then .error 100 else match fp k b with
   | .error e=>.error e
   | .ok (f,r)=>if fok f=false then .error 100 else match dc n r with
     | .error e=>.error e
     | .ok fs=>.ok (f::fs)
abbrev OwnL (w:World) (base:Nat) (l:List Int) (v:Value):Prop:=Own w base 5 .u8 l.length (bl l) v
theorem bl_app' (a b:List Int) (j:Nat):app (bl a) a.length (bl b) j=bl (a++b) j:=by
 rw [bl_app]
 rfl
theorem OwnL.app {w:World} {base:Nat} {a b:List Int} {v:Value} (h:Own w base 5 .u8 (a.length+b.length) (app (bl a) a.length (bl b)) v):OwnL w base (a++b) v:=by
 unfold OwnL
 rw [List.length_append]
 exact h.congr fun j _=>bl_app' a b j
theorem OwnL.fix {w:World} {base:Nat} {l:List Int} {n s:Nat} {v:Value} (h:Own w base 5 .u8 (l.length+s) (Go.Proofs.YtknodedhcdpbiaaGreatDoor.app (bl l) l.length (fby n s)) v):OwnL w base (l++(List.range s).map (fby n s)) v:=by
 refine OwnL.app ?_
 rw [List.length_map,List.length_range]
 refine h.congr fun j hj=>?_
 unfold Go.Proofs.YtknodedhcdpbiaaGreatDoor.app
 split
 · rfl
 · unfold bl
   rw [List.getD_eq_getElem?_getD,List.getElem?_map,List.getElem?_range (by omega)]
   rfl
theorem bl_range (n:Nat) (f:Nat→Int) (j:Nat) (h:j<n):bl ((List.range n).map f) j=f j:=by
 unfold bl
 simp [List.getD_eq_getElem?_getD,h]
theorem aok_congr {k n:Nat→Int} {m:Nat} {b:Nat→Int} {len:Nat} {z y:Nat→Int} (h:∀ j,j<len→z j=y j):aok k n m b len z↔aok k n m b len y:=by
 unfold aok
 constructor
 · rintro ⟨h1,h2⟩
   refine ⟨h1,?_⟩
   rw [atg_congr k n m b b (len-16) y z (fun _ _=>rfl) (fun j hj=>(h j (by omega)).symm),h2]
   exact val_congr 256 16 fun j hj=>h _ (by omega)
 · rintro ⟨h1,h2⟩
   refine ⟨h1,?_⟩
   rw [atg_congr k n m b b (len-16) z y (fun _ _=>rfl) (fun j hj=>h j (by omega)),h2]
   exact val_congr 256 16 fun j hj=>(h _ (by omega)).symm
def ylt (k:Nat→Int):Nat→Int:=kT k 12 (zs sLater) 1
def yof (k:Nat→Int):Nat→Int:=kT k 10 (zs sKey) 1
structure Kys where
 e:Int
 now:Nat→Int
 last:Nat→Int
 has:Bool
def yat (r:Nat→Int) (n:Int):Kys:=⟨max 0 (min n 65535),r,fun _=>0,false⟩
def ykK (k:Kys) (n:Int):Nat→Int:=if n=k.e then yof k.now else if n=k.e-1∧k.has=true then yof k.last else fun _=>0
def ykE (k:Kys) (n:Int):Int:=if n=k.e then 0 else if n=k.e-1∧k.has=true then 0 else 150
def ynK (k:Kys):Nat→Int:=if 65535≤k.e then fun _=>0 else yof (ylt k.now)
def ynE (k:Kys):Int:=if 65535≤k.e then 6 else 0
def yad (k:Kys):Kys:=if 65535≤k.e then k else ⟨k.e+1,ylt k.now,k.now,true⟩
structure KysW (k:Kys):Prop where
 lo:0≤k.e
 hi:k.e≤65535
 now:In 256 32 k.now
 last:In 256 32 k.last
theorem in_zero32:In 256 32 (fun _=>0):=fun _ _=>⟨Int.le_refl _,show (0:Int)<256 by decide⟩
theorem yat_w {r:Nat→Int} (h:In 256 32 r) (n:Int):KysW (yat r n):=⟨show (0:Int)≤max 0 (min n 65535) by omega,show max 0 (min n 65535)≤(65535:Int) by omega,h,in_zero32⟩
theorem ykK_now {k:Kys} {n:Int} (h:n=k.e):ykK k n=yof k.now:=if_pos h
theorem ykE_now {k:Kys} {n:Int} (h:n=k.e):ykE k n=0:=if_pos h
theorem ykK_last {k:Kys} {n:Int} (h:n=k.e-1) (h2:k.has=true):ykK k n=yof k.last:=by unfold ykK; rw [if_neg (by omega),if_pos ⟨h,h2⟩]
theorem ykE_last {k:Kys} {n:Int} (h:n=k.e-1) (h2:k.has=true):ykE k n=0:=by unfold ykE; rw [if_neg (by omega),if_pos ⟨h,h2⟩]
theorem ykE_none {k:Kys} {n:Int} (h:¬ n=k.e) (h2:¬ (n=k.e-1∧k.has=true)):ykE k n=150:=by unfold ykE; rw [if_neg h,if_neg h2]
theorem yad_end {k:Kys} (h:65535≤k.e):yad k=k:=if_pos h
theorem yad_on {k:Kys} (h:¬ 65535≤k.e):yad k=⟨k.e+1,ylt k.now,k.now,true⟩:=if_neg h
structure Pkt where
 kind:Int
 role:Int
 path:Int
 epo:Int
 ctr:Int
 body:List Int
def flst (n s:Nat):List Int:=(List.range s).map (fby n s)
theorem flst_length (n s:Nat):(flst n s).length=s:=by unfold flst; rw [List.length_map,List.length_range]
theorem bl_flst (n s j:Nat) (h:j<s):bl (flst n s) j=fby n s j:=by
 unfold bl flst
 simp [List.getD_eq_getElem?_getD,h]
theorem flst_byts (n s:Nat):Byts (flst n s):=fun x hx=>by
 obtain ⟨j,_,rfl⟩:=List.mem_map.1 hx
 exact fby_in n s j
theorem fV_cut (z:Nat→Int) (m:Nat) (hz:In 256 m z) (i:Nat):∀ d,i+d≤m→(fV z (i+d)).toNat/256^d=(fV z i).toNat
 | 0,_=>by simp
 | d+1,h=>by
   have h1:=fV_cut z m hz i d (by omega); have h2:=(fV_nonneg z m hz (i+d) (by omega)).1; have h3:=hz (i+d) (by omega)
   have e:fV z (i+(d+1))=fV z (i+d)*256+z (i+d):=rfl
   have e2:(fV z (i+(d+1))).toNat=(fV z (i+d)).toNat*256+(z (i+d)).toNat:=by rw [e]; omega
   rw [e2,Nat.pow_succ,Nat.mul_comm (256^d) 256,← Nat.div_div_eq_div_mul,show ((fV z (i+d)).toNat*256+(z (i+d)).toNat)/256=(fV z (i+d)).toNat by omega,h1]
theorem fby_back (z:Nat→Int) (s:Nat) (hz:In 256 s z) (j:Nat) (hj:j<s):fby (fV z s).toNat s j=z j:=by
 have h1:=fV_cut z s hz (j+1) (s-1-j) (by omega)
 rw [show j+1+(s-1-j)=s by omega] at h1
 have h2:=(fV_nonneg z s hz j (by omega)).1; have h3:=hz j hj
 have e:fV z (j+1)=fV z j*256+z j:=rfl
 unfold fby
 rw [h1,e]
 omega
abbrev Rec (p:Pkt):Prop:=(0≤p.role∧p.role≤1)∧(0≤p.path∧p.path≤255)∧(0≤p.epo∧p.epo≤65535)∧(0≤p.ctr∧p.ctr≤281474976710655)∧16≤p.body.length∧p.body.length≤272
abbrev Hlo (p:Pkt):Prop:=(1≤p.body.length∧p.body.length≤300)∧p.role=0∧p.path=0∧p.epo=0∧p.ctr=0
def pok (p:Pkt):Bool:=if p.kind=1∨p.kind=2 then decide (Hlo p) else if p.kind=3 then decide (Rec p) else false
theorem pok_rec {p:Pkt} (hk:p.kind=3):pok p=decide (Rec p):=by unfold pok; rw [if_neg (by omega),if_pos hk]
theorem pok_hlo {p:Pkt} (hk:p.kind=1∨p.kind=2):pok p=decide (Hlo p):=by unfold pok; rw [if_pos hk]
theorem pok_none {p:Pkt} (h1:¬ (p.kind=1∨p.kind=2)) (h3:¬ p.kind=3):pok p=false:=by unfold pok; rw [if_neg h1,if_neg h3]
theorem pok_iff (p:Pkt):pok p=true↔((p.kind=1∨p.kind=2)∧Hlo p)∨(p.kind=3∧Rec p):=by
 by_cases h1:p.kind=1∨p.kind=2
 · rw [pok_hlo h1]
   simp only [decide_eq_true_eq]
   constructor
   · exact fun h=>.inl ⟨h1,h⟩
   · rintro (h | h)
     · exact h.2
     · omega
 · by_cases h3:p.kind=3
   · rw [pok_rec h3]
     simp only [decide_eq_true_eq]
     constructor
     · exact fun h=>.inr ⟨h3,h⟩
     · rintro (h | h)
       · exact absurd h.1 h1
       · exact h.2
   · rw [pok_none h1 h3]
     simp [h1,h3]
def hdr (p:Pkt):List Int:=3::p.role::p.path::(flst p.epo.toNat 2++flst p.ctr.toNat 6)
def phd (p:Pkt):List Int:=if p.kind=3∧pok p=true then hdr p else []
def pby (p:Pkt):List Int:=if p.kind=3 then hdr p++p.body else p.kind::p.body
def ppr (p:Pkt):Except Int (List Int):=if pok p=true then .ok (pby p) else .error 110
def pno (p:Pkt):List Int:=if p.kind=3∧pok p=true then p.path::(flst p.epo.toNat 2++(0::0::0::flst p.ctr.toNat 6)) else List.replicate 12 0
def prs (b:List Int):Pkt:=if bl b 0=3 then ⟨3,bl b 1,bl b 2,fV (fun j=>bl b (3+j)) 2,fV (fun j=>bl b (5+j)) 6,b.drop 11⟩ else ⟨bl b 0,0,0,0,0,b.drop 1⟩
def pps (b:List Int):Except Int Pkt:=if b.length=0∨(bl b 0=3∧b.length<27) then .error 3 else if pok (prs b)=true then .ok (prs b) else .error 110
theorem hdr_length (p:Pkt):(hdr p).length=11:=by unfold hdr; simp [flst_length]
theorem hdr_three (p:Pkt) (t:List Int):bl (hdr p++t) 0=3∧bl (hdr p++t) 1=p.role∧bl (hdr p++t) 2=p.path:=⟨rfl,rfl,rfl⟩
theorem hdr_epo (p:Pkt) (t:List Int) (j:Nat) (hj:j<2):bl (hdr p++t) (3+j)=fby p.epo.toNat 2 j:=by
 rw [bl_app,if_pos (by rw [hdr_length]; omega)]
 show bl (3::p.role::p.path::(flst p.epo.toNat 2++flst p.ctr.toNat 6)) (3+j)=_
 rw [show 3+j=j+1+1+1 by omega]
 show bl (flst p.epo.toNat 2++flst p.ctr.toNat 6) j=_
 rw [bl_app,if_pos (by rw [flst_length]; exact hj),bl_flst _ _ _ hj]
theorem hdr_ctr (p:Pkt) (t:List Int) (j:Nat) (hj:j<6):bl (hdr p++t) (5+j)=fby p.ctr.toNat 6 j:=by
 rw [bl_app,if_pos (by rw [hdr_length]; omega)]
 show bl (3::p.role::p.path::(flst p.epo.toNat 2++flst p.ctr.toNat 6)) (5+j)=_
 rw [show 5+j=2+j+1+1+1 by omega]
 show bl (flst p.epo.toNat 2++flst p.ctr.toNat 6) (2+j)=_
 rw [bl_app,if_neg (by rw [flst_length]; omega),flst_length,show 2+j-2=j by omega,bl_flst _ _ _ hj]
theorem num_back (z:Nat→Int) (n:Int) (s:Nat) (h0:0≤n) (h1:n.toNat<256^s) (hz:∀ j,j<s→z j=fby n.toNat s j):fV z s=n:=by
 rw [fV_congr s hz,fV_back n.toNat s h1]
 omega
theorem prs_pby (p:Pkt) (h:pok p=true):prs (pby p)=p:=by
 rcases (pok_iff p).1 h with ⟨hk,h1⟩ | ⟨hk,h1⟩
 · have e:pby p=p.kind::p.body:=by unfold pby; rw [if_neg (by omega)]
   obtain ⟨_,r1,r2,r3,r4⟩:=h1
   rw [e]
   unfold prs
   rw [if_neg (show ¬ bl (p.kind::p.body) 0=3 from fun h=>by have:p.kind=3:=h; omega)]
   obtain ⟨k,r,pa,e,c,b⟩:=p
   simp only at r1 r2 r3 r4
   subst r1 r2 r3 r4
   rfl
 · have e:pby p=hdr p++p.body:=by unfold pby; rw [if_pos hk]
   obtain ⟨r1,r2,r3,r4,_⟩:=h1
   rw [e]
   unfold prs
   rw [if_pos (hdr_three p _).1,(hdr_three p _).2.1,(hdr_three p _).2.2,num_back _ p.epo 2 r3.1 (by have:=r3.2; omega) (hdr_epo p _),num_back _ p.ctr 6 r4.1 (by have:=r4.2; omega) (hdr_ctr p _),List.drop_left' (hdr_length p)]
   obtain ⟨k,r,pa,e,c,b⟩:=p
   simp only at hk
   subst hk
   rfl
theorem pby_len (p:Pkt) (h:pok p=true):1≤(pby p).length∧(pby p).length≤301∧(bl (pby p) 0=3→27≤(pby p).length):=by
 rcases (pok_iff p).1 h with ⟨hk,h1⟩ | ⟨hk,h1⟩
 · have e:pby p=p.kind::p.body:=by unfold pby; rw [if_neg (by omega)]
   have h2:=h1.1
   rw [e,List.length_cons]
   exact ⟨by omega,by omega,fun h=>by have:p.kind=3:=h; omega⟩
 · have e:pby p=hdr p++p.body:=by unfold pby; rw [if_pos hk]
   have h2:=h1.2.2.2.2
   rw [e,List.length_append,hdr_length]
   exact ⟨by omega,by omega,fun _=>by omega⟩
theorem pps_pby (p:Pkt) (h:pok p=true):pps (pby p)=.ok p:=by
 have h1:=pby_len p h
 unfold pps
 rw [if_neg (by rintro (h2 | h2); omega; have:=h1.2.2 h2.1; omega),prs_pby p h,if_pos h]
theorem pby_prs (b:List Int) (hb:Byts b) (h0:b.length≠0) (h3:bl b 0=3→27≤b.length):pby (prs b)=b:=by
 have hz:=hb.bl
 by_cases hk:bl b 0=3
 · have h27:=h3 hk
   have e:prs b=⟨3,bl b 1,bl b 2,fV (fun j=>bl b (3+j)) 2,fV (fun j=>bl b (5+j)) 6,b.drop 11⟩:=by unfold prs; rw [if_pos hk]
   have e2:pby (prs b)=hdr (prs b)++b.drop 11:=by rw [e]; rfl
   rw [e2]
   refine bl_ext (by rw [List.length_append,hdr_length,List.length_drop]; omega) fun j hj=>?_
   rw [List.length_append,hdr_length,List.length_drop] at hj
   by_cases j11:j<11
   · by_cases j3:j<3
     · rw [bl_app,if_pos (by rw [hdr_length]; omega),e]
       have:j=0∨j=1∨j=2:=by omega
       rcases this with rfl | rfl | rfl
       · exact hk.symm
       · rfl
       · rfl
     · by_cases j5:j<5
       · obtain ⟨i,rfl⟩:∃ i,j=3+i:=⟨j-3,by omega⟩
         rw [hdr_epo _ _ i (by omega),e]
         exact fby_back (fun j=>bl b (3+j)) 2 (fun q hq=>hz (3+q) (by omega)) i (by omega)
       · obtain ⟨i,rfl⟩:∃ i,j=5+i:=⟨j-5,by omega⟩
         rw [hdr_ctr _ _ i (by omega),e]
         exact fby_back (fun j=>bl b (5+j)) 6 (fun q hq=>hz (5+q) (by omega)) i (by omega)
   · rw [bl_app,if_neg (by rw [hdr_length]; omega),hdr_length,bl_drop,show 11+(j-11)=j by omega]
 · have e:pby (prs b)=bl b 0::b.drop 1:=by
    unfold prs
    rw [if_neg hk]
    unfold pby
    rw [if_neg hk]
   rw [e]
   match b,h0 with
   | x::t,_=>rfl
theorem ppr_pps {b:List Int} {p:Pkt} (hb:Byts b) (h:pps b=.ok p):ppr p=.ok b:=by
 unfold pps at h
 split at h
 · cases h
 · rename_i hne
   split at h
   · rename_i hok
     injection h with h
     subst h
     unfold ppr
     rw [if_pos hok,pby_prs b hb (fun e=>hne (.inl e)) (fun e=>by rcases Nat.lt_or_ge b.length 27 with h | h; exact absurd (.inr ⟨e,h⟩) hne; exact h)]
   · cases h
section
section
variable {P:Program} {ops:Array Oper} {Q:Exit→Act→World→Prop} {md:Region.Mode} {S:World→Prop}
theorem mayL {o:Oper} {rest:List Oper} {a:Act} {w:World} (c:Bool) (v x:Value) (hc:Region.wanted o (yielded ops a.tmps)=c) (hx:x=(bif c then v else undef)) (hv:c=true→(execOp a.eval o).run P w=.ok (.value v) w)
 (h:wpList P ops Q rest (a.put o.dst x) w):wpList P ops Q (o::rest) a w:=by
 subst hx
 unfold wpList
 rw [hc]
 cases c with
 | true =>
   rw [if_pos rfl]
   refine .inl ?_
   unfold Oper.wp
   rw [hv rfl]
   exact h
 | false =>
   rw [if_neg (by decide)]
   exact h
theorem mayCallL {o:Oper} {rest:List Oper} {a:Act} {w:World} (c:Bool) (v x:Value) (f:FuncId) (args:Array Value) (hc:Region.wanted o (yielded ops a.tmps)=c) (hx:x=(bif c then v else undef))
 (he:c=true→∀ w,(execOp a.eval o).run P w=.ok (.enter f args) w) (hC:c=true→Calls P f args w fun e w'=>e=.returned v∧Below w.heap.size w w')
 (h:∀ w',Below w.heap.size w w'→wpList P ops Q rest (a.put o.dst x) w'):wpList P ops Q (o::rest) a w:=by
 subst hx
 unfold wpList
 rw [hc]
 cases c with
 | true =>
   rw [if_pos rfl]
   refine .inl ?_
   unfold Oper.wp
   rw [he rfl w]
   refine (hC rfl).mono fun e w' hR=>?_
   obtain ⟨rfl,l⟩:=hR
   exact h w' l
 | false =>
   rw [if_neg (by decide)]
   exact h w (Below.refl _ _)
theorem mayH {i:Nat} {oi:Oper} (dst:Option Tmp) (hdst:oi.dst=dst) {fuel:Nat} {listed:Array Bool} {a:Act} {w:World} (c:Bool) (v x:Value) (hi:ops[i]?=some oi) (hc:Region.wanted oi (yielded ops a.tmps)=c) (hx:x=(bif c then v else undef))
 (hv:c=true→∀ w,S w→(execOp a.eval oi).run P w=.ok (.value v) w)
 (hs:Region.noSelect ops=true) (hf:Region.free md ops listed i=true) (hr:(Region.ready md ops listed).contains i=true)
 (hQ:∀ c a w,Q (.panic c) (a.put dst x) w→Q (.panic c) a w) (hS:S w)
 (h:wpAnyH P md ops Q S fuel (listed.setIfInBounds i true) (a.put dst x) w):wpAnyH P md ops Q S (fuel+1) listed a w:=by
 subst hdst
 refine wpAnyH_take hi hs hf hr hQ ?_ hS h
 subst hx
 cases c with
 | true=>exact .inl ⟨hc,hv rfl⟩
 | false=>exact .inr ⟨hc,rfl⟩
theorem storeAny {o:Oper} {a:Act} {w:World} (v:Value) (b j:Nat) (ty:TypeId) (x y:Operand) (ho:o.op=.store ty x y) (hx:a.eval x=.pointer (some ⟨b,j,none⟩)) (hy:a.eval y=v) (hv:v.cells=#[v]) (h1:v.oneCell'=true)
 (hc:(w.cell? ⟨b,j,none⟩).isSome=true) (hf:w.frozen? ⟨b,j,none⟩=false) (hz:(P.info? ty).map (·.size)=some 1):(execOp a.eval o).run P w=.ok .skip (w.setCell ⟨b,j,none⟩ v):=by
 have h0:∀ k:Nat,k < [v].length→k=0:=fun k hk=>by simpa using hk
 have hst:=run_storeCells_cells (P:=P) b j [v] 0 w (fun k hk=>by rw [h0 k hk]; simpa using hc) (fun k hk=>by rw [h0 k hk]; simpa using hf) (fun u hu=>by simp at hu; subst hu; exact h1)
 cases hq:P.info? ty with
 | none=>simp [hq] at hz
 | some i =>
   have hs:i.size=1:=by simp [hq] at hz; omega
   simp only [Nat.add_zero] at hst
   have e:(storeVar ty ⟨b,j,none⟩ v).run P w=.ok () (w.setCell ⟨b,j,none⟩ v):=by
    simp [storeVar,sizeOf,typeInfo,hq,hv,hs,hst,World.setCells]
   unfold execOp
   simp only [ho,hx,hy,Instr.storeAt,Instr.sureAddr,Sem.run_bind,Sem.run_pure,Result.andThen_ok,e]
theorem skipOpL {o:Oper} {rest:List Oper} {a:Act} {w w':World} (hw:Region.wanted o (yielded ops a.tmps)=true) (he:(execOp a.eval o).run P w=.ok .skip w') (h:wpList P ops Q rest (a.put o.dst undef) w'):wpList P ops Q (o::rest) a w:=by
 unfold wpList
 rw [if_pos hw]
 refine .inl ?_
 unfold Oper.wp
 rw [he]
 exact h
theorem load1 {o:Oper} {a:Act} {w:World} (ty:TypeId) (x:Operand) (p:Addr) (v:Value) (ho:o.op=.load ty x) (hx:a.eval x=.pointer (some p)) (hagg:∀ w,(isAgg ty).run P w=.ok false w) (hc:w.cell? p=some v):(execOp a.eval o).run P w=.ok (.value v) w:=by
 have e:(loadVar ty p).run P w=.ok v w:=by simp [loadVar,Sem.run_bind,hagg,hc]
 unfold execOp
 simp only [ho,hx,Instr.loadAt,Instr.sureAddr,Sem.run_bind,Sem.run_pure,Result.andThen_ok,e]
theorem loadN {o:Oper} {a:Act} {w:World} (ty:TypeId) (x:Operand) (p:Addr) (cs:List Value) (ho:o.op=.load ty x) (hx:a.eval x=.pointer (some p)) (hagg:∀ w,(isAgg ty).run P w=.ok true w) (hz:∀ w,(sizeOf ty).run P w=.ok cs.length w)
 (hc:∀ j v,cs[j]?=some v→w.cell? (p.add j)=some v):(execOp a.eval o).run P w=.ok (.value (.agg cs.toArray)) w:=by
 have e:(loadVar ty p).run P w=.ok (.agg cs.toArray) w:=by simp [loadVar,Sem.run_bind,hagg,hz,run_loadCells_list w p cs hc]
 unfold execOp
 simp only [ho,hx,Instr.loadAt,Instr.sureAddr,Sem.run_bind,Sem.run_pure,Result.andThen_ok,e]
end
theorem Own.src {w:World} {base:Nat} {e:TypeId} {n:Nat} {f:Nat→Int} {sp:Option Addr} {c:Nat} (h:Own w base e .u8 n f (.slice sp n c)):Src w sp n f:=by
 obtain ⟨sp',c',e,_,hs⟩:=h.bytes
 injection e with e1 _ _
 subst e1
 exact hs
structure Mm (w0:World) (l:List (Nat × List Value)) (w:World):Prop where
 rows:∀ p∈l,(∀ j,j<p.2.length→w.cell? ⟨p.1,j,none⟩=p.2[j]?∧w.frozen? ⟨p.1,j,none⟩=false)∧w0.heap.size≤p.1∧p.1<w.heap.size
 apart:l.Pairwise fun p q=>p.1≠q.1
 below:Below w0.heap.size w0 w
section
variable {w0 w w':World} {l:List (Nat × List Value)}
theorem Mm.init (w:World):Mm w [] w:=⟨fun _ h=>(by cases h),List.Pairwise.nil,Below.refl _ _⟩
theorem Mm.call (h:Mm w0 l w) (b:Below w.heap.size w w'):Mm w0 l w' :=
 ⟨fun p hp=>⟨fun j hj=>by
  have hlt:=(h.rows p hp).2.2
  rw [b.cell (p:=⟨p.1,j,none⟩) hlt,b.frozen (p:=⟨p.1,j,none⟩) hlt]
  exact (h.rows p hp).1 j hj,(h.rows p hp).2.1,xnL (h.rows p hp).2.2 b.size⟩,h.apart,h.below.trans (b.mono h.below.size)⟩
theorem Mm.drew (h:Mm w0 l w):Mm w0 l w.drew:=h.call (Below.refl _ _).drew
theorem Mm.sub (h:Mm w0 l w) (l':List (Nat × List Value)) (hl:l'.Sublist l):Mm w0 l' w:=⟨fun p hp=>h.rows p (hl.subset hp),h.apart.sublist hl,h.below⟩
theorem Mm.tail {p:Nat × List Value} (h:Mm w0 (p::l) w):Mm w0 l w:=h.sub l (List.sublist_cons_self p l)
theorem Mm.box (h:Mm w0 l w) (c:Array Value) (t:TypeId) (b:Nat) (hb:b=w.heap.size):Mm w0 ((b,c.toList)::l) (w.alloc (.cells c t)):=by
 subst hb; have hc:=h.call ((Below.refl w.heap.size w).alloc (xnR _) (.cells c t))
 refine ⟨fun p hp=>?_,List.pairwise_cons.2 ⟨fun q hq e=>?_,h.apart⟩,hc.below⟩
 · rcases xc1 hp with rfl | hp
   · refine ⟨fun j hj=>⟨?_,World.frozen?_alloc_at _ _ _ _ rfl⟩,h.below.size,by simp⟩
     rw [World.cell?_alloc_at _ _ _ _ rfl]
     simp
   · exact hc.rows p hp
 · have:=(h.rows q hq).2.2
   simp only at e
   omega
theorem Mm.get (h:Mm w0 l w) {b:Nat} {cs:List Value} (hp:(b,cs)∈l) (j:Nat) (v:Value) (hv:cs[j]?=some v):w.cell? ⟨b,j,none⟩=some v:=by
 have hj:j<cs.length:=by
  rcases Nat.lt_or_ge j cs.length with h' | h'
  · exact h'
  · rw [List.getElem?_eq_none h'] at hv; cases hv
 rw [((h.rows _ hp).1 j hj).1,hv]
theorem Mm.isSome (h:Mm w0 l w) {b:Nat} {cs:List Value} (hp:(b,cs)∈l) (j:Nat) (hj:j<cs.length):(w.cell? ⟨b,j,none⟩).isSome=true:=by
 rw [((h.rows _ hp).1 j hj).1,List.getElem?_eq_getElem hj]
 rfl
theorem Mm.free (h:Mm w0 l w) {b:Nat} {cs:List Value} (hp:(b,cs)∈l) (j:Nat) (hj:j<cs.length):w.frozen? ⟨b,j,none⟩=false:=((h.rows _ hp).1 j hj).2
theorem Mm.rangeAt (h:Mm w0 l w) {b:Nat} {cs:List Value} (hp:(b,cs)∈l):∀ j v,cs[j]?=some v→w.cell? ((⟨b,0,none⟩:Addr).add j)=some v:=fun j v hv=>by
 rw [Addr.add_mid,Nat.zero_add]
 exact h.get hp j v hv
theorem Mm.part (h:Mm w0 l w) {b:Nat} {cs:List Value} (hp:(b,cs)∈l) (o:Nat) (ds:List Value) (hd:(cs.drop o).take ds.length=ds):∀ j v,ds[j]?=some v→w.cell? ((⟨b,o,none⟩:Addr).add j)=some v:=fun j v hv=>by
 rw [Addr.add_mid]
 refine h.get hp (o+j) v ?_
 have hj:j<ds.length:=by
  rcases Nat.lt_or_ge j ds.length with h' | h'
  · exact h'
  · rw [List.getElem?_eq_none h'] at hv; cases hv
 rw [← hd,List.getElem?_take,if_pos hj,List.getElem?_drop] at hv
 exact hv
theorem size_setCell (w:World) (p:Addr) (v:Value):(w.setCell p v).heap.size=w.heap.size:=by simp
theorem Mm.set {b:Nat} {cs:List Value} (h:Mm w0 ((b,cs)::l) w) (j:Nat) (hj:j<cs.length) (v:Value):Mm w0 ((b,cs.set j v)::l) (w.setCell ⟨b,j,none⟩ v):=by
 have hb:=h.rows _ mS; have hne:=(List.pairwise_cons.1 h.apart).1
 refine ⟨fun p hp=>?_,List.pairwise_cons.2 ⟨hne,(List.pairwise_cons.1 h.apart).2⟩,below_setAll h.below b hb.2.1 j [v]⟩
 rcases xc1 hp with rfl | hp
 · refine ⟨fun i hi=>⟨?_,by rw [World.frozen?_setCell]; exact (hb.1 i (by simpa using hi)).2⟩,hb.2.1,by rw [size_setCell]; exact hb.2.2⟩
   simp only [List.length_set] at hi
   by_cases e:i=j
   · subst e
     rw [World.cell?_setCell_same' _ _ _ (h.isSome mS i hj),List.getElem?_set_self hj]
   · have e2:=World.cell?_setCell_other (w:=w) (v:=v) (a:=⟨b,j,none⟩) (b:=⟨b,i,none⟩) (by intro e'; injection e' with _ e'; exact e e'.symm)
     simp only
     rw [e2,List.getElem?_set_ne (Ne.symm e)]
     exact (hb.1 i hi).1
 · have h2:=h.rows p (mT _ hp)
   refine ⟨fun i hi=>⟨?_,by rw [World.frozen?_setCell]; exact (h2.1 i hi).2⟩,h2.2.1,by rw [size_setCell]; exact h2.2.2⟩
   rw [World.cell?_setCell_far _ _ _ _ (hne p hp)]
   exact (h2.1 i hi).1
theorem Mm.swap {p q:Nat × List Value} (h:Mm w0 (p::q::l) w):Mm w0 (q::p::l) w:=by
 obtain ⟨h1,h2⟩:=List.pairwise_cons.1 h.apart
 obtain ⟨h3,h4⟩:=List.pairwise_cons.1 h2
 refine ⟨fun x hx=>h.rows x ?_,List.pairwise_cons.2 ⟨fun x hx=>?_,List.pairwise_cons.2 ⟨fun x hx=>h1 x (mT _ hx),h4⟩⟩,h.below⟩
 · rcases xc1 hx with rfl | hx
   · exact mT _ mS
   · rcases xc1 hx with rfl | hx
     · exact mS
     · exact mT _ (mT _ hx)
 · rcases xc1 hx with rfl | hx
   · exact (h1 q mS).symm
   · exact h3 x hx
theorem Mm.grown (h:Mm w0 l w) {r:Option Nat} (g:w.grownBy w' r) (m:Nat) (hm:∀ p∈l,p.1<m) (h0:w0.heap.size≤m) (hz:m≤w.heap.size) (hr:∀ b,r=some b→m≤b):Mm w0 l w':=by
 have hb:Below m w w':=⟨g.os,g.tape,g.output,g.size,fun j hj=>g.block j (xnL hj hz) (fun e=>by have:=hr j e.symm; omega)⟩
 exact ⟨fun p hp=>⟨fun j hj=>by
  rw [hb.cell (p:=⟨p.1,j,none⟩) (hm p hp),hb.frozen (p:=⟨p.1,j,none⟩) (hm p hp)]
  exact (h.rows p hp).1 j hj,(h.rows p hp).2.1,xnL (h.rows p hp).2.2 g.size⟩,h.apart,h.below.trans (hb.mono h0)⟩
theorem Mm.lt (h:Mm w0 l w) {b:Nat} {cs:List Value} (hp:(b,cs)∈l):b<w.heap.size:=(h.rows _ hp).2.2
theorem Mm.lo (h:Mm w0 l w) {b:Nat} {cs:List Value} (hp:(b,cs)∈l):w0.heap.size≤b:=(h.rows _ hp).2.1
end
end
section
def i64 (n:Int):Prop:=-9223372036854775808≤n∧n<9223372036854775808
structure Off (X:List Nat) (w w':World):Prop where
 size:w.heap.size≤w'.heap.size
 blk:∀ b,b<w.heap.size→b∉X→w'.heap[b]?=w.heap[b]?
section
variable {X Y:List Nat} {w w1 w2:World}
theorem Off.refl (X:List Nat) (w:World):Off X w w:=⟨xnR _,fun _ _ _=>rfl⟩
theorem Off.trans (h:Off X w w1) (g:Off X w1 w2):Off X w w2:=⟨xnT h.size g.size,fun b hb hX=>(g.blk b (xnL hb h.size) hX).trans (h.blk b hb hX)⟩
theorem Off.mono (h:Off X w w1) (hX:∀ b∈X,b∈Y):Off Y w w1:=⟨h.size,fun b hb hY=>h.blk b hb fun e=>hY (hX b e)⟩
theorem Off.of_below (l:Below w.heap.size w w1):Off X w w1:=⟨l.size,fun b hb _=>l.block b hb⟩
theorem Off.below (h:Off X w w1) (l:Below w1.heap.size w1 w2):Off X w w2:=h.trans (.of_below l)
theorem Off.set (h:Off X w w1) {b:Nat} (hb:b∈X) (j:Nat) (v:Value):Off X w (w1.setCell ⟨b,j,none⟩ v) :=
 h.trans ⟨by simp,fun c _ hX=>by
  have:c≠b:=fun e=>hX (e ▸ hb)
  simp [World.setCell,Array.getElem?_modify,Ne.symm this]⟩
theorem Off.grown (h:Off X w w1) {r:Option Nat} (g:w1.grownBy w2 r) (hr:∀ b,r=some b→b∈X∨w.heap.size≤b):Off X w w2 :=
 ⟨xnT h.size g.size,fun b hb hX=>by
  rw [g.block b (xnL hb h.size) (fun e=>by
   rcases hr b e.symm with h' | h'
   · exact hX h'
   · omega)]
  exact h.blk b hb hX⟩
theorem Off.cell (h:Off X w w1) {p:Addr} {v:Value} (hc:w.cell? p=some v) (hX:p.block∉X):w1.cell? p=some v:=by
 rw [World.cell?_of_block (h.blk p.block (World.block_lt_of_cell? w p hc) hX)]
 exact hc
end
def SrcA (X:List Nat) (w:World) (sp:Option Addr) (n:Nat) (z:Nat→Int):Prop:=Src w sp n z∧∀ ad,sp=some ad→0<n→ad.block∉X
theorem add_block (p:Addr) (j:Nat):(p.add j).block=p.block:=by unfold Addr.add; split <;> rfl
theorem SrcA.off {X:List Nat} {w w':World} {sp:Option Addr} {n:Nat} {z:Nat→Int} (h:SrcA X w sp n z) (o:Off X w w'):SrcA X w' sp n z :=
 ⟨fun j hj=>by
  obtain ⟨ad,rfl,hc⟩:=h.1 j hj
  exact ⟨ad,rfl,o.cell hc (by rw [add_block]; exact h.2 ad rfl (by omega))⟩,h.2⟩
theorem SrcA.less {X Y:List Nat} {w:World} {sp:Option Addr} {n:Nat} {z:Nat→Int} (h:SrcA X w sp n z) (hY:∀ b∈Y,b∈X):SrcA Y w sp n z:=⟨h.1,fun ad e hn hm=>h.2 ad e hn (hY _ hm)⟩
theorem SrcA.of_own {X:List Nat} {w:World} {base:Nat} {e:TypeId} {n:Nat} {z:Nat→Int} {sp:Option Addr} {c:Nat} (h:Own w base e .u8 n z (.slice sp n c)) (hX:∀ b∈X,b<base):SrcA X w sp n z :=
 ⟨h.src,fun ad e' _ hm=>by
  subst e'
  have h1:=(World.ownsRow.lt h ad.block rfl).1; have h2:=hX ad.block hm
  omega⟩
theorem ownsRow_off {X:List Nat} {w w':World} {base size n:Nat} {e:TypeId} {v:Value} {xs:List Value} (h:w.ownsRow base e size v n xs) (o:Off X w w') (hX:∀ b∈X,v.ownBlock≠some b):w'.ownsRow base e size v n xs:=by
 refine ⟨h.1,?_⟩
 rcases h.2 with h0 | ⟨g,cap,cur,hv,hb,hg,h5,h6,h7,h8⟩
 · exact .inl h0
 · refine .inr ⟨g,cap,cur,hv,hb,?_,h5,h6,h7,h8⟩
   have hlt:g<w.heap.size:=by
    rcases Nat.lt_or_ge g w.heap.size with h' | h'
    · exact h'
    · rw [Array.getElem?_eq_none h'] at hg; cases hg
   rw [o.blk g hlt (fun hm=>hX g hm (by rw [hv]; rfl))]
   exact hg
section
variable {P:Program}
end
theorem Mm.off {w0 w w':World} {l:List (Nat × List Value)} (h:Mm w0 l w) {X:List Nat} (o:Off X w w') (hX:∀ b∈X,w0.heap.size≤b) (hl:∀ p∈l,p.1∉X) (hos:w'.os=w.os∧w'.tape=w.tape∧w'.output=w.output):Mm w0 l w' :=
 ⟨fun p hp=>⟨fun j hj=>by
  have e:=o.blk p.1 (h.rows p hp).2.2 (hl p hp)
  rw [World.cell?_of_block (a:=⟨p.1,j,none⟩) e,World.frozen?_of_block (a:=⟨p.1,j,none⟩) e]
  exact (h.rows p hp).1 j hj,(h.rows p hp).2.1,xnL (h.rows p hp).2.2 o.size⟩,h.apart,
  ⟨hos.1.trans h.below.os,hos.2.1.trans h.below.tape,hos.2.2.trans h.below.output,xnT h.below.size o.size,fun b hb=>(o.blk b (xnL hb h.below.size) (fun hm=>by have:=hX b hm; omega)).trans (h.below.block b hb)⟩⟩
end
end Go.Proofs.YtknodedhcdpbiaaGreatDoor
