/- Texts of To Tq Tr Ti Tk, joined. -/
import Derived.Test.YtpdpfdelglgfnaaP4OutboxBytes
set_option maxRecDepth 20000
set_option maxHeartbeats 64000000
namespace Go.Proofs.Ytpdpfdelglgfnaa
open Go.RowKit
theorem vwith_any (f t:Int) (w:World) :
 Calls Try.prog 42 #[.int .i64 f,.int .i64 t] w fun e w'=>e=.returned (.agg #[.int .i64 (rlo f),.int .i64 (rhi t)])∧Below w.heap.size w w':=by
 have M:=Mm.init w
 go_enter Try.func42,Try.ntmps42
 go_upto_region 0 with fail; refine wp_region_list ?_; refine actL (w':=w.alloc (.cells #[.int .i64 0,.int .i64 0] 49)) (.pointer (some ⟨w.heap.size,0,none⟩)) rfl (by kernel_rfl) ?_; simp only [aP,lI,l0,lS]
 have hB_B1:w.heap.size≤w.heap.size:=M.below.size
 replace M:=M.box #[.int .i64 0,.int .i64 0] 49 w.heap.size rfl; generalize w.alloc (.cells #[.int .i64 0,.int .i64 0] 49)=w1 at M  ⊢; generalize eB:w.heap.size=B1 at M hB_B1  ⊢
 have hE_B1:w.heap.size≤B1:=Nat.le_of_eq eB
 have hF_B1:B1≤w.heap.size:=Nat.le_of_eq eB.symm
 clear eB
 replace M:Mm w ((B1,[.int .i64 0,.int .i64 0])::([]:List (Nat × List Value))) w1:=M
 refine xT ?_; go_upto_region 1 with fail; refine wp_region_list ?_; refine xpL (.int .i64 f) ?_; refine xaL (.int .i64 (rlo f)) (maxI .i64 .i64 _ _ _ _ _ _ _ rfl rfl rfl (by unfold rlo; split <;> omega) _) ?_; refine xpL (.int .i64 t) ?_; refine xaL (.int .i64 (rhi t)) (minI .i64 .i64 _ _ _ _ _ _ _ rfl rfl rfl (by unfold rhi; split <;> omega) _) ?_
 refine xpL (.agg #[.int .i64 (rlo f),.int .i64 (rhi t)]) ?_; refine skipOpL rfl (storeP [.int .i64 (rlo f),.int .i64 (rhi t)] B1 0 49 _ _ rfl rfl rfl (M.thereP mS 0 2 (Nat.le_of_ble_eq_true rfl)) (by kernel_rfl) (List.all_eq_true.1 (rfl:([.int .i64 (rlo f),.int .i64 (rhi t)]:List Value).all (fun u=>u.oneCell')=true))) ?_; simp only [Act.put]
 replace M:=M.setPart [.int .i64 (rlo f),.int .i64 (rhi t)] 0 (Nat.le_of_ble_eq_true rfl); generalize w1.setCells B1 0 [.int .i64 (rlo f),.int .i64 (rhi t)]=w2 at M  ⊢
 replace M:Mm w ((B1,[.int .i64 (rlo f),.int .i64 (rhi t)])::([]:List (Nat × List Value))) w2:=M
 refine xT ?_; have hbel:=M.below; have hcs:=M.rangeAt mS; clear M; go_wp2
 exact bodyPost_ret (v:=.agg #[.int .i64 (rlo f),.int .i64 (rhi t)]) (retCell 4 49 ⟨B1,0,none⟩ [.int .i64 (rlo f),.int .i64 (rhi t)] rfl rfl (fun _=>by kernel_rfl) (fun _=>by kernel_rfl) hcs) rfl ⟨rfl,hbel⟩
theorem vempty_any (a b:Int) (w:World) :
 Calls Try.prog 43 #[.agg #[.int .i64 a,.int .i64 b]] w fun e w'=>e=.returned (.bool (decide (a≥b)))∧Below w.heap.size w w':=by
 have M:=Mm.init w
 go_enter Try.func43,Try.ntmps43
 go_upto_region 0 with fail; refine wp_region_list ?_; refine actL (w':=w.alloc (.cells #[.int .i64 a,.int .i64 b] 49)) (.pointer (some ⟨w.heap.size,0,none⟩)) rfl (by kernel_rfl) ?_; simp only [aP,lI,l0,lS]
 have hB_B1:w.heap.size≤w.heap.size:=M.below.size
 replace M:=M.box #[.int .i64 a,.int .i64 b] 49 w.heap.size rfl; generalize w.alloc (.cells #[.int .i64 a,.int .i64 b] 49)=w1 at M  ⊢; generalize eB:w.heap.size=B1 at M hB_B1  ⊢
 have hE_B1:w.heap.size≤B1:=Nat.le_of_eq eB
 have hF_B1:B1≤w.heap.size:=Nat.le_of_eq eB.symm
 clear eB
 replace M:Mm w ((B1,[.int .i64 a,.int .i64 b])::([]:List (Nat × List Value))) w1:=M
 refine xpL (.bool false) ?_; refine xT ?_; go_upto_region 1 with fail; refine wp_region_list ?_; refine xpL (.pointer (some ⟨B1,0,none⟩)) ?_; refine xaL (.int .i64 a) (load1 3 _ ⟨B1,0,none⟩ _ rfl rfl (fun _=>by kernel_rfl) (M.get mS 0 _ rfl)) ?_; refine xpL (.pointer (some ⟨B1,1,none⟩)) ?_
 refine xaL (.int .i64 b) (load1 3 _ ⟨B1,1,none⟩ _ rfl rfl (fun _=>by kernel_rfl) (M.get mS 1 _ rfl)) ?_; refine xaL (.bool (decide (a≥b))) (geqI .i64 _ _ _ _ _ _ rfl rfl rfl (decide (a≥b)) rfl _) ?_; refine xpL (.bool (decide (a≥b))) ?_; refine xT ?_; have hbel:=M.below; clear M; go_wp2; go_ret
 exact ⟨rfl,hbel⟩
theorem vsum_any (sp:Option Addr) (cap:Nat) (L:Rgs17) (hc:Can L) (hln:L.length<1000000) (w:World) (N:NewW w 0 L (.slice sp L.length cap)) :
 Calls Try.prog 55 #[.slice sp L.length cap] w fun e w'=>e=.returned (.int .i64 (rtot L))∧Below w.heap.size w w':=by
 have M:=Mm.init w
 go_enter Try.func55,Try.ntmps55
 go_upto_region 0 with fail; refine wp_region_list ?_; refine xpL (.int .i64 0) ?_; refine xT ?_; go_upto_region 1 with fail; refine wp_region_list ?_; refine xpL (.int .i64 0) ?_; refine xT ?_; go_upto_region 2 with fail; refine wp_region_list ?_; refine xpL (.slice sp L.length cap) ?_; refine xaL (.int .i64 ((L.length:Nat):Int)) (lenS _ 29 49 sp L.length cap rfl Try.underlying29 rfl _) ?_
 refine xpL (.int .i64 0) ?_; refine xT ?_; have HI:=show Hid _ from M.below; clear M; go_wp2
 go_loopw [3,8] (fun n i w'=>∃ i':Nat,i'≤L.length∧n=.int .i64 (rtot (L.take i'))∧i=.int .i64 (i':Int)∧Below w.heap.size w w') (fun n i _=>L.length-(intOf i).toNat)
 case atStart=>exact ⟨0,Nat.zero_le _,rfl,rfl,HI.out⟩
 case round =>
  clear HI
  obtain ⟨i,hi,rfl,rfl,hB⟩:=hrel
  by_cases hil:i<L.length
  · obtain ⟨pr,hpr⟩:∃ pr,L[i]?=some pr:=⟨_,List.getElem?_eq_getElem hil⟩
    obtain ⟨adr,rfl,_,_⟩:=NewW.at N hpr
    have M:=(Mm.init w).call hB; have hst:=rtot_step hc hpr; go_upto_region 3 with fail; refine wp_region_list ?_; refine xaL (.bool true) (lssI .i64 _ _ _ _ _ _ rfl rfl rfl true (decide_eq_true (by omega)) _) ?_; refine xT ?_; go_upto_region 4 with fail; refine wp_region_list ?_; refine readL (.pointer (some (adr.add (i*2)))) rfl (idxR2 adr _ _ i hil _ _ rfl rfl rfl _) ?_
    simp only [aP,lI,l0,lS]; refine xaL (.agg #[.int .i64 pr.1,.int .i64 pr.2]) (loadN 49 _ (adr.add (i*2)) [.int .i64 pr.1,.int .i64 pr.2] rfl rfl (fun _=>by kernel_rfl) (fun _=>by kernel_rfl) (NewW.rng (NewW.below N M.below) hpr)) ?_; refine actL (w':=wr.alloc (.cells #[.int .i64 0,.int .i64 0] 49)) (.pointer (some ⟨wr.heap.size,0,none⟩)) rfl (by kernel_rfl) ?_
    simp only [aP,lI,l0,lS]
    have hB_B1:w.heap.size≤wr.heap.size:=M.below.size
    replace M:=M.box #[.int .i64 0,.int .i64 0] 49 wr.heap.size rfl; generalize wr.alloc (.cells #[.int .i64 0,.int .i64 0] 49)=w1 at M  ⊢; generalize eB:wr.heap.size=B1 at M hB_B1  ⊢
    have hE_B1:wr.heap.size≤B1:=Nat.le_of_eq eB
    have hF_B1:B1≤wr.heap.size:=Nat.le_of_eq eB.symm
    clear eB
    replace M:Mm w ((B1,[.int .i64 0,.int .i64 0])::([]:List (Nat × List Value))) w1:=M
    refine skipOpL rfl (storeP [.int .i64 pr.1,.int .i64 pr.2] B1 0 49 _ _ rfl rfl rfl (M.thereP mS 0 2 (Nat.le_of_ble_eq_true rfl)) (by kernel_rfl) (List.all_eq_true.1 (rfl:([.int .i64 pr.1,.int .i64 pr.2]:List Value).all (fun u=>u.oneCell')=true))) ?_; simp only [Act.put]; replace M:=M.setPart [.int .i64 pr.1,.int .i64 pr.2] 0 (Nat.le_of_ble_eq_true rfl)
    generalize w1.setCells B1 0 [.int .i64 pr.1,.int .i64 pr.2]=w2 at M  ⊢
    replace M:Mm w ((B1,[.int .i64 pr.1,.int .i64 pr.2])::([]:List (Nat × List Value))) w2:=M
    refine xT ?_; go_upto_region 5 with fail; refine wp_region_list ?_; refine xpL (.int .i64 (rtot (L.take i))) ?_; refine xpL (.pointer (some ⟨B1,1,none⟩)) ?_; refine xaL (.int .i64 pr.2) (load1 3 _ ⟨B1,1,none⟩ _ rfl rfl (fun _=>by kernel_rfl) (M.get mS 1 _ rfl)) ?_; refine xpL (.pointer (some ⟨B1,0,none⟩)) ?_
    refine xaL (.int .i64 pr.1) (load1 3 _ ⟨B1,0,none⟩ _ rfl rfl (fun _=>by kernel_rfl) (M.get mS 0 _ rfl)) ?_; refine xaL (.int .i64 (pr.2-pr.1)) (subI .i64 _ _ _ _ _ _ _ rfl rfl rfl (by rw [xw6]; omega) _) ?_; refine readL (.int .i64 (rtot (L.take (i+1)))) rfl (addI .i64 _ _ _ _ _ _ _ rfl rfl rfl (by rw [xw6]; omega) _) ?_; simp only [aP,lI,l0,lS]
    refine xpL (.int .i64 (rtot (L.take (i+1)))) ?_; refine xT ?_; have HS:=show Hid _ from M.below; clear M; go_wp2
    go_roundw
    case rel=>exact ⟨i+1,by omega,rfl,by go_num,HS.out⟩
    case measure=>simp [intOf]; omega
  · have M:=(Mm.init w).call hB
    rw [List.take_of_length_le (show L.length≤i by omega)]
    go_upto_region 3 with fail; refine wp_region_list ?_; refine xaL (.bool false) (lssI .i64 _ _ _ _ _ _ rfl rfl rfl false (decide_eq_false (by omega)) _) ?_; refine xT ?_; go_upto_region 7 with fail; refine wp_region_list ?_; refine xpL (.int .i64 (rtot L)) ?_; refine xpL (.int .i64 (rtot L)) ?_; refine xT ?_; have hbel:=M.below; clear M; go_wp2; go_ret
    exact ⟨rfl,hbel⟩
theorem vc_next (x:Int × Int) (c:Nat) (m:Int) (w:World) (hc0:w.cell? ⟨c,0,none⟩=some (.int .i64 m)) :
 Calls Try.prog 49 #[.agg #[.int .i64 x.1,.int .i64 x.2],.pointer (some ⟨c,0,none⟩)] w fun e w'=>e=.returned (.bool (decide (x.2>m)))∧Below w.heap.size w w':=by
 have M:=Mm.init w
 go_enter Try.func49,Try.ntmps49
 go_upto_region 0 with fail; refine wp_region_list ?_; refine actL (w':=w.alloc (.cells #[.int .i64 x.1,.int .i64 x.2] 49)) (.pointer (some ⟨w.heap.size,0,none⟩)) rfl (by kernel_rfl) ?_; simp only [aP,lI,l0,lS]
 have hB_B1:w.heap.size≤w.heap.size:=M.below.size
 replace M:=M.box #[.int .i64 x.1,.int .i64 x.2] 49 w.heap.size rfl; generalize w.alloc (.cells #[.int .i64 x.1,.int .i64 x.2] 49)=w1 at M  ⊢; generalize eB:w.heap.size=B1 at M hB_B1  ⊢
 have hE_B1:w.heap.size≤B1:=Nat.le_of_eq eB
 have hF_B1:B1≤w.heap.size:=Nat.le_of_eq eB.symm
 clear eB
 replace M:Mm w ((B1,[.int .i64 x.1,.int .i64 x.2])::([]:List (Nat × List Value))) w1:=M
 refine xpL (.bool false) ?_; refine xT ?_; go_upto_region 1 with fail; refine wp_region_list ?_; refine xpL (.pointer (some ⟨B1,1,none⟩)) ?_; refine xaL (.int .i64 x.2) (load1 3 _ ⟨B1,1,none⟩ _ rfl rfl (fun _=>by kernel_rfl) (M.get mS 1 _ rfl)) ?_; refine xaL (.int .i64 m) (load1 3 _ ⟨c,0,none⟩ _ rfl rfl (fun _=>by kernel_rfl) (cellT M.below hc0)) ?_
 refine xaL (.bool (decide (x.2>m))) (gtrI .i64 _ _ _ _ _ _ rfl rfl rfl (decide (x.2>m)) rfl _) ?_; refine xpL (.bool (decide (x.2>m))) ?_; refine xT ?_; have hbel:=M.below; clear M; go_wp2; go_ret
 exact ⟨rfl,hbel⟩
theorem vc_gap (x:Int × Int) (c:Nat) (m:Int) (w:World) (hc0:w.cell? ⟨c,0,none⟩=some (.int .i64 m)) :
 Calls Try.prog 45 #[.agg #[.int .i64 x.1,.int .i64 x.2],.pointer (some ⟨c,0,none⟩)] w fun e w'=>e=.returned (.bool (decide (x.1>m)))∧Below w.heap.size w w':=by
 have M:=Mm.init w
 go_enter Try.func45,Try.ntmps45
 go_upto_region 0 with fail; refine wp_region_list ?_; refine actL (w':=w.alloc (.cells #[.int .i64 x.1,.int .i64 x.2] 49)) (.pointer (some ⟨w.heap.size,0,none⟩)) rfl (by kernel_rfl) ?_; simp only [aP,lI,l0,lS]
 have hB_B1:w.heap.size≤w.heap.size:=M.below.size
 replace M:=M.box #[.int .i64 x.1,.int .i64 x.2] 49 w.heap.size rfl; generalize w.alloc (.cells #[.int .i64 x.1,.int .i64 x.2] 49)=w1 at M  ⊢; generalize eB:w.heap.size=B1 at M hB_B1  ⊢
 have hE_B1:w.heap.size≤B1:=Nat.le_of_eq eB
 have hF_B1:B1≤w.heap.size:=Nat.le_of_eq eB.symm
 clear eB
 replace M:Mm w ((B1,[.int .i64 x.1,.int .i64 x.2])::([]:List (Nat × List Value))) w1:=M
 refine xpL (.bool false) ?_; refine xT ?_; go_upto_region 1 with fail; refine wp_region_list ?_; refine xpL (.pointer (some ⟨B1,0,none⟩)) ?_; refine xaL (.int .i64 x.1) (load1 3 _ ⟨B1,0,none⟩ _ rfl rfl (fun _=>by kernel_rfl) (M.get mS 0 _ rfl)) ?_; refine xpL (.pointer (some ⟨c,0,none⟩)) ?_
 refine xaL (.int .i64 m) (load1 3 _ ⟨c,0,none⟩ _ rfl rfl (fun _=>by kernel_rfl) (cellT M.below hc0)) ?_; refine xaL (.bool (decide (x.1>m))) (gtrI .i64 _ _ _ _ _ _ rfl rfl rfl (decide (x.1>m)) rfl _) ?_; refine xpL (.bool (decide (x.1>m))) ?_; refine xT ?_; have hbel:=M.below; clear M; go_wp2; go_ret
 exact ⟨rfl,hbel⟩
theorem vc_t1 (x:Int × Int) (c:Nat) (m:Int) (w:World) (hc0:w.cell? ⟨c,0,none⟩=some (.int .i64 m)) :
 Calls Try.prog 53 #[.agg #[.int .i64 x.1,.int .i64 x.2],.pointer (some ⟨c,0,none⟩)] w fun e w'=>e=.returned (.bool (decide (x.2≥m)))∧Below w.heap.size w w':=by
 have M:=Mm.init w
 go_enter Try.func53,Try.ntmps53
 go_upto_region 0 with fail; refine wp_region_list ?_; refine actL (w':=w.alloc (.cells #[.int .i64 x.1,.int .i64 x.2] 49)) (.pointer (some ⟨w.heap.size,0,none⟩)) rfl (by kernel_rfl) ?_; simp only [aP,lI,l0,lS]
 have hB_B1:w.heap.size≤w.heap.size:=M.below.size
 replace M:=M.box #[.int .i64 x.1,.int .i64 x.2] 49 w.heap.size rfl; generalize w.alloc (.cells #[.int .i64 x.1,.int .i64 x.2] 49)=w1 at M  ⊢; generalize eB:w.heap.size=B1 at M hB_B1  ⊢
 have hE_B1:w.heap.size≤B1:=Nat.le_of_eq eB
 have hF_B1:B1≤w.heap.size:=Nat.le_of_eq eB.symm
 clear eB
 replace M:Mm w ((B1,[.int .i64 x.1,.int .i64 x.2])::([]:List (Nat × List Value))) w1:=M
 refine xpL (.bool false) ?_; refine xT ?_; go_upto_region 1 with fail; refine wp_region_list ?_; refine xpL (.pointer (some ⟨B1,1,none⟩)) ?_; refine xaL (.int .i64 x.2) (load1 3 _ ⟨B1,1,none⟩ _ rfl rfl (fun _=>by kernel_rfl) (M.get mS 1 _ rfl)) ?_; refine xpL (.pointer (some ⟨c,0,none⟩)) ?_
 refine xaL (.int .i64 m) (load1 3 _ ⟨c,0,none⟩ _ rfl rfl (fun _=>by kernel_rfl) (cellT M.below hc0)) ?_; refine xaL (.bool (decide (x.2≥m))) (geqI .i64 _ _ _ _ _ _ rfl rfl rfl (decide (x.2≥m)) rfl _) ?_; refine xpL (.bool (decide (x.2≥m))) ?_; refine xT ?_; have hbel:=M.below; clear M; go_wp2; go_ret
 exact ⟨rfl,hbel⟩
theorem vc_t2 (x:Int × Int) (c:Nat) (m:Int) (w:World) (hc1:w.cell? ⟨c,1,none⟩=some (.int .i64 m)) :
 Calls Try.prog 54 #[.agg #[.int .i64 x.1,.int .i64 x.2],.pointer (some ⟨c,0,none⟩)] w fun e w'=>e=.returned (.bool (decide (x.1>m)))∧Below w.heap.size w w':=by
 have M:=Mm.init w
 go_enter Try.func54,Try.ntmps54
 go_upto_region 0 with fail; refine wp_region_list ?_; refine actL (w':=w.alloc (.cells #[.int .i64 x.1,.int .i64 x.2] 49)) (.pointer (some ⟨w.heap.size,0,none⟩)) rfl (by kernel_rfl) ?_; simp only [aP,lI,l0,lS]
 have hB_B1:w.heap.size≤w.heap.size:=M.below.size
 replace M:=M.box #[.int .i64 x.1,.int .i64 x.2] 49 w.heap.size rfl; generalize w.alloc (.cells #[.int .i64 x.1,.int .i64 x.2] 49)=w1 at M  ⊢; generalize eB:w.heap.size=B1 at M hB_B1  ⊢
 have hE_B1:w.heap.size≤B1:=Nat.le_of_eq eB
 have hF_B1:B1≤w.heap.size:=Nat.le_of_eq eB.symm
 clear eB
 replace M:Mm w ((B1,[.int .i64 x.1,.int .i64 x.2])::([]:List (Nat × List Value))) w1:=M
 refine xpL (.bool false) ?_; refine xT ?_; go_upto_region 1 with fail; refine wp_region_list ?_; refine xpL (.pointer (some ⟨B1,0,none⟩)) ?_; refine xaL (.int .i64 x.1) (load1 3 _ ⟨B1,0,none⟩ _ rfl rfl (fun _=>by kernel_rfl) (M.get mS 0 _ rfl)) ?_; refine xpL (.pointer (some ⟨c,1,none⟩)) ?_
 refine xaL (.int .i64 m) (load1 3 _ ⟨c,1,none⟩ _ rfl rfl (fun _=>by kernel_rfl) (cellT M.below hc1)) ?_; refine xaL (.bool (decide (x.1>m))) (gtrI .i64 _ _ _ _ _ _ rfl rfl rfl (decide (x.1>m)) rfl _) ?_; refine xpL (.bool (decide (x.1>m))) ?_; refine xT ?_; have hbel:=M.below; clear M; go_wp2; go_ret
 exact ⟨rfl,hbel⟩
structure Clo (K:FuncId) (c:Nat) (q:Int × Int→Bool) (w:World):Prop where
 k:K=49∨K=45∨K=53∨K=54
 says:∀ w',Below w.heap.size w w'→∀ x:Int × Int,Calls Try.prog K #[.agg #[.int .i64 x.1,.int .i64 x.2],.pointer (some ⟨c,0,none⟩)] w' fun e w''=>e=.returned (.bool (q x))∧Below w'.heap.size w' w''
theorem Clo.bel {K:FuncId} {c:Nat} {q:Int × Int→Bool} {w w':World} (h:Clo K c q w) (l:Below w.heap.size w w'):Clo K c q w':=⟨h.k,fun w'' l2=>h.says w'' (l.trans (l2.mono l.size))⟩
theorem vfc_any (K:FuncId) (c c2 c3 R ro:Nat) (q:Int × Int→Bool) (sp:Option Addr) (cap:Nat) (L:Rgs17) (i:Nat) (x:Int × Int) (hx:L[i]?=some x) (w:World) (hK:Clo K c q w) (hc2:w.cell? ⟨c2,0,none⟩=some (.pointer (some ⟨R,ro,none⟩))) (hc3:w.cell? ⟨c3,0,none⟩=some (.func (.func K) #[] #[.pointer (some ⟨c,0,none⟩)])) (hR:w.cell? ⟨R,ro,none⟩=some (.slice sp L.length cap)) (N:NewW w 0 L (.slice sp L.length cap)) :
 Calls Try.prog 52 #[.int .i64 (i:Int),.pointer (some ⟨c3,0,none⟩),.pointer (some ⟨c2,0,none⟩)] w fun e w'=>e=.returned (.bool (q x))∧Below w.heap.size w w':=by
 have hil:i<L.length:=(List.getElem?_eq_some_iff.1 hx).1
 obtain ⟨adr,hadr,_,_⟩:=NewW.at N hx
 subst hadr; have M:=Mm.init w
 go_enter Try.func52,Try.ntmps52
 go_upto_region 0 with fail; refine wp_region_list ?_; refine xpL (.bool false) ?_; refine xT ?_; go_upto_region 1 with fail; refine wp_region_held_drew (S:=fun w'=>Below w.heap.size w w') (by kernel_rfl) M.drew.below ?_; intro _; replace M:=M.drew; have hdr:=(Below.refl w.heap.size w).drew; clear hdr; generalize w.drew=w1 at M  ⊢
 refine xrH 0 5 rfl (.func (.func K) #[] #[.pointer (some ⟨c,0,none⟩)]) (fun _ hS=>load1 66 _ ⟨c3,0,none⟩ _ rfl rfl (fun _=>by kernel_rfl) (cellT hS hc3)) M.below ?_; refine xrH 1 6 rfl (.pointer (some ⟨R,ro,none⟩)) (fun _ hS=>load1 62 _ ⟨c2,0,none⟩ _ rfl rfl (fun _=>by kernel_rfl) (cellT hS hc2)) M.below ?_
 refine xrH 2 7 rfl (.pointer (some ⟨R,ro,none⟩)) (fun _ hS=>(by kernel_rfl)) M.below ?_; refine xrH 3 8 rfl (.pointer (some ⟨R,ro,none⟩)) (fun _ hS=>(by kernel_rfl)) M.below ?_; refine xrH 4 9 rfl (.slice (some adr) L.length cap) (fun _ hS=>load1 29 _ ⟨R,ro,none⟩ _ rfl rfl (fun _=>by kernel_rfl) (cellT hS hR)) M.below ?_
 refine xrH 5 10 rfl (.int .i64 (i:Int)) (fun _ hS=>(by kernel_rfl)) M.below ?_; refine xrH 6 11 rfl (.pointer (some (adr.add (i*2)))) (fun _ hS=>idxR2 adr _ _ i hil _ _ rfl rfl rfl _) M.below ?_
 refine xrH 7 12 rfl (.agg #[.int .i64 x.1,.int .i64 x.2]) (fun _ hS=>loadN 49 _ (adr.add (i*2)) [.int .i64 x.1,.int .i64 x.2] rfl rfl (fun _=>by kernel_rfl) (fun _=>by kernel_rfl) (NewW.rng (NewW.below N hS) hx)) M.below ?_; have key:=hK.says _ M.below x
 refine callH (i:=8) (some 13) rfl (by kernel_rfl) rfl rfl (fun _=>by rcases hK.k with rfl | rfl | rfl | rfl <;> kernel_rfl) key ?_; clear key; rintro e w2 ⟨rfl,l⟩; replace M:=M.call l; clear l
 refine ⟨_,rfl,M.below,?_⟩
 simp only [aP,lI,l0,lS]; refine xrH 9 4 rfl (.bool (q x)) (fun _ hS=>(by kernel_rfl)) M.below ?_
 refine wpAnyH_done (by kernel_rfl) ?_ _
 first | show Exit.then _ _ _ _ _ | show Exit.inBlock _ _ _ _ _
 have hbel:=M.below; clear M; go_wp2; go_ret
 exact ⟨rfl,hbel⟩
theorem at_no {L:Rgs17} {q:Int × Int→Bool} (hq:L.Pairwise fun x y=>q x=true→q y=true) {h:Nat} {x:Int × Int} (hx:L[h]?=some x) (hn:q x=false):∀ y∈L.take (h+1),q y=false:=fun y hy=>by
 rw [take_get hx] at hy
 rcases List.mem_append.1 hy with hy | hy
 · have h1:=hq.sublist (List.take_sublist (h+1) L)
   rw [take_get hx] at h1
   have h2:=(List.pairwise_append.1 h1).2.2 y hy x (List.mem_singleton.2 rfl)
   cases hh:q y with
   | false=>rfl
   | true=>rw [h2 hh] at hn; cases hn
 · obtain rfl:=xm1 hy
   exact hn
theorem at_yes {L:Rgs17} {q:Int × Int→Bool} (hq:L.Pairwise fun x y=>q x=true→q y=true) {h:Nat} {x:Int × Int} (hx:L[h]?=some x) (hy:q x=true):∀ y∈L.drop h,q y=true:=fun y hm=>by
 have h1:=hq.sublist (List.drop_sublist h L)
 rw [drop_get hx] at h1 hm
 rcases xc1 hm with rfl | hm
 · exact hy
 · exact (List.pairwise_cons.1 h1).1 y hm hy
theorem half17 (lo hi:Nat):((lo:Int)+(hi:Int))/2^min (1:Int).toNat IntKind.u64.bits=(((lo+hi)/2:Nat):Int):=by
 have e:min (1:Int).toNat IntKind.u64.bits=1:=by decide
 rw [e]
 omega
theorem vsearch_any (K:FuncId) (c c2 c3 R ro:Nat) (q:Int × Int→Bool) (sp:Option Addr) (cap:Nat) (L:Rgs17) (hln:L.length<1000000) (hq:L.Pairwise fun x y=>q x=true→q y=true) (w:World) (hK:Clo K c q w) (hc2:w.cell? ⟨c2,0,none⟩=some (.pointer (some ⟨R,ro,none⟩))) (hc3:w.cell? ⟨c3,0,none⟩=some (.func (.func K) #[] #[.pointer (some ⟨c,0,none⟩)])) (hR:w.cell? ⟨R,ro,none⟩=some (.slice sp L.length cap)) (N:NewW w 0 L (.slice sp L.length cap)) :
 Calls Try.prog 51 #[.int .i64 (L.length:Int),.func (.func 52) #[] #[.pointer (some ⟨c3,0,none⟩),.pointer (some ⟨c2,0,none⟩)]] w fun e w'=>∃ i:Nat,e=.returned (.int .i64 (i:Int))∧At17 L q i∧Below w.heap.size w w':=by
 have M:=Mm.init w
 go_enter Try.func51,Try.ntmps51
 go_upto_region 0 with fail; refine wp_region_list ?_; refine xpL (.int .i64 0) ?_; refine xT ?_; go_upto_region 1 with fail; refine wp_region_list ?_; refine xpL (.int .i64 ((L.length:Nat):Int)) ?_; refine xpL (.int .i64 0) ?_; refine xpL (.int .i64 ((L.length:Nat):Int)) ?_; refine xT ?_; have HI:=show Hid _ from M.below; clear M; go_wp2
 go_loopw [5,6] (fun a b w'=>∃ (lo hi:Nat),a=.int .i64 (lo:Int)∧b=.int .i64 (hi:Int)∧lo≤hi∧hi≤L.length∧Hid ((∀ x∈L.take lo,q x=false)∧(∀ x∈L.drop hi,q x=true))∧Below w.heap.size w w') (fun a b _=>(intOf b-intOf a).toNat)
 case atStart=>exact ⟨0,L.length,rfl,rfl,Nat.zero_le _,xnR _,(show Hid _ from ⟨fun x hx=>(by cases hx),fun x hx=>(by rw [List.drop_length] at hx; cases hx)⟩),HI.out⟩
 case round =>
  clear HI
  obtain ⟨lo,hi,rfl,rfl,hlh,hhl,HQ,hB⟩:=hrel
  by_cases hil:lo<hi
  · have M:=(Mm.init w).call hB
    have hh1:(lo+hi)/2<L.length:=by omega
    obtain ⟨x,hx⟩:∃ x,L[(lo+hi)/2]?=some x:=⟨_,List.getElem?_eq_getElem hh1⟩
    go_upto_region 2 with fail; refine wp_region_list ?_; refine xpL (.int .i64 (lo:Int)) ?_; refine xpL (.int .i64 (hi:Int)) ?_; refine xaL (.bool true) (lssI .i64 _ _ _ _ _ _ rfl rfl rfl true (decide_eq_true (by omega)) _) ?_; refine xT ?_; go_upto_region 3 with fail; refine wp_region_list ?_; refine xpL (.int .i64 (lo:Int)) ?_; refine xpL (.int .i64 (hi:Int)) ?_
    refine xaL (.int .i64 ((lo:Int)+(hi:Int))) (addI .i64 _ _ _ _ _ _ _ rfl rfl rfl (by rw [xw6]; omega) _) ?_; refine xaL (.int .u64 ((lo:Int)+(hi:Int))) (convI .i64 .u64 _ _ _ _ _ rfl rfl Try.underlying80 (by kernel_rfl) rfl (by rw [IntKind.wrap_u64]; omega) _) ?_
    refine readL (.int .u64 (((lo+hi)/2:Nat):Int)) rfl (shrI .u64 .u64 _ _ _ _ _ _ _ rfl rfl rfl (by decide) (half17 lo hi) _) ?_; simp only [aP,lI,l0,lS]; refine readL (.int .i64 (((lo+hi)/2:Nat):Int)) rfl (convI .u64 .i64 _ _ _ _ _ rfl rfl Try.underlying3 (by kernel_rfl) rfl (by rw [xw6]; omega) _) ?_; simp only [aP,lI,l0,lS]
    refine xpL (.int .i64 (((lo+hi)/2:Nat):Int)) ?_; refine xT ?_
    cases hb:q x with
    | true =>
      go_upto_region 4 with fail; refine wp_region_list ?_; refine xpL (.func (.func 52) #[] #[.pointer (some ⟨c3,0,none⟩),.pointer (some ⟨c2,0,none⟩)]) ?_; refine xpL (.int .i64 (((lo+hi)/2:Nat):Int)) ?_; have key:=vfc_any K c c2 c3 R ro q sp cap L ((lo+hi)/2) x hx _ (hK.bel M.below) (cellT M.below hc2) (cellT M.below hc3) (cellT M.below hR) (NewW.below N M.below)
      rw [hb] at key
      refine xcL key ?_; clear key; rintro e w1 ⟨rfl,l⟩; replace M:=M.call l; clear l; refine xeL ?_; refine xpL (.bool false) ?_; refine xT ?_; have HB:=show Hid _ from hb; clear hb; go_upto_region 6 with fail; refine wp_region_list ?_; refine xpL (.int .i64 (((lo+hi)/2:Nat):Int)) ?_; refine xpL (.int .i64 (((lo+hi)/2:Nat):Int)) ?_; refine xT ?_
      have HS:=show Hid _ from M.below; clear M; go_wp2
      go_roundw
      case rel=>exact ⟨lo,((lo+hi)/2),rfl,rfl,by omega,by omega,(show Hid _ from ⟨HQ.out.1,at_yes hq hx HB.out⟩),HS.out⟩
      case measure=>simp [intOf]; omega
    | false =>
      go_upto_region 4 with fail; refine wp_region_list ?_; refine xpL (.func (.func 52) #[] #[.pointer (some ⟨c3,0,none⟩),.pointer (some ⟨c2,0,none⟩)]) ?_; refine xpL (.int .i64 (((lo+hi)/2:Nat):Int)) ?_; have key:=vfc_any K c c2 c3 R ro q sp cap L ((lo+hi)/2) x hx _ (hK.bel M.below) (cellT M.below hc2) (cellT M.below hc3) (cellT M.below hR) (NewW.below N M.below)
      rw [hb] at key
      refine xcL key ?_; clear key; rintro e w2 ⟨rfl,l⟩; replace M:=M.call l; clear l; refine xeL ?_; refine xpL (.bool true) ?_; refine xT ?_; have HB:=show Hid _ from hb; clear hb; go_upto_region 5 with fail; refine wp_region_list ?_; refine xpL (.int .i64 (((lo+hi)/2:Nat):Int)) ?_
      refine readL (.int .i64 ((((lo+hi)/2:Nat):Int)+1)) rfl (addI .i64 _ _ _ _ _ _ _ rfl rfl rfl (by rw [xw6]; omega) _) ?_; simp only [aP,lI,l0,lS]; refine xpL (.int .i64 ((((lo+hi)/2:Nat):Int)+1)) ?_; refine xT ?_; have HS:=show Hid _ from M.below; clear M; go_wp2
      go_roundw
      case rel=>exact ⟨((lo+hi)/2+1),hi,by go_num,rfl,by omega,by omega,(show Hid _ from ⟨at_no hq hx HB.out,HQ.out.2⟩),HS.out⟩
      case measure=>simp [intOf]; omega
  · have M:=(Mm.init w).call hB
    obtain rfl:hi=lo:=by omega
    go_upto_region 2 with fail; refine wp_region_list ?_; refine xpL (.int .i64 (hi:Int)) ?_; refine xpL (.int .i64 (hi:Int)) ?_; refine xaL (.bool false) (lssI .i64 _ _ _ _ _ _ rfl rfl rfl false (decide_eq_false (by omega)) _) ?_; refine xT ?_; go_upto_region 7 with fail; refine wp_region_list ?_; refine xpL (.int .i64 (hi:Int)) ?_; refine xpL (.int .i64 (hi:Int)) ?_; refine xT ?_
    have HB:=show Hid _ from (And.intro (show At17 L q hi from ⟨hhl,HQ.out.1,HQ.out.2⟩) M.below); clear M; go_wp2; go_ret
    first | exact ⟨hi,rfl,HB.out⟩ | exact ⟨rfl,HB.out⟩
theorem vfirst_any (K:FuncId) (c R ro:Nat) (q:Int × Int→Bool) (sp:Option Addr) (cap:Nat) (L:Rgs17) (hln:L.length<1000000) (hq:L.Pairwise fun x y=>q x=true→q y=true) (w:World) (hK:Clo K c q w) (hR:w.cell? ⟨R,ro,none⟩=some (.slice sp L.length cap)) (N:NewW w 0 L (.slice sp L.length cap)) :
 Calls Try.prog 44 #[.pointer (some ⟨R,ro,none⟩),.func (.func K) #[] #[.pointer (some ⟨c,0,none⟩)]] w fun e w'=>∃ i:Nat,e=.returned (.int .i64 (i:Int))∧At17 L q i∧Below w.heap.size w w':=by
 have M:=Mm.init w
 go_enter Try.func44,Try.ntmps44
 go_upto_region 0 with fail; refine wp_region_list ?_; refine actL (w':=w.alloc (.cells #[.pointer (some ⟨R,ro,none⟩)] 62)) (.pointer (some ⟨w.heap.size,0,none⟩)) rfl (by kernel_rfl) ?_; simp only [aP,lI,l0,lS]
 have hB_B1:w.heap.size≤w.heap.size:=M.below.size
 replace M:=M.box #[.pointer (some ⟨R,ro,none⟩)] 62 w.heap.size rfl; generalize w.alloc (.cells #[.pointer (some ⟨R,ro,none⟩)] 62)=w1 at M  ⊢; generalize eB:w.heap.size=B1 at M hB_B1  ⊢
 have hE_B1:w.heap.size≤B1:=Nat.le_of_eq eB
 have hF_B1:B1≤w.heap.size:=Nat.le_of_eq eB.symm
 clear eB
 replace M:Mm w ((B1,[.pointer (some ⟨R,ro,none⟩)])::([]:List (Nat × List Value))) w1:=M
 refine actL (w':=w1.alloc (.cells #[.func (.func K) #[] #[.pointer (some ⟨c,0,none⟩)]] 66)) (.pointer (some ⟨w1.heap.size,0,none⟩)) rfl (by kernel_rfl) ?_; simp only [aP,lI,l0,lS]
 have hB_B2:w.heap.size≤w1.heap.size:=M.below.size
 replace M:=M.box #[.func (.func K) #[] #[.pointer (some ⟨c,0,none⟩)]] 66 w1.heap.size rfl; generalize w1.alloc (.cells #[.func (.func K) #[] #[.pointer (some ⟨c,0,none⟩)]] 66)=w2 at M  ⊢; generalize eB:w1.heap.size=B2 at M hB_B2  ⊢
 have hE_B2:w1.heap.size≤B2:=Nat.le_of_eq eB
 have hF_B2:B2≤w1.heap.size:=Nat.le_of_eq eB.symm
 clear eB
 replace M:Mm w ((B2,[.func (.func K) #[] #[.pointer (some ⟨c,0,none⟩)]])::(B1,[.pointer (some ⟨R,ro,none⟩)])::([]:List (Nat × List Value))) w2:=M
 refine xpL (.int .i64 0) ?_; refine xT ?_; go_upto_region 1 with fail; refine wp_region_list ?_; refine xaL (.pointer (some ⟨R,ro,none⟩)) (load1 62 _ ⟨B1,0,none⟩ _ rfl rfl (fun _=>by kernel_rfl) (M.get (mT _ mS) 0 _ rfl)) ?_; refine xpL (.pointer (some ⟨R,ro,none⟩)) ?_; refine xpL (.pointer (some ⟨R,ro,none⟩)) ?_
 refine xaL (.slice sp L.length cap) (load1 29 _ ⟨R,ro,none⟩ _ rfl rfl (fun _=>by kernel_rfl) (cellT M.below hR)) ?_; refine xaL (.int .i64 ((L.length:Nat):Int)) (lenS _ 29 49 sp L.length cap rfl Try.underlying29 rfl _) ?_; refine xpL (.func (.func 52) #[] #[.pointer (some ⟨B2,0,none⟩),.pointer (some ⟨B1,0,none⟩)]) ?_
 have key:=vsearch_any K c B1 B2 R ro q sp cap L hln hq _ (hK.bel M.below) (M.get (mT _ mS) 0 _ rfl) (M.get mS 0 _ rfl) (cellT M.below hR) (NewW.below N M.below); refine xcL key ?_; clear key; rintro e w3 ⟨ix,rfl,hA,l⟩; replace M:=M.call l; clear l; refine xeL ?_; refine xpL (.int .i64 (ix:Int)) ?_; refine xT ?_; have HB:=show Hid _ from (And.intro hA M.below); clear M hA; go_wp2
 go_ret
 first | exact ⟨ix,rfl,HB.out⟩ | exact ⟨rfl,HB.out⟩
theorem Can.mono {L:Rgs17} (h:Can L) {q:Int × Int→Bool} (hq:∀ x y:Int × Int,x.1<x.2→x.2<y.1→y.1<y.2→q x=true→q y=true):L.Pairwise fun x y=>q x=true→q y=true:=by
 refine (h.up.imp_of_mem ?_)
 intro x y hx hy hxy
 exact hq x y (h.row x hx).2.1 hxy (h.row y hy).2.1
theorem vtouch_any (R ro:Nat) (sp:Option Addr) (cap:Nat) (L:Rgs17) (hc:Can L) (hln:L.length<1000000) (f t:Int) (w:World) (hR:w.cell? ⟨R,ro,none⟩=some (.slice sp L.length cap)) (N:NewW w 0 L (.slice sp L.length cap)) :
 Calls Try.prog 46 #[.pointer (some ⟨R,ro,none⟩),.agg #[.int .i64 f,.int .i64 t]] w fun e w'=>∃ i j:Nat,e=.returned (.tuple #[.int .i64 (i:Int),.int .i64 (j:Int)])∧Tch L f t i j∧Below w.heap.size w w':=by
 have M:=Mm.init w
 go_enter Try.func46,Try.ntmps46
 go_upto_region 0 with fail; refine wp_region_list ?_; refine actL (w':=w.alloc (.cells #[.int .i64 f,.int .i64 t] 49)) (.pointer (some ⟨w.heap.size,0,none⟩)) rfl (by kernel_rfl) ?_; simp only [aP,lI,l0,lS]
 have hB_B1:w.heap.size≤w.heap.size:=M.below.size
 replace M:=M.box #[.int .i64 f,.int .i64 t] 49 w.heap.size rfl; generalize w.alloc (.cells #[.int .i64 f,.int .i64 t] 49)=w1 at M  ⊢; generalize eB:w.heap.size=B1 at M hB_B1  ⊢
 have hE_B1:w.heap.size≤B1:=Nat.le_of_eq eB
 have hF_B1:B1≤w.heap.size:=Nat.le_of_eq eB.symm
 clear eB
 replace M:Mm w ((B1,[.int .i64 f,.int .i64 t])::([]:List (Nat × List Value))) w1:=M
 refine xpL (.int .i64 0) ?_; refine xpL (.int .i64 0) ?_; refine xT ?_; go_upto_region 1 with fail; refine wp_region_list ?_; refine xpL (.pointer (some ⟨R,ro,none⟩)) ?_; refine xpL (.func (.func 53) #[] #[.pointer (some ⟨B1,0,none⟩)]) ?_
 have key:=vfirst_any 53 B1 R ro (fun x=>decide (x.2≥f)) sp cap L hln (hc.mono fun x y _ _ _ h=>by simp only [decide_eq_true_eq] at h ⊢; omega) _ ⟨by simp,fun w' l x=>vc_t1 x B1 _ w' (cellT l (M.get mS 0 _ rfl))⟩ (cellT M.below hR) (NewW.below N M.below); refine xcL key ?_; clear key; rintro e w2 ⟨i,rfl,hA,l⟩; replace M:=M.call l; clear l; refine xeL ?_
 refine xpL (.int .i64 (i:Int)) ?_; refine xT ?_; go_upto_region 2 with fail; refine wp_region_list ?_; refine xpL (.pointer (some ⟨R,ro,none⟩)) ?_; refine xpL (.func (.func 54) #[] #[.pointer (some ⟨B1,0,none⟩)]) ?_
 have key:=vfirst_any 54 B1 R ro (fun x=>decide (x.1>t)) sp cap L hln (hc.mono fun x y _ _ _ h=>by simp only [decide_eq_true_eq] at h ⊢; omega) _ ⟨by simp,fun w' l x=>vc_t2 x B1 _ w' (cellT l (M.get mS 1 _ rfl))⟩ (cellT M.below hR) (NewW.below N M.below); refine xcL key ?_; clear key; rintro e w3 ⟨j,rfl,hA2,l⟩; replace M:=M.call l; clear l; refine xeL ?_
 refine xpL (.int .i64 (j:Int)) ?_; refine xT ?_; go_upto_region 3 with fail; refine wp_region_list ?_; refine xpL (.int .i64 (i:Int)) ?_; refine xpL (.int .i64 (j:Int)) ?_; refine xpL (.int .i64 (i:Int)) ?_; refine xpL (.int .i64 (j:Int)) ?_; refine xT ?_; have HB:=show Hid _ from (And.intro (Tch.mk hA hA2) M.below); clear M hA hA2; go_wp2; go_ret2
 first | exact ⟨i,j,rfl,HB.out⟩ | exact ⟨rfl,HB.out⟩
section
section
variable {P:Program} {o:Oper} {a:Act}
theorem copyOp17 {w w':World} (s x:Operand) (t u:TypeId) (v y r:Value) (ho:o.op=.call { callee:=.builtin .copy,args:=#[s,x],argTypes:=#[t,u] }) (hs:a.eval s=v) (hx:a.eval x=y) {ty:TypeId} (hr:(Builtin.copy_ #[t,u] ty #[v,y]).run P w=.ok r w') :
 (execOp a.eval o).run P w=.ok (.value r) w':=by
 have hr':(Builtin.copy_ #[t,u] o.type #[v,y]).run P w=.ok r w':=hr
 unfold execOp
 simp only [ho,resolve,invoke,builtin,Sem.run_bind,Sem.run_pure,Result.andThen_ok,List.map_toArray,List.map_cons,List.map_nil,hs,hx,hr']
theorem clearOp17 {w w':World} (s:Operand) (t:TypeId) (v r:Value) (ho:o.op=.call { callee:=.builtin .clear,args:=#[s],argTypes:=#[t] }) (hs:a.eval s=v) {ty:TypeId} (hr:(Builtin.clear_ #[t] ty #[v]).run P w=.ok r w') :
 (execOp a.eval o).run P w=.ok (.value r) w':=by
 have hr':(Builtin.clear_ #[t] o.type #[v]).run P w=.ok r w':=hr
 unfold execOp
 simp only [ho,resolve,invoke,builtin,Sem.run_bind,Sem.run_pure,Result.andThen_ok,List.map_toArray,List.map_cons,List.map_nil,hs,hr']
theorem appN17 {w w':World} (s x:Operand) (t u:TypeId) (v y r:Value) (ho:o.op=.call { callee:=.builtin .append,args:=#[s,x],argTypes:=#[t,u] }) (hs:a.eval s=v) (hx:a.eval x=y) {ty:TypeId} (hr:(Builtin.append_ #[t,u] ty #[v,y]).run P w=.ok r w') :
 (execOp a.eval o).run P w=.ok (.value r) w':=by
 have hr':(Builtin.append_ #[t,u] o.type #[v,y]).run P w=.ok r w':=hr
 unfold execOp
 simp only [ho,resolve,invoke,builtin,Sem.run_bind,Sem.run_pure,Result.andThen_ok,List.map_toArray,List.map_cons,List.map_nil,hs,hx,hr']
theorem capS17 (x:Operand) (t e:TypeId) (sp:Option Addr) (n c:Nat) (ho:o.op=.call { callee:=.builtin .cap,args:=#[x],argTypes:=#[t] }) (ht:P.underlying t=some (.slice e)) (hx:a.eval x=.slice sp n c) (w:World):(execOp a.eval o).run P w=.ok (.value (.int .i64 (c:Int))) w:=by
 simp [execOp,ho,resolve,invoke,builtin,hx,Builtin.cap_,run_underlying ht,goInt]
theorem sl_h0 {t:TypeId} (ht:P.underlying t=some (.slice (P.elem t))) (hsz:∀ w,(sizeOf (P.elem t)).run P w=.ok 2 w) (g n cap h:Nat) (hh:h≤cap) (w:World):(Instr.sliceAt t (.slice (some ⟨g,0,none⟩) n cap) none (some (.int .i64 (h:Int))) none).run P w=.ok (.slice (some ⟨g,0,none⟩) h cap) w:=by
 rw [sl_h ht hsz (some ⟨g,0,none⟩) n cap h hh w,slp_0]
end
theorem callX17 {o:Oper} {a:Act} {w:World} (f:FuncId) (x y:Operand) (p q r:Value) (ts:Array TypeId) (ho:o.op=.call { callee:=.value (.func f),args:=#[x,y],argTypes:=ts }) (hx:a.eval x=p) (hy:a.eval y=q) (hf:f=60:=by rfl) (hr:(Extern.SlicesOverlaps.overlaps #[29,29] #[4] #[p,q]).run Try.prog w=.ok r w) :
 (execOp a.eval o).run Try.prog w=.ok (.value r) w:=by
 subst hf
 have hc:(callFunc 60 #[p,q]).run Try.prog w=.ok (.value r) w:=by
  rw [run_callFunc_extern Try.func60 (by kernel_rfl) (by kernel_rfl) (by kernel_rfl) (e:=Extern.SlicesOverlaps.overlaps #[29,29] #[4]) (by kernel_rfl),hr]
  rfl
 have he:a.eval (.func 60)=.func (.func 60) #[] #[]:=rfl
 unfold execOp
 simp only [ho,resolve,invoke,Deferred.ofValue,Sem.run_bind,Sem.run_pure,Result.andThen_ok,List.map_toArray,List.map_cons,List.map_nil,hx,hy,he]
 exact hc
def Rep17 (w:World) (sp:Option Addr) (R:Rgs17) (e:Ending) (w':World):Prop:=∃ sq cq,e=.returned (.slice sq R.length cq)∧w'.ownsRow 0 49 2 (.slice sq R.length cq) R.length (wrc R)∧w.grownBy w' (sp.map (·.block))∧∀ b∈ob sq,b∈ob sp∨w.heap.size≤b
theorem Rep17.of {w w':World} {sp:Option Addr} {g cap:Nat} {cs:List Value} {R:Rgs17} (h:Blk w' 49 g cap cs) (hp:wrc R <+: cs) {k:Nat} (hk:k=R.length) (hc:R.length≤cap) (hg:w.grownBy w' (some g)) (hs:sp=some ⟨g,0,none⟩:=by rfl):Rep17 w sp R (.returned (.slice (some ⟨g,0,none⟩) k cap)) w':=by
 subst hk hs
 exact ⟨_,_,rfl,h.owns hp (wrc_len R) hc,hg,fun b hb=>.inl hb⟩
theorem Rep17.new {w w':World} {sp:Option Addr} {g g2 cap:Nat} {cs:List Value} {R:Rgs17} (h:Blk w' 49 g2 cap cs) (hp:wrc R <+: cs) {k:Nat} (hk:k=R.length) (hc:R.length≤cap) (hg:w.grownBy w' (some g)) (h2:w.heap.size≤g2) (hs:sp=some ⟨g,0,none⟩:=by rfl):Rep17 w sp R (.returned (.slice (some ⟨g2,0,none⟩) k cap)) w':=by
 subst hk hs
 exact ⟨_,_,rfl,h.owns hp (wrc_len R) hc,hg,fun b hb=>.inr (by obtain rfl:=xm1 hb; exact h2)⟩
theorem wrc_cell {w:World} {e:TypeId} {g cap:Nat} {cs:List Value} (h:Blk w e g cap cs) {vs:List Value} {o:Nat} (hv:∀ j u,vs[j]?=some u→cs[o+j]?=some u):∀ j u,vs[j]?=some u→w.cell? ((⟨g,o,none⟩:Addr).add j)=some u:=fun j u hu=>by
 rw [Addr.add_mid]
 exact h.cell (hv j u hu)
theorem get_left {a b:List Value} {k:Nat} {u:Value} (h:a[k]?=some u):(a++b)[k]?=some u:=by
 rw [List.getElem?_append_left (List.getElem?_eq_some_iff.1 h).1]
 exact h
theorem dp_read {L:Rgs17} {j:Nat} {ys:List Value} (hj:j≤L.length):∀ k u,(wrc (L.drop j))[k]?=some u→(wrc L++ys)[j*2+k]?=some u:=fun k u hu=>by
 rw [dp_get hj,Nat.add_comm] at hu
 exact get_left hu
theorem vins_end (w:World) (L V:Rgs17) (sp:Option Addr) (cap vb vc:Nat) (hln:L.length<1000000) (hv:V.length≤2) (hv0:0<V.length) (O_:w.ownsRow 0 49 2 (.slice sp L.length cap) L.length (wrc L)) (V_:w.ownsRow 0 49 2 (.slice (some ⟨vb,0,none⟩) V.length vc) V.length (wrc V)) :
 Calls Try.prog 59 #[.slice sp L.length cap,.int .i64 ((L.length:Nat):Int),.slice (some ⟨vb,0,none⟩) V.length vc] w fun e w'=>Rep17 w sp (L.take L.length++(V++L.drop L.length)) e w':=by
 go_enter Try.func59,Try.ntmps59
 go_upto_region 0 with fail; refine wp_region_list ?_; refine xpL (.slice none 0 0) ?_; refine xT ?_; go_upto_region 1 with fail; refine wp_region_list ?_; refine xpL (.slice sp L.length cap) ?_; refine xpL (.int .i64 ((L.length:Nat):Int)) ?_
 refine xaL (.slice (slp sp cap L.length) (L.length-L.length) (cap-L.length)) (cutOp _ _ _ _ _ _ rfl rfl rfl (sl_l (P:=Try.prog) (t:=29) (by kernel_rfl) (fun _=>by kernel_rfl) sp L.length cap L.length (by omega) _)) ?_; refine xT ?_; go_upto_region 2 with fail; refine wp_region_list ?_; refine xpL (.slice (some ⟨vb,0,none⟩) V.length vc) ?_
 refine xaL (.int .i64 ((V.length:Nat):Int)) (lenS _ 29 49 (some ⟨vb,0,none⟩) V.length vc rfl Try.underlying29 rfl _) ?_; refine xpL (.int .i64 ((V.length:Nat):Int)) ?_; refine xT ?_; go_upto_region 3 with fail; refine wp_region_list ?_; refine xpL (.int .i64 ((V.length:Nat):Int)) ?_
 refine xaL (.bool false) (eqlI .i64 _ _ _ _ _ _ rfl rfl rfl false (by rw [beq_eq_false_iff_ne]; omega) _) ?_; refine xT ?_; go_upto_region 5 with fail; refine wp_region_list ?_; refine xpL (.slice sp L.length cap) ?_; refine xaL (.int .i64 ((L.length:Nat):Int)) (lenS _ 29 49 sp L.length cap rfl Try.underlying29 rfl _) ?_; refine xpL (.int .i64 ((L.length:Nat):Int)) ?_; refine xT ?_
 go_upto_region 6 with fail; refine wp_region_list ?_; refine xpL (.int .i64 ((L.length:Nat):Int)) ?_; refine xpL (.int .i64 ((L.length:Nat):Int)) ?_; refine xaL (.bool true) (eqlI .i64 _ _ _ _ _ _ rfl rfl rfl true (beq_self_eq_true _) _) ?_; refine xT ?_; go_upto_region 7 with fail; refine wp_region_list ?_; refine xpL (.slice sp L.length cap) ?_
 refine xpL (.slice (some ⟨vb,0,none⟩) V.length vc) ?_
 obtain ⟨v2,w2,hr,V2,hgr,hg2⟩:=run_append_OwnV (P:=Try.prog) (ty:=29) Try.underlying29 manyW rfl (by decide) O_ ⟨vb,0,none⟩ V.length vc (wrc V) (wrc_len V) (World.ownsRow.cells V_ (g:=vb) rfl) (wrc_one V) (by unfold maxLen; omega) (by omega) (Nat.zero_le _)
 obtain ⟨sv,cv,rfl,_,_⟩:=row_form16 V2
 refine xaL _ (appendOp _ _ 29 _ _ _ rfl rfl rfl hr) ?_; clear hr; refine xpL (.slice sv (L.length+V.length) cv) ?_; refine xT ?_
 have HS:Hid (Rep17 w sp (L.take L.length++(V++L.drop L.length)) (.returned (.slice sv (L.length+V.length) cv)) w2):=by
  rw [List.take_length,List.drop_length,List.append_nil]
  refine show Hid _ from ⟨sv,cv,by rw [List.length_append],?_,?_,fun b hb=>?_⟩
  · rw [wrc_app,List.length_append]
    exact V2
  · cases sp <;> exact hgr
  · rcases hg2 b ((ob_own sv _ cv b).2 hb) with h | h
    · exact .inl ((ob_own sp _ cap b).1 h)
    · exact .inr (Nat.le_of_eq h.symm)
 clear V2 hgr hg2; go_wp2; go_ret
 exact HS.out
theorem vins_mid (w:World) (L V:Rgs17) (i g cap vb vc:Nat) (ys vs:List Value) (hi:i<L.length) (hln:L.length<1000000) (hv:V.length≤2) (hv0:0<V.length) (B_:Blk w 49 g cap (wrc L++ys)) (V_:Blk w 49 vb vc (wrc V++vs)) (hne:vb≠g) (hcap:L.length≤cap) :
 Calls Try.prog 59 #[.slice (some ⟨g,0,none⟩) L.length cap,.int .i64 ((i:Nat):Int),.slice (some ⟨vb,0,none⟩) V.length vc] w fun e w'=>Rep17 w (some ⟨g,0,none⟩) (L.take i++(V++L.drop i)) e w':=by
 have hbl:=B_.len; have hvl:=wrc_len V; have hll:=wrc_len L; have GR:=grown_refl' w (some g)
 go_enter Try.func59,Try.ntmps59
 go_upto_region 0 with fail; refine wp_region_list ?_; refine xpL (.slice none 0 0) ?_; refine xT ?_; go_upto_region 1 with fail; refine wp_region_list ?_; refine xpL (.slice (some ⟨g,0,none⟩) L.length cap) ?_; refine xpL (.int .i64 ((i:Nat):Int)) ?_
 refine xaL (.slice (slp (some ⟨g,0,none⟩) cap i) (L.length-i) (cap-i)) (cutOp _ _ _ _ _ _ rfl rfl rfl (sl_l (P:=Try.prog) (t:=29) (by kernel_rfl) (fun _=>by kernel_rfl) (some ⟨g,0,none⟩) L.length cap i (by omega) _)) ?_; refine xT ?_; go_upto_region 2 with fail; refine wp_region_list ?_; refine xpL (.slice (some ⟨vb,0,none⟩) V.length vc) ?_
 refine xaL (.int .i64 ((V.length:Nat):Int)) (lenS _ 29 49 (some ⟨vb,0,none⟩) V.length vc rfl Try.underlying29 rfl _) ?_; refine xpL (.int .i64 ((V.length:Nat):Int)) ?_; refine xT ?_; go_upto_region 3 with fail; refine wp_region_list ?_; refine xpL (.int .i64 ((V.length:Nat):Int)) ?_
 refine xaL (.bool false) (eqlI .i64 _ _ _ _ _ _ rfl rfl rfl false (by rw [beq_eq_false_iff_ne]; omega) _) ?_; refine xT ?_; go_upto_region 5 with fail; refine wp_region_list ?_; refine xpL (.slice (some ⟨g,0,none⟩) L.length cap) ?_; refine xaL (.int .i64 ((L.length:Nat):Int)) (lenS _ 29 49 (some ⟨g,0,none⟩) L.length cap rfl Try.underlying29 rfl _) ?_
 refine xpL (.int .i64 ((L.length:Nat):Int)) ?_; refine xT ?_; go_upto_region 6 with fail; refine wp_region_list ?_; refine xpL (.int .i64 ((i:Nat):Int)) ?_; refine xpL (.int .i64 ((L.length:Nat):Int)) ?_; refine xaL (.bool false) (eqlI .i64 _ _ _ _ _ _ rfl rfl rfl false (by rw [beq_eq_false_iff_ne]; omega) _) ?_; refine xT ?_
 by_cases hrm:cap<L.length+V.length
 · go_upto_region 8 with fail
   refine wp_region_list ?_; refine xpL (.int .i64 ((L.length:Nat):Int)) ?_; refine xpL (.int .i64 ((V.length:Nat):Int)) ?_; refine xaL (.int .i64 ((L.length+V.length:Nat):Int)) (addI .i64 _ _ _ _ _ _ _ rfl rfl rfl (by rw [xw6]; omega) _) ?_; refine xpL (.slice (some ⟨g,0,none⟩) L.length cap) ?_
   refine xaL (.int .i64 ((cap:Nat):Int)) (capS17 _ 29 49 (some ⟨g,0,none⟩) L.length cap rfl Try.underlying29 rfl _) ?_; refine xaL (.bool true) (gtrI .i64 _ _ _ _ _ _ rfl rfl rfl true (decide_eq_true (by omega)) _) ?_; refine xT ?_; go_upto_region 9 with fail; refine wp_region_list ?_; refine xpL (.slice (some ⟨g,0,none⟩) L.length cap) ?_; refine xpL (.int .i64 ((i:Nat):Int)) ?_
   refine xaL (.slice (some ⟨g,0,none⟩) i cap) (cutHi _ _ _ _ _ _ rfl rfl rfl (sl_h0 (P:=Try.prog) (t:=29) (by kernel_rfl) (fun _=>by kernel_rfl) g L.length cap i (by omega) _)) ?_; refine xpL (.int .i64 ((L.length:Nat):Int)) ?_; refine xpL (.int .i64 ((V.length:Nat):Int)) ?_
   refine xaL (.int .i64 ((L.length+V.length:Nat):Int)) (addI .i64 _ _ _ _ _ _ _ rfl rfl rfl (by rw [xw6]; omega) _) ?_; refine xpL (.int .i64 ((i:Nat):Int)) ?_; refine xaL (.int .i64 ((L.length+V.length-i:Nat):Int)) (subI .i64 _ _ _ _ _ _ _ rfl rfl rfl (by rw [xw6]; omega) _) ?_
   have hti:(wrc (L.take i)).length=i*2:=by rw [wrc_len,List.length_take]; omega
   have hsplit:wrc L++ys=wrc (L.take i)++(wrc (L.drop i)++ys):=by rw [← List.append_assoc,← wrc_app,List.take_append_drop]
   have hz:=B_
   rw [hsplit] at hz
   obtain ⟨c2,zs,hrn,hc2,D_⟩:=hz.noughts (P:=Try.prog) (t:=29) (u:=3) (ty:=0) Try.underlying29 Try.underlying3 manyW i ((L.length+V.length)-i) hti (by omega) (by omega) (by omega)
   clear hz hsplit; refine xaL _ (appN17 _ _ 29 3 _ _ _ rfl rfl rfl hrn) ?_
   have hg2:w.heap.size≤w.heap.size:=GR.size
   have hgl:=B_.lt; have hvl2:=V_.lt; replace B_:=B_.keep (w':=w.drew.alloc (.cells (wrc (L.take i)++zs).toArray 49)) (heap_alloc_old w.drew _ hgl); replace V_:=V_.keep (w':=w.drew.alloc (.cells (wrc (L.take i)++zs).toArray 49)) (heap_alloc_old w.drew _ hvl2); replace GR:=grown_alloc (grown_trans GR (grown_drew' _ _)) (.cells (wrc (L.take i)++zs).toArray 49); clear hrn
   generalize w.drew.alloc (.cells (wrc (L.take i)++zs).toArray 49)=w1 at B_ V_ D_ GR ⊢
   obtain ⟨g2,hge⟩:∃ g2,g2=w.heap.size:=⟨_,rfl⟩
   rw [← hge] at D_ ⊢
   replace hg2:w.heap.size≤g2:=by omega
   replace hgl:g<g2:=by omega
   replace hvl2:vb<g2:=by omega
   clear hge; have hdl:=D_.len
   rw [show i+((L.length+V.length)-i)=(L.length+V.length) by omega] at hc2 ⊢
   refine xpL (.slice (some ⟨g2,0,none⟩) (L.length+V.length) c2) ?_; refine xT ?_; go_upto_region 10 with fail; refine wp_region_list ?_; refine xpL (.slice (some ⟨g2,0,none⟩) (L.length+V.length) c2) ?_; refine xpL (.int .i64 ((i:Nat):Int)) ?_
   refine readL (.slice (slp (some ⟨g2,0,none⟩) c2 i) (((L.length+V.length))-i) (c2-i)) rfl (cutOp _ _ _ _ _ _ rfl rfl rfl (sl_l (P:=Try.prog) (t:=29) (by kernel_rfl) (fun _=>by kernel_rfl) (some ⟨g2,0,none⟩) (L.length+V.length) c2 i (by omega) _)) ?_; simp only [aP,lI,l0,lS]; refine xpL (.slice (some ⟨vb,0,none⟩) V.length vc) ?_
   have hlp:i*2+(wrc V).length≤(wrc (L.take i)++zs).length:=by rw [wrc_len]; omega
   have hrn:=D_.copies (P:=Try.prog) (dT:=29) (sT:=29) (ty:=3) Try.underlying29 (fun _=>by kernel_rfl) (slp (some ⟨g2,0,none⟩) c2 i) (some ⟨vb,0,none⟩) (((L.length+V.length))-i) (c2-i) V.length vc V.length (i*2) (by simp only [Nat.min_def]; split <;> omega) (wrc V) (wrc_len _) (fun _=>slp_g (by omega)) (fun _=>⟨_,rfl,wrc_cell V_ fun j_ u_ hu_=>by rw [Nat.zero_add]; exact get_left hu_⟩) hlp (wrc_one _)
   refine xaL _ (copyOp17 _ _ 29 29 _ _ _ rfl rfl rfl hrn) ?_; clear hrn; replace B_:=B_.apart (g:=g2) (by omega) (ov (wrc (L.take i)++zs) (i*2) (wrc V)).toArray; replace V_:=V_.apart (g:=g2) (by omega) (ov (wrc (L.take i)++zs) (i*2) (wrc V)).toArray; replace D_:=D_.put hlp; replace GR:=grown_new GR hg2 (ov (wrc (L.take i)++zs) (i*2) (wrc V)).toArray
   generalize w1.setRow g2 (ov (wrc (L.take i)++zs) (i*2) (wrc V)).toArray=w2 at B_ V_ D_ GR ⊢; clear hlp; refine xT ?_; go_upto_region 11 with fail; refine wp_region_held_drew (S:=fun _=>True) (by kernel_rfl) trivial ?_; intro _; replace B_:=B_.drew; replace V_:=V_.drew; replace D_:=D_.drew; replace GR:=grown_trans GR (grown_drew' _ _); generalize w2.drew=w3 at B_ V_ D_ GR ⊢
   refine xrH 0 46 rfl (.slice (some ⟨g2,0,none⟩) (L.length+V.length) c2) (fun _ _=>(by kernel_rfl)) trivial ?_; refine xrH 1 47 rfl (.int .i64 ((i:Nat):Int)) (fun _ _=>(by kernel_rfl)) trivial ?_; refine xrH 2 48 rfl (.int .i64 ((V.length:Nat):Int)) (fun _ _=>(by kernel_rfl)) trivial ?_
   refine xrH 3 49 rfl (.int .i64 ((i+V.length:Nat):Int)) (fun _ _=>addI .i64 _ _ _ _ _ _ _ rfl rfl rfl (by rw [xw6]; omega) _) trivial ?_
   refine xrH 4 50 rfl (.slice (slp (some ⟨g2,0,none⟩) c2 (i+V.length)) (((L.length+V.length))-(i+V.length)) (c2-(i+V.length))) (fun _ _=>cutOp _ _ _ _ _ _ rfl rfl rfl (sl_l (P:=Try.prog) (t:=29) (by kernel_rfl) (fun _=>by kernel_rfl) (some ⟨g2,0,none⟩) (L.length+V.length) c2 (i+V.length) (by omega) _)) trivial ?_
   refine xrH 5 51 rfl (.slice (some ⟨g,0,none⟩) L.length cap) (fun _ _=>(by kernel_rfl)) trivial ?_; refine xrH 6 52 rfl (.int .i64 ((i:Nat):Int)) (fun _ _=>(by kernel_rfl)) trivial ?_
   refine xrH 7 53 rfl (.slice (slp (some ⟨g,0,none⟩) cap i) (L.length-i) (cap-i)) (fun _ _=>cutOp _ _ _ _ _ _ rfl rfl rfl (sl_l (P:=Try.prog) (t:=29) (by kernel_rfl) (fun _=>by kernel_rfl) (some ⟨g,0,none⟩) L.length cap i (by omega) _)) trivial ?_
   have hlp:(i+V.length)*2+(wrc (L.drop i)).length≤(ov (wrc (L.take i)++zs) (i*2) (wrc V)).length:=by rw [dp_len (by omega)]; rw [ov_len (by rw [hvl]; omega)]; omega
   have hrn:=D_.copies (P:=Try.prog) (dT:=29) (sT:=29) (ty:=3) Try.underlying29 (fun _=>by kernel_rfl) (slp (some ⟨g2,0,none⟩) c2 (i+V.length)) (slp (some ⟨g,0,none⟩) cap i) (((L.length+V.length))-(i+V.length)) (c2-(i+V.length)) (L.length-i) (cap-i) (L.length-i) ((i+V.length)*2) (by simp only [Nat.min_def]; split <;> omega) (wrc (L.drop i)) (dp_len (by omega)) (fun _=>slp_g (by omega)) (fun h0_=>⟨_,slp_g (by omega),wrc_cell B_ (dp_read (by omega))⟩) hlp (wrc_one _)
   refine onlyH (i:=8) (some 54) rfl _ (by kernel_rfl) rfl rfl (copyOp17 _ _ 29 29 _ _ _ rfl rfl rfl hrn) trivial ?_; simp only [aP,lI,l0,lS]; clear hrn; replace B_:=B_.apart (g:=g2) (by omega) (ov (ov (wrc (L.take i)++zs) (i*2) (wrc V)) ((i+V.length)*2) (wrc (L.drop i))).toArray
   replace V_:=V_.apart (g:=g2) (by omega) (ov (ov (wrc (L.take i)++zs) (i*2) (wrc V)) ((i+V.length)*2) (wrc (L.drop i))).toArray; replace D_:=D_.put hlp; replace GR:=grown_new GR hg2 (ov (ov (wrc (L.take i)++zs) (i*2) (wrc V)) ((i+V.length)*2) (wrc (L.drop i))).toArray
   generalize w3.setRow g2 (ov (ov (wrc (L.take i)++zs) (i*2) (wrc V)) ((i+V.length)*2) (wrc (L.drop i))).toArray=w4 at B_ V_ D_ GR ⊢; clear hlp
   refine wpAnyH_done (by kernel_rfl) ?_ _
   first | show Exit.then _ _ _ _ _ | show Exit.inBlock _ _ _ _ _
   go_upto_region 12 with fail; refine wp_region_list ?_; refine xpL (.slice (some ⟨g2,0,none⟩) (L.length+V.length) c2) ?_; refine xpL (.slice (some ⟨g2,0,none⟩) (L.length+V.length) c2) ?_; refine xT ?_; have hpr:=fin_new (L:=L) (V:=V) (i:=i) (j:=i) (zs:=zs) (xnR _) (by omega) (by omega)
   have HS:=show Hid _ from (Rep17.new (w:=w) (sp:=some ⟨g,0,none⟩) D_ hpr (k:=(L.length+V.length)) (by simp only [List.length_append,List.length_take,List.length_drop]; omega) (by simp only [List.length_append,List.length_take,List.length_drop]; omega) GR hg2); clear B_ V_ D_ GR; go_wp2; go_ret
   exact HS.out
 · go_upto_region 8 with fail
   refine wp_region_list ?_; refine xpL (.int .i64 ((L.length:Nat):Int)) ?_; refine xpL (.int .i64 ((V.length:Nat):Int)) ?_; refine xaL (.int .i64 ((L.length+V.length:Nat):Int)) (addI .i64 _ _ _ _ _ _ _ rfl rfl rfl (by rw [xw6]; omega) _) ?_; refine xpL (.slice (some ⟨g,0,none⟩) L.length cap) ?_
   refine xaL (.int .i64 ((cap:Nat):Int)) (capS17 _ 29 49 (some ⟨g,0,none⟩) L.length cap rfl Try.underlying29 rfl _) ?_; refine xaL (.bool false) (gtrI .i64 _ _ _ _ _ _ rfl rfl rfl false (decide_eq_false (by omega)) _) ?_; refine xT ?_; go_upto_region 13 with fail; refine wp_region_list ?_; refine xpL (.slice (some ⟨g,0,none⟩) L.length cap) ?_
   refine xpL (.int .i64 ((L.length:Nat):Int)) ?_; refine xpL (.int .i64 ((V.length:Nat):Int)) ?_; refine xaL (.int .i64 ((L.length+V.length:Nat):Int)) (addI .i64 _ _ _ _ _ _ _ rfl rfl rfl (by rw [xw6]; omega) _) ?_
   refine xaL (.slice (some ⟨g,0,none⟩) (L.length+V.length) cap) (cutHi _ _ _ _ _ _ rfl rfl rfl (sl_h0 (P:=Try.prog) (t:=29) (by kernel_rfl) (fun _=>by kernel_rfl) g L.length cap (L.length+V.length) (by omega) _)) ?_; refine xpL (.slice (some ⟨g,0,none⟩) (L.length+V.length) cap) ?_; refine xT ?_; go_upto_region 14 with fail; refine wp_region_list ?_
   refine xpL (.slice (some ⟨vb,0,none⟩) V.length vc) ?_; refine xpL (.slice (some ⟨g,0,none⟩) (L.length+V.length) cap) ?_; refine xpL (.int .i64 ((i:Nat):Int)) ?_; refine xpL (.int .i64 ((V.length:Nat):Int)) ?_; refine xaL (.int .i64 ((i+V.length:Nat):Int)) (addI .i64 _ _ _ _ _ _ _ rfl rfl rfl (by rw [xw6]; omega) _) ?_
   refine xaL (.slice (slp (some ⟨g,0,none⟩) cap (i+V.length)) ((L.length+V.length)-(i+V.length)) (cap-(i+V.length))) (cutOp _ _ _ _ _ _ rfl rfl rfl (sl_l (P:=Try.prog) (t:=29) (by kernel_rfl) (fun _=>by kernel_rfl) (some ⟨g,0,none⟩) (L.length+V.length) cap (i+V.length) (by omega) _)) ?_
   rw [slp_g (show cap≠i+V.length by omega)]
   refine xaL (.bool false) (callX17 60 _ _ _ _ _ _ rfl rfl rfl (hr:=V_.overlaps Try.underlying29 (fun _=>by kernel_rfl) B_ (by omega) (by omega) (0) ((i+V.length)*2) V.length vc ((L.length+V.length)-(i+V.length)) (cap-(i+V.length)))) ?_; refine xpL (.bool true) ?_; refine xT ?_; go_upto_region 15 with fail
   refine wp_region_held_drew (S:=fun _=>True) (by kernel_rfl) trivial ?_; intro _; replace B_:=B_.drew; replace V_:=V_.drew; replace GR:=grown_trans GR (grown_drew' _ _); generalize w.drew=w5 at B_ V_ GR ⊢; refine xrH 0 69 rfl (.slice (some ⟨g,0,none⟩) (L.length+V.length) cap) (fun _ _=>(by kernel_rfl)) trivial ?_
   refine xrH 1 70 rfl (.int .i64 ((i:Nat):Int)) (fun _ _=>(by kernel_rfl)) trivial ?_; refine xrH 2 71 rfl (.int .i64 ((V.length:Nat):Int)) (fun _ _=>(by kernel_rfl)) trivial ?_; refine xrH 3 72 rfl (.int .i64 ((i+V.length:Nat):Int)) (fun _ _=>addI .i64 _ _ _ _ _ _ _ rfl rfl rfl (by rw [xw6]; omega) _) trivial ?_
   refine xrH 4 73 rfl (.slice (slp (some ⟨g,0,none⟩) cap (i+V.length)) ((L.length+V.length)-(i+V.length)) (cap-(i+V.length))) (fun _ _=>cutOp _ _ _ _ _ _ rfl rfl rfl (sl_l (P:=Try.prog) (t:=29) (by kernel_rfl) (fun _=>by kernel_rfl) (some ⟨g,0,none⟩) (L.length+V.length) cap (i+V.length) (by omega) _)) trivial ?_
   refine xrH 5 74 rfl (.slice (some ⟨g,0,none⟩) (L.length+V.length) cap) (fun _ _=>(by kernel_rfl)) trivial ?_; refine xrH 6 75 rfl (.int .i64 ((i:Nat):Int)) (fun _ _=>(by kernel_rfl)) trivial ?_
   refine xrH 7 76 rfl (.slice (slp (some ⟨g,0,none⟩) cap i) ((L.length+V.length)-i) (cap-i)) (fun _ _=>cutOp _ _ _ _ _ _ rfl rfl rfl (sl_l (P:=Try.prog) (t:=29) (by kernel_rfl) (fun _=>by kernel_rfl) (some ⟨g,0,none⟩) (L.length+V.length) cap i (by omega) _)) trivial ?_
   have hlp:(i+V.length)*2+(wrc (L.drop i)).length≤(wrc L++ys).length:=by rw [dp_len (by omega)]; omega
   have hrn:=B_.copies (P:=Try.prog) (dT:=29) (sT:=29) (ty:=3) Try.underlying29 (fun _=>by kernel_rfl) (slp (some ⟨g,0,none⟩) cap (i+V.length)) (slp (some ⟨g,0,none⟩) cap i) ((L.length+V.length)-(i+V.length)) (cap-(i+V.length)) ((L.length+V.length)-i) (cap-i) (L.length-i) ((i+V.length)*2) (by simp only [Nat.min_def]; split <;> omega) (wrc (L.drop i)) (dp_len (by omega)) (fun _=>slp_g (by omega)) (fun h0_=>⟨_,slp_g (by omega),wrc_cell B_ (dp_read (by omega))⟩) hlp (wrc_one _)
   refine onlyH (i:=8) (some 77) rfl _ (by kernel_rfl) rfl rfl (copyOp17 _ _ 29 29 _ _ _ rfl rfl rfl hrn) trivial ?_; simp only [aP,lI,l0,lS]; clear hrn; replace B_:=B_.put hlp; replace V_:=V_.apart (g:=g) (by omega) (ov (wrc L++ys) ((i+V.length)*2) (wrc (L.drop i))).toArray
   replace GR:=grown_trans GR (grown_set _ g (ov (wrc L++ys) ((i+V.length)*2) (wrc (L.drop i))).toArray); generalize w5.setRow g (ov (wrc L++ys) ((i+V.length)*2) (wrc (L.drop i))).toArray=w6 at B_ V_ GR ⊢; clear hlp
   refine wpAnyH_done (by kernel_rfl) ?_ _
   first | show Exit.then _ _ _ _ _ | show Exit.inBlock _ _ _ _ _
   go_upto_region 16 with fail; refine wp_region_list ?_; refine xpL (.slice (some ⟨g,0,none⟩) (L.length+V.length) cap) ?_; refine xpL (.int .i64 ((i:Nat):Int)) ?_
   refine xaL (.slice (slp (some ⟨g,0,none⟩) cap i) ((L.length+V.length)-i) (cap-i)) (cutOp _ _ _ _ _ _ rfl rfl rfl (sl_l (P:=Try.prog) (t:=29) (by kernel_rfl) (fun _=>by kernel_rfl) (some ⟨g,0,none⟩) (L.length+V.length) cap i (by omega) _)) ?_; refine xpL (.slice (some ⟨vb,0,none⟩) V.length vc) ?_
   have hlp:i*2+(wrc V).length≤(ov (wrc L++ys) ((i+V.length)*2) (wrc (L.drop i))).length:=by rw [wrc_len]; rw [ov_len (by rw [dp_len (by omega)]; omega)]; omega
   have hrn:=B_.copies (P:=Try.prog) (dT:=29) (sT:=29) (ty:=3) Try.underlying29 (fun _=>by kernel_rfl) (slp (some ⟨g,0,none⟩) cap i) (some ⟨vb,0,none⟩) ((L.length+V.length)-i) (cap-i) V.length vc V.length (i*2) (by simp only [Nat.min_def]; split <;> omega) (wrc V) (wrc_len _) (fun _=>slp_g (by omega)) (fun _=>⟨_,rfl,wrc_cell V_ fun j_ u_ hu_=>by rw [Nat.zero_add]; exact get_left hu_⟩) hlp (wrc_one _)
   refine xaL _ (copyOp17 _ _ 29 29 _ _ _ rfl rfl rfl hrn) ?_; clear hrn; replace B_:=B_.put hlp; replace V_:=V_.apart (g:=g) (by omega) (ov (ov (wrc L++ys) ((i+V.length)*2) (wrc (L.drop i))) (i*2) (wrc V)).toArray; replace GR:=grown_trans GR (grown_set _ g (ov (ov (wrc L++ys) ((i+V.length)*2) (wrc (L.drop i))) (i*2) (wrc V)).toArray)
   generalize w6.setRow g (ov (ov (wrc L++ys) ((i+V.length)*2) (wrc (L.drop i))) (i*2) (wrc V)).toArray=w7 at B_ V_ GR ⊢; clear hlp; refine xT ?_; go_upto_region 17 with fail; refine wp_region_list ?_; refine xpL (.slice (some ⟨g,0,none⟩) (L.length+V.length) cap) ?_; refine xpL (.slice (some ⟨g,0,none⟩) (L.length+V.length) cap) ?_; refine xT ?_
   have hpr:=fin_hard (L:=L) (V:=V) (i:=i) (j:=i) (ys:=ys) (xnR _) (by omega) (by omega); have HS:=show Hid _ from (Rep17.of (w:=w) (sp:=some ⟨g,0,none⟩) B_ hpr (k:=(L.length+V.length)) (by simp only [List.length_append,List.length_take,List.length_drop]; omega) (by simp only [List.length_append,List.length_take,List.length_drop]; omega) GR); clear B_ V_ GR; go_wp2
   go_ret
   exact HS.out
end
theorem vins_any (w:World) (L V:Rgs17) (sp:Option Addr) (i cap vb vc:Nat) (hi:i≤L.length) (hln:L.length<1000000) (hv:V.length≤2) (hv0:0<V.length) (O_:w.ownsRow 0 49 2 (.slice sp L.length cap) L.length (wrc L)) (V_:w.ownsRow 0 49 2 (.slice (some ⟨vb,0,none⟩) V.length vc) V.length (wrc V)) (hne:vb∉ob sp) :
 Calls Try.prog 59 #[.slice sp L.length cap,.int .i64 ((i:Nat):Int),.slice (some ⟨vb,0,none⟩) V.length vc] w fun e w'=>Rep17 w sp (L.take i++(V++L.drop i)) e w':=by
 rcases Nat.lt_or_ge i L.length with h | h
 · obtain ⟨g,rfl⟩:=row_some16 O_ (by omega)
   obtain ⟨ys,B,hcap,_⟩:=Blk.of O_
   obtain ⟨vs,BV,_,_⟩:=Blk.of V_
   exact vins_mid w L V i g cap vb vc ys vs h hln hv hv0 B BV (fun e=>hne (by rw [e]; exact mS)) hcap
 · obtain rfl:i=L.length:=by omega
   exact vins_end w L V sp cap vb vc hln hv hv0 O_ V_
theorem vrep_eq (w:World) (L V:Rgs17) (sp:Option Addr) (i cap vb vc:Nat) (hi:i≤L.length) (hcap:L.length≤cap) (hln:L.length<1000000) (hv:V.length≤2) (hv0:0<V.length) (O_:w.ownsRow 0 49 2 (.slice sp L.length cap) L.length (wrc L)) (V_:w.ownsRow 0 49 2 (.slice (some ⟨vb,0,none⟩) V.length vc) V.length (wrc V)) (hne:vb∉ob sp) :
 Calls Try.prog 56 #[.slice sp L.length cap,.int .i64 ((i:Nat):Int),.int .i64 ((i:Nat):Int),.slice (some ⟨vb,0,none⟩) V.length vc] w fun e w'=>Rep17 w sp (L.take i++(V++L.drop i)) e w':=by
 go_enter Try.func56,Try.ntmps56
 go_upto_region 0 with fail; refine wp_region_list ?_; refine xpL (.slice none 0 0) ?_; refine xT ?_; go_upto_region 1 with fail; refine wp_region_list ?_; refine xpL (.slice sp L.length cap) ?_; refine xpL (.int .i64 ((i:Nat):Int)) ?_; refine xpL (.int .i64 ((i:Nat):Int)) ?_
 refine xaL (.slice (slp sp cap i) (i-i) (cap-i)) (cutLHop _ _ _ _ _ _ _ _ rfl rfl rfl rfl (sl_lh (P:=Try.prog) (t:=29) (by kernel_rfl) (fun _=>by kernel_rfl) sp L.length cap i i (by omega) (by omega) _)) ?_; refine xT ?_; go_upto_region 2 with fail; refine wp_region_list ?_; refine xpL (.int .i64 ((i:Nat):Int)) ?_; refine xpL (.int .i64 ((i:Nat):Int)) ?_
 refine xaL (.bool true) (eqlI .i64 _ _ _ _ _ _ rfl rfl rfl true (beq_self_eq_true _) _) ?_; refine xT ?_; go_upto_region 3 with fail; refine wp_region_list ?_; refine xpL (.slice sp L.length cap) ?_; refine xpL (.int .i64 ((i:Nat):Int)) ?_; refine xpL (.slice (some ⟨vb,0,none⟩) V.length vc) ?_; refine xcL (vins_any w L V sp i cap vb vc hi hln hv hv0 O_ V_ hne) ?_
 rintro e w1 ⟨sq,cq,rfl,HR⟩; refine xeL ?_; refine xpL (.slice sq ((L.take i++(V++L.drop i)).length) cq) ?_; refine xT ?_; have HS:=show Hid _ from HR; clear HR; go_wp2; go_ret
 exact ⟨sq,cq,rfl,HS.out⟩
theorem vrep_lt (w:World) (L V:Rgs17) (i j g cap vb vc:Nat) (ys vs:List Value) (hij:i<j) (hj:j≤L.length) (hln:L.length<1000000) (hv:V.length≤2) (B_:Blk w 49 g cap (wrc L++ys)) (V_:Blk w 49 vb vc (wrc V++vs)) (hne:vb≠g) (hcap:L.length≤cap) (hvc:V.length≤vc) :
 Calls Try.prog 56 #[.slice (some ⟨g,0,none⟩) L.length cap,.int .i64 ((i:Nat):Int),.int .i64 ((j:Nat):Int),.slice (some ⟨vb,0,none⟩) V.length vc] w fun e w'=>Rep17 w (some ⟨g,0,none⟩) (L.take i++(V++L.drop j)) e w':=by
 have hbl:=B_.len; have hvl:=wrc_len V; have hll:=wrc_len L; have GR:=grown_refl' w (some g)
 go_enter Try.func56,Try.ntmps56
 go_upto_region 0 with fail; refine wp_region_list ?_; refine xpL (.slice none 0 0) ?_; refine xT ?_; go_upto_region 1 with fail; refine wp_region_list ?_; refine xpL (.slice (some ⟨g,0,none⟩) L.length cap) ?_; refine xpL (.int .i64 ((i:Nat):Int)) ?_; refine xpL (.int .i64 ((j:Nat):Int)) ?_
 refine xaL (.slice (slp (some ⟨g,0,none⟩) cap i) (j-i) (cap-i)) (cutLHop _ _ _ _ _ _ _ _ rfl rfl rfl rfl (sl_lh (P:=Try.prog) (t:=29) (by kernel_rfl) (fun _=>by kernel_rfl) (some ⟨g,0,none⟩) L.length cap i j (by omega) (by omega) _)) ?_; refine xT ?_; go_upto_region 2 with fail; refine wp_region_list ?_; refine xpL (.int .i64 ((i:Nat):Int)) ?_
 refine xpL (.int .i64 ((j:Nat):Int)) ?_; refine xaL (.bool false) (eqlI .i64 _ _ _ _ _ _ rfl rfl rfl false (by rw [beq_eq_false_iff_ne]; omega) _) ?_; refine xT ?_
 by_cases hje:j=L.length
 · subst hje
   go_upto_region 4 with fail; refine wp_region_list ?_; refine xpL (.int .i64 ((L.length:Nat):Int)) ?_; refine xpL (.slice (some ⟨g,0,none⟩) L.length cap) ?_; refine xaL (.int .i64 ((L.length:Nat):Int)) (lenS _ 29 49 (some ⟨g,0,none⟩) L.length cap rfl Try.underlying29 rfl _) ?_; refine xaL (.bool true) (eqlI .i64 _ _ _ _ _ _ rfl rfl rfl true (beq_self_eq_true _) _) ?_; refine xT ?_
   by_cases hrm:i+V.length≤cap
   · go_upto_region 5 with fail
     refine wp_region_list ?_; refine xpL (.slice (some ⟨g,0,none⟩) L.length cap) ?_; refine xpL (.int .i64 ((i:Nat):Int)) ?_; refine xaL (.slice (some ⟨g,0,none⟩) i cap) (cutHi _ _ _ _ _ _ rfl rfl rfl (sl_h0 (P:=Try.prog) (t:=29) (by kernel_rfl) (fun _=>by kernel_rfl) g L.length cap i (by omega) _)) ?_; refine xpL (.slice (some ⟨vb,0,none⟩) V.length vc) ?_
     have hlp:i*2+(wrc V).length≤(wrc L++ys).length:=by omega
     have hrn:=B_.room (P:=Try.prog) (t:=29) (ty:=0) Try.underlying29 manyW i V.length vc ⟨vb,0,none⟩ (wrc V) (wrc_len V) (wrc_cell V_ fun j_ u_ hu_=>by rw [Nat.zero_add]; exact get_left hu_) (wrc_one V) hrm; refine xaL _ (appN17 _ _ 29 29 _ _ _ rfl rfl rfl hrn) ?_; clear hrn; have hpr:=fin_end (L:=L) (V:=V) (i:=i) (ys:=ys) (by omega) (by omega); replace B_:=B_.put hlp
     replace V_:=V_.apart (g:=g) (by omega) (ov (wrc L++ys) (i*2) (wrc V)).toArray; replace GR:=grown_trans GR (grown_set _ g (ov (wrc L++ys) (i*2) (wrc V)).toArray); generalize w.setRow g (ov (wrc L++ys) (i*2) (wrc V)).toArray=w1 at B_ V_ GR ⊢; have hol:=ov_len hlp; clear hlp; refine xpL (.slice (some ⟨g,0,none⟩) (i+V.length) cap) ?_; refine xT ?_
     by_cases hsh:i+V.length<L.length
     · go_upto_region 6 with fail
       refine wp_region_list ?_; refine xpL (.slice (some ⟨g,0,none⟩) (i+V.length) cap) ?_; refine xaL (.int .i64 ((i+V.length:Nat):Int)) (lenS _ 29 49 (some ⟨g,0,none⟩) (i+V.length) cap rfl Try.underlying29 rfl _) ?_; refine xpL (.slice (some ⟨g,0,none⟩) L.length cap) ?_
       refine xaL (.int .i64 ((L.length:Nat):Int)) (lenS _ 29 49 (some ⟨g,0,none⟩) L.length cap rfl Try.underlying29 rfl _) ?_; refine xaL (.bool true) (lssI .i64 _ _ _ _ _ _ rfl rfl rfl true (decide_eq_true (by omega)) _) ?_; refine xT ?_; go_upto_region 7 with fail; refine wp_region_list ?_; refine xpL (.slice (some ⟨g,0,none⟩) L.length cap) ?_
       refine xpL (.slice (some ⟨g,0,none⟩) (i+V.length) cap) ?_; refine xaL (.int .i64 ((i+V.length:Nat):Int)) (lenS _ 29 49 (some ⟨g,0,none⟩) (i+V.length) cap rfl Try.underlying29 rfl _) ?_
       refine xaL (.slice (slp (some ⟨g,0,none⟩) cap (i+V.length)) (L.length-(i+V.length)) (cap-(i+V.length))) (cutOp _ _ _ _ _ _ rfl rfl rfl (sl_l (P:=Try.prog) (t:=29) (by kernel_rfl) (fun _=>by kernel_rfl) (some ⟨g,0,none⟩) L.length cap (i+V.length) (by omega) _)) ?_
       obtain ⟨vz,hvz,hrn⟩:=B_.clears (P:=Try.prog) (t:=29) (ty:=0) Try.underlying29 (fun _=>by kernel_rfl) (slp (some ⟨g,0,none⟩) cap (i+V.length)) (L.length-(i+V.length)) (cap-(i+V.length)) ((i+V.length)*2) (fun _=>slp_g (by omega)) ((by rw [hol]; omega))
       have hlp:(i+V.length)*2+vz.length≤(ov (wrc L++ys) (i*2) (wrc V)).length:=by rw [hvz]; exact (by rw [hol]; omega)
       refine actL _ rfl (clearOp17 _ 29 _ _ rfl rfl hrn) ?_; simp only [Act.put]; clear hrn; have hpr:=pre_ov hpr hlp (by rw [wrc_len]; simp only [List.length_append,List.length_take,List.length_drop]; omega); replace B_:=B_.put hlp; replace V_:=V_.apart (g:=g) (by omega) (ov (ov (wrc L++ys) (i*2) (wrc V)) ((i+V.length)*2) vz).toArray
       replace GR:=grown_trans GR (grown_set _ g (ov (ov (wrc L++ys) (i*2) (wrc V)) ((i+V.length)*2) vz).toArray); generalize w1.setRow g (ov (ov (wrc L++ys) (i*2) (wrc V)) ((i+V.length)*2) vz).toArray=w2 at B_ V_ GR ⊢; clear hlp; refine xT ?_; go_upto_region 8 with fail; refine wp_region_list ?_; refine xpL (.slice (some ⟨g,0,none⟩) (i+V.length) cap) ?_
       refine xpL (.slice (some ⟨g,0,none⟩) (i+V.length) cap) ?_; refine xT ?_; have HS:=show Hid _ from (Rep17.of (w:=w) (sp:=some ⟨g,0,none⟩) B_ hpr (k:=(i+V.length)) (by simp only [List.length_append,List.length_take,List.length_drop]; omega) (by simp only [List.length_append,List.length_take,List.length_drop]; omega) GR); clear B_ V_ GR; go_wp2; go_ret
       exact HS.out
     · go_upto_region 6 with fail
       refine wp_region_list ?_; refine xpL (.slice (some ⟨g,0,none⟩) (i+V.length) cap) ?_; refine xaL (.int .i64 ((i+V.length:Nat):Int)) (lenS _ 29 49 (some ⟨g,0,none⟩) (i+V.length) cap rfl Try.underlying29 rfl _) ?_; refine xpL (.slice (some ⟨g,0,none⟩) L.length cap) ?_
       refine xaL (.int .i64 ((L.length:Nat):Int)) (lenS _ 29 49 (some ⟨g,0,none⟩) L.length cap rfl Try.underlying29 rfl _) ?_; refine xaL (.bool false) (lssI .i64 _ _ _ _ _ _ rfl rfl rfl false (decide_eq_false (by omega)) _) ?_; refine xT ?_; go_upto_region 8 with fail; refine wp_region_list ?_; refine xpL (.slice (some ⟨g,0,none⟩) (i+V.length) cap) ?_
       refine xpL (.slice (some ⟨g,0,none⟩) (i+V.length) cap) ?_; refine xT ?_; have HS:=show Hid _ from (Rep17.of (w:=w) (sp:=some ⟨g,0,none⟩) B_ hpr (k:=(i+V.length)) (by simp only [List.length_append,List.length_take,List.length_drop]; omega) (by simp only [List.length_append,List.length_take,List.length_drop]; omega) GR); clear B_ V_ GR; go_wp2; go_ret
       exact HS.out
   · go_upto_region 5 with fail
     refine wp_region_list ?_; refine xpL (.slice (some ⟨g,0,none⟩) L.length cap) ?_; refine xpL (.int .i64 ((i:Nat):Int)) ?_; refine xaL (.slice (some ⟨g,0,none⟩) i cap) (cutHi _ _ _ _ _ _ rfl rfl rfl (sl_h0 (P:=Try.prog) (t:=29) (by kernel_rfl) (fun _=>by kernel_rfl) g L.length cap i (by omega) _)) ?_; refine xpL (.slice (some ⟨vb,0,none⟩) V.length vc) ?_
     have hti:(wrc (L.take i)).length=i*2:=by rw [wrc_len,List.length_take]; omega
     have hsplit:wrc L++ys=wrc (L.take i)++(wrc (L.drop i)++ys):=by rw [← List.append_assoc,← wrc_app,List.take_append_drop]
     have hO:w.ownsRow 0 49 2 (.slice (some ⟨g,0,none⟩) i cap) i (wrc (L.take i)):=B_.owns (by rw [hsplit]; exact List.prefix_append _ _) hti (by omega)
     obtain ⟨v2,w2,hr,V2,hgr,hg2⟩:=run_append_OwnV (P:=Try.prog) (ty:=29) Try.underlying29 manyW rfl (by decide) hO ⟨vb,0,none⟩ V.length vc (wrc V) (wrc_len V) (wrc_cell V_ fun j_ u_ hu_=>by rw [Nat.zero_add]; exact get_left hu_) (wrc_one V) (by unfold maxLen; omega) (by omega) (Nat.zero_le _)
     obtain ⟨sv,cv,rfl,_,_⟩:=row_form16 V2
     refine xaL _ (appendOp _ _ 29 _ _ _ rfl rfl rfl hr) ?_; clear hr; refine xpL (.slice sv (i+V.length) cv) ?_; refine xT ?_; go_upto_region 6 with fail; refine wp_region_list ?_; refine xpL (.slice sv (i+V.length) cv) ?_; refine xaL (.int .i64 ((i+V.length:Nat):Int)) (lenS _ 29 49 sv (i+V.length) cv rfl Try.underlying29 rfl _) ?_
     refine xpL (.slice (some ⟨g,0,none⟩) L.length cap) ?_; refine xaL (.int .i64 ((L.length:Nat):Int)) (lenS _ 29 49 (some ⟨g,0,none⟩) L.length cap rfl Try.underlying29 rfl _) ?_; refine xaL (.bool false) (lssI .i64 _ _ _ _ _ _ rfl rfl rfl false (decide_eq_false (by omega)) _) ?_; refine xT ?_; go_upto_region 8 with fail; refine wp_region_list ?_
     refine xpL (.slice sv (i+V.length) cv) ?_; refine xpL (.slice sv (i+V.length) cv) ?_; refine xT ?_
     have hRl:(L.take i++(V++L.drop L.length)).length=i+V.length:=by rw [List.drop_length,List.append_nil,List.length_append,List.length_take]; omega
     have HS:Hid (Rep17 w (some ⟨g,0,none⟩) (L.take i++(V++L.drop L.length)) (.returned (.slice sv (i+V.length) cv)) w2):=by
      refine show Hid _ from ⟨sv,cv,by rw [hRl],?_,hgr,fun b hb=>?_⟩
      · rw [hRl,List.drop_length,List.append_nil,wrc_app]
        exact V2
      · rcases hg2 b ((ob_own sv _ cv b).2 hb) with h | h
        · exact .inl ((ob_own (some ⟨g,0,none⟩) _ cap b).1 h)
        · exact .inr (Nat.le_of_eq h.symm)
     clear V2 hgr hg2 B_ V_ GR; go_wp2; go_ret
     exact HS.out
 · go_upto_region 4 with fail
   refine wp_region_list ?_; refine xpL (.int .i64 ((j:Nat):Int)) ?_; refine xpL (.slice (some ⟨g,0,none⟩) L.length cap) ?_; refine xaL (.int .i64 ((L.length:Nat):Int)) (lenS _ 29 49 (some ⟨g,0,none⟩) L.length cap rfl Try.underlying29 rfl _) ?_; refine xaL (.bool false) (eqlI .i64 _ _ _ _ _ _ rfl rfl rfl false (by rw [beq_eq_false_iff_ne]; omega) _) ?_; refine xT ?_
   go_upto_region 9 with fail; refine wp_region_held_drew (S:=fun _=>True) (by kernel_rfl) trivial ?_; intro _; replace B_:=B_.drew; replace V_:=V_.drew; replace GR:=grown_trans GR (grown_drew' _ _); generalize w.drew=w3 at B_ V_ GR ⊢; refine xrH 0 45 rfl (.slice (some ⟨g,0,none⟩) L.length cap) (fun _ _=>(by kernel_rfl)) trivial ?_
   refine xrH 1 46 rfl (.int .i64 ((i:Nat):Int)) (fun _ _=>(by kernel_rfl)) trivial ?_; refine xrH 2 47 rfl (.slice (some ⟨g,0,none⟩) i cap) (fun _ _=>cutHi _ _ _ _ _ _ rfl rfl rfl (sl_h0 (P:=Try.prog) (t:=29) (by kernel_rfl) (fun _=>by kernel_rfl) g L.length cap i (by omega) _)) trivial ?_
   refine xrH 3 48 rfl (.int .i64 ((i:Nat):Int)) (fun _ _=>lenS _ 29 49 (some ⟨g,0,none⟩) i cap rfl Try.underlying29 rfl _) trivial ?_; refine xrH 4 49 rfl (.slice (some ⟨vb,0,none⟩) V.length vc) (fun _ _=>(by kernel_rfl)) trivial ?_; refine xrH 5 50 rfl (.int .i64 ((V.length:Nat):Int)) (fun _ _=>lenS _ 29 49 (some ⟨vb,0,none⟩) V.length vc rfl Try.underlying29 rfl _) trivial ?_
   refine xrH 6 51 rfl (.int .i64 ((i+V.length:Nat):Int)) (fun _ _=>addI .i64 _ _ _ _ _ _ _ rfl rfl rfl (by rw [xw6]; omega) _) trivial ?_; refine xrH 7 52 rfl (.slice (some ⟨g,0,none⟩) L.length cap) (fun _ _=>(by kernel_rfl)) trivial ?_; refine xrH 8 53 rfl (.int .i64 ((j:Nat):Int)) (fun _ _=>(by kernel_rfl)) trivial ?_
   refine xrH 9 54 rfl (.slice (slp (some ⟨g,0,none⟩) cap j) (L.length-j) (cap-j)) (fun _ _=>cutOp _ _ _ _ _ _ rfl rfl rfl (sl_l (P:=Try.prog) (t:=29) (by kernel_rfl) (fun _=>by kernel_rfl) (some ⟨g,0,none⟩) L.length cap j (by omega) _)) trivial ?_
   refine xrH 10 55 rfl (.int .i64 ((L.length-j:Nat):Int)) (fun _ _=>lenS _ 29 49 (slp (some ⟨g,0,none⟩) cap j) (L.length-j) (cap-j) rfl Try.underlying29 rfl _) trivial ?_; refine xrH 11 56 rfl (.int .i64 ((i+V.length+(L.length-j):Nat):Int)) (fun _ _=>addI .i64 _ _ _ _ _ _ _ rfl rfl rfl (by rw [xw6]; omega) _) trivial ?_
   refine xrH 12 10 rfl (.int .i64 ((i+V.length+(L.length-j):Nat):Int)) (fun _ _=>(by kernel_rfl)) trivial ?_
   refine wpAnyH_done (by kernel_rfl) ?_ _
   first | show Exit.then _ _ _ _ _ | show Exit.inBlock _ _ _ _ _
   by_cases hrm:cap<(i+V.length+(L.length-j))
   · go_upto_region 10 with fail
     refine wp_region_list ?_; refine xpL (.int .i64 ((i+V.length+(L.length-j):Nat):Int)) ?_; refine xpL (.slice (some ⟨g,0,none⟩) L.length cap) ?_; refine xaL (.int .i64 ((cap:Nat):Int)) (capS17 _ 29 49 (some ⟨g,0,none⟩) L.length cap rfl Try.underlying29 rfl _) ?_; refine xaL (.bool true) (gtrI .i64 _ _ _ _ _ _ rfl rfl rfl true (decide_eq_true (by omega)) _) ?_; refine xT ?_
     go_upto_region 11 with fail; refine wp_region_list ?_; refine xpL (.slice (some ⟨g,0,none⟩) L.length cap) ?_; refine xpL (.int .i64 ((i:Nat):Int)) ?_; refine xaL (.slice (some ⟨g,0,none⟩) i cap) (cutHi _ _ _ _ _ _ rfl rfl rfl (sl_h0 (P:=Try.prog) (t:=29) (by kernel_rfl) (fun _=>by kernel_rfl) g L.length cap i (by omega) _)) ?_
     refine xpL (.int .i64 ((i+V.length+(L.length-j):Nat):Int)) ?_; refine xpL (.int .i64 ((i:Nat):Int)) ?_; refine readL (.int .i64 (((i+V.length+(L.length-j))-i:Nat):Int)) rfl (subI .i64 _ _ _ _ _ _ _ rfl rfl rfl (by rw [xw6]; omega) _) ?_; simp only [aP,lI,l0,lS]
     have hti:(wrc (L.take i)).length=i*2:=by rw [wrc_len,List.length_take]; omega
     have hsplit:wrc L++ys=wrc (L.take i)++(wrc (L.drop i)++ys):=by rw [← List.append_assoc,← wrc_app,List.take_append_drop]
     have hz:=B_
     rw [hsplit] at hz
     obtain ⟨c2,zs,hrn,hc2,D_⟩:=hz.noughts (P:=Try.prog) (t:=29) (u:=3) (ty:=0) Try.underlying29 Try.underlying3 manyW i ((i+V.length+(L.length-j))-i) hti (by omega) (by omega) (by omega)
     clear hz hsplit; refine xaL _ (appN17 _ _ 29 3 _ _ _ rfl rfl rfl hrn) ?_
     have hg2:w.heap.size≤w3.heap.size:=GR.size
     have hgl:=B_.lt; have hvl2:=V_.lt; replace B_:=B_.keep (w':=w3.drew.alloc (.cells (wrc (L.take i)++zs).toArray 49)) (heap_alloc_old w3.drew _ hgl); replace V_:=V_.keep (w':=w3.drew.alloc (.cells (wrc (L.take i)++zs).toArray 49)) (heap_alloc_old w3.drew _ hvl2); replace GR:=grown_alloc (grown_trans GR (grown_drew' _ _)) (.cells (wrc (L.take i)++zs).toArray 49); clear hrn
     generalize w3.drew.alloc (.cells (wrc (L.take i)++zs).toArray 49)=w4 at B_ V_ D_ GR ⊢
     obtain ⟨g2,hge⟩:∃ g2,g2=w3.heap.size:=⟨_,rfl⟩
     rw [← hge] at D_ ⊢
     replace hg2:w.heap.size≤g2:=by omega
     replace hgl:g<g2:=by omega
     replace hvl2:vb<g2:=by omega
     clear hge; have hdl:=D_.len
     rw [show i+((i+V.length+(L.length-j))-i)=(i+V.length+(L.length-j)) by omega] at hc2 ⊢
     refine xpL (.slice (some ⟨g2,0,none⟩) (i+V.length+(L.length-j)) c2) ?_; refine xT ?_; go_upto_region 12 with fail; refine wp_region_list ?_; refine xpL (.slice (some ⟨g2,0,none⟩) (i+V.length+(L.length-j)) c2) ?_; refine xpL (.int .i64 ((i:Nat):Int)) ?_
     refine readL (.slice (slp (some ⟨g2,0,none⟩) c2 i) (((i+V.length+(L.length-j)))-i) (c2-i)) rfl (cutOp _ _ _ _ _ _ rfl rfl rfl (sl_l (P:=Try.prog) (t:=29) (by kernel_rfl) (fun _=>by kernel_rfl) (some ⟨g2,0,none⟩) (i+V.length+(L.length-j)) c2 i (by omega) _)) ?_; simp only [aP,lI,l0,lS]; refine xpL (.slice (some ⟨vb,0,none⟩) V.length vc) ?_
     have hlp:i*2+(wrc V).length≤(wrc (L.take i)++zs).length:=by rw [wrc_len]; omega
     have hrn:=D_.copies (P:=Try.prog) (dT:=29) (sT:=29) (ty:=3) Try.underlying29 (fun _=>by kernel_rfl) (slp (some ⟨g2,0,none⟩) c2 i) (some ⟨vb,0,none⟩) (((i+V.length+(L.length-j)))-i) (c2-i) V.length vc V.length (i*2) (by simp only [Nat.min_def]; split <;> omega) (wrc V) (wrc_len _) (fun _=>slp_g (by omega)) (fun _=>⟨_,rfl,wrc_cell V_ fun j_ u_ hu_=>by rw [Nat.zero_add]; exact get_left hu_⟩) hlp (wrc_one _)
     refine xaL _ (copyOp17 _ _ 29 29 _ _ _ rfl rfl rfl hrn) ?_; clear hrn; replace B_:=B_.apart (g:=g2) (by omega) (ov (wrc (L.take i)++zs) (i*2) (wrc V)).toArray; replace V_:=V_.apart (g:=g2) (by omega) (ov (wrc (L.take i)++zs) (i*2) (wrc V)).toArray; replace D_:=D_.put hlp; replace GR:=grown_new GR hg2 (ov (wrc (L.take i)++zs) (i*2) (wrc V)).toArray
     generalize w4.setRow g2 (ov (wrc (L.take i)++zs) (i*2) (wrc V)).toArray=w5 at B_ V_ D_ GR ⊢; clear hlp; refine xT ?_; go_upto_region 13 with fail; refine wp_region_held_drew (S:=fun _=>True) (by kernel_rfl) trivial ?_; intro _; replace B_:=B_.drew; replace V_:=V_.drew; replace D_:=D_.drew; replace GR:=grown_trans GR (grown_drew' _ _); generalize w5.drew=w6 at B_ V_ D_ GR ⊢
     refine xrH 0 73 rfl (.slice (some ⟨g2,0,none⟩) (i+V.length+(L.length-j)) c2) (fun _ _=>(by kernel_rfl)) trivial ?_; refine xrH 1 74 rfl (.int .i64 ((i:Nat):Int)) (fun _ _=>(by kernel_rfl)) trivial ?_; refine xrH 2 75 rfl (.slice (some ⟨vb,0,none⟩) V.length vc) (fun _ _=>(by kernel_rfl)) trivial ?_
     refine xrH 3 76 rfl (.int .i64 ((V.length:Nat):Int)) (fun _ _=>lenS _ 29 49 (some ⟨vb,0,none⟩) V.length vc rfl Try.underlying29 rfl _) trivial ?_; refine xrH 4 77 rfl (.int .i64 ((i+V.length:Nat):Int)) (fun _ _=>addI .i64 _ _ _ _ _ _ _ rfl rfl rfl (by rw [xw6]; omega) _) trivial ?_
     refine xrH 5 78 rfl (.slice (slp (some ⟨g2,0,none⟩) c2 (i+V.length)) (((i+V.length+(L.length-j)))-(i+V.length)) (c2-(i+V.length))) (fun _ _=>cutOp _ _ _ _ _ _ rfl rfl rfl (sl_l (P:=Try.prog) (t:=29) (by kernel_rfl) (fun _=>by kernel_rfl) (some ⟨g2,0,none⟩) (i+V.length+(L.length-j)) c2 (i+V.length) (by omega) _)) trivial ?_
     refine xrH 6 79 rfl (.slice (some ⟨g,0,none⟩) L.length cap) (fun _ _=>(by kernel_rfl)) trivial ?_; refine xrH 7 80 rfl (.int .i64 ((j:Nat):Int)) (fun _ _=>(by kernel_rfl)) trivial ?_
     refine xrH 8 81 rfl (.slice (slp (some ⟨g,0,none⟩) cap j) (L.length-j) (cap-j)) (fun _ _=>cutOp _ _ _ _ _ _ rfl rfl rfl (sl_l (P:=Try.prog) (t:=29) (by kernel_rfl) (fun _=>by kernel_rfl) (some ⟨g,0,none⟩) L.length cap j (by omega) _)) trivial ?_
     have hlp:(i+V.length)*2+(wrc (L.drop j)).length≤(ov (wrc (L.take i)++zs) (i*2) (wrc V)).length:=by rw [dp_len (by omega)]; rw [ov_len (by rw [hvl]; omega)]; omega
     have hrn:=D_.copies (P:=Try.prog) (dT:=29) (sT:=29) (ty:=3) Try.underlying29 (fun _=>by kernel_rfl) (slp (some ⟨g2,0,none⟩) c2 (i+V.length)) (slp (some ⟨g,0,none⟩) cap j) (((i+V.length+(L.length-j)))-(i+V.length)) (c2-(i+V.length)) (L.length-j) (cap-j) (L.length-j) ((i+V.length)*2) (by simp only [Nat.min_def]; split <;> omega) (wrc (L.drop j)) (dp_len (by omega)) (fun _=>slp_g (by omega)) (fun h0_=>⟨_,slp_g (by omega),wrc_cell B_ (dp_read (by omega))⟩) hlp (wrc_one _)
     refine onlyH (i:=9) (some 82) rfl _ (by kernel_rfl) rfl rfl (copyOp17 _ _ 29 29 _ _ _ rfl rfl rfl hrn) trivial ?_; simp only [aP,lI,l0,lS]; clear hrn; replace B_:=B_.apart (g:=g2) (by omega) (ov (ov (wrc (L.take i)++zs) (i*2) (wrc V)) ((i+V.length)*2) (wrc (L.drop j))).toArray
     replace V_:=V_.apart (g:=g2) (by omega) (ov (ov (wrc (L.take i)++zs) (i*2) (wrc V)) ((i+V.length)*2) (wrc (L.drop j))).toArray; replace D_:=D_.put hlp; replace GR:=grown_new GR hg2 (ov (ov (wrc (L.take i)++zs) (i*2) (wrc V)) ((i+V.length)*2) (wrc (L.drop j))).toArray
     generalize w6.setRow g2 (ov (ov (wrc (L.take i)++zs) (i*2) (wrc V)) ((i+V.length)*2) (wrc (L.drop j))).toArray=w7 at B_ V_ D_ GR ⊢; clear hlp
     refine wpAnyH_done (by kernel_rfl) ?_ _
     first | show Exit.then _ _ _ _ _ | show Exit.inBlock _ _ _ _ _
     go_upto_region 14 with fail; refine wp_region_list ?_; refine xpL (.slice (some ⟨g2,0,none⟩) (i+V.length+(L.length-j)) c2) ?_; refine xpL (.slice (some ⟨g2,0,none⟩) (i+V.length+(L.length-j)) c2) ?_; refine xT ?_; have hpr:=fin_new (L:=L) (V:=V) (i:=i) (j:=j) (zs:=zs) (by omega) (by omega) (by omega)
     have HS:=show Hid _ from (Rep17.new (w:=w) (sp:=some ⟨g,0,none⟩) D_ hpr (k:=(i+V.length+(L.length-j))) (by simp only [List.length_append,List.length_take,List.length_drop]; omega) (by simp only [List.length_append,List.length_take,List.length_drop]; omega) GR hg2); clear B_ V_ D_ GR; go_wp2; go_ret
     exact HS.out
   · go_upto_region 10 with fail
     refine wp_region_list ?_; refine xpL (.int .i64 ((i+V.length+(L.length-j):Nat):Int)) ?_; refine xpL (.slice (some ⟨g,0,none⟩) L.length cap) ?_; refine xaL (.int .i64 ((cap:Nat):Int)) (capS17 _ 29 49 (some ⟨g,0,none⟩) L.length cap rfl Try.underlying29 rfl _) ?_; refine xaL (.bool false) (gtrI .i64 _ _ _ _ _ _ rfl rfl rfl false (decide_eq_false (by omega)) _) ?_; refine xT ?_
     go_upto_region 15 with fail; refine wp_region_list ?_; refine xpL (.slice (some ⟨g,0,none⟩) L.length cap) ?_; refine xpL (.int .i64 ((i+V.length+(L.length-j):Nat):Int)) ?_
     refine xaL (.slice (some ⟨g,0,none⟩) (i+V.length+(L.length-j)) cap) (cutHi _ _ _ _ _ _ rfl rfl rfl (sl_h0 (P:=Try.prog) (t:=29) (by kernel_rfl) (fun _=>by kernel_rfl) g L.length cap (i+V.length+(L.length-j)) (by omega) _)) ?_; refine xpL (.slice (some ⟨g,0,none⟩) (i+V.length+(L.length-j)) cap) ?_; refine xT ?_
     by_cases hfit:i+V.length≤j
     · go_upto_region 16 with fail
       refine wp_region_list ?_; refine xpL (.int .i64 ((i:Nat):Int)) ?_; refine xpL (.slice (some ⟨vb,0,none⟩) V.length vc) ?_; refine xaL (.int .i64 ((V.length:Nat):Int)) (lenS _ 29 49 (some ⟨vb,0,none⟩) V.length vc rfl Try.underlying29 rfl _) ?_; refine xaL (.int .i64 ((i+V.length:Nat):Int)) (addI .i64 _ _ _ _ _ _ _ rfl rfl rfl (by rw [xw6]; omega) _) ?_
       refine xpL (.int .i64 ((j:Nat):Int)) ?_; refine xaL (.bool true) (leqI .i64 _ _ _ _ _ _ rfl rfl rfl true (decide_eq_true (by omega)) _) ?_; refine xT ?_; go_upto_region 17 with fail; refine wp_region_list ?_; refine xpL (.slice (some ⟨g,0,none⟩) (i+V.length+(L.length-j)) cap) ?_; refine xpL (.int .i64 ((i:Nat):Int)) ?_
       refine readL (.slice (slp (some ⟨g,0,none⟩) cap i) ((i+V.length+(L.length-j))-i) (cap-i)) rfl (cutOp _ _ _ _ _ _ rfl rfl rfl (sl_l (P:=Try.prog) (t:=29) (by kernel_rfl) (fun _=>by kernel_rfl) (some ⟨g,0,none⟩) (i+V.length+(L.length-j)) cap i (by omega) _)) ?_; simp only [aP,lI,l0,lS]; refine xpL (.slice (some ⟨vb,0,none⟩) V.length vc) ?_
       have hlp:i*2+(wrc V).length≤(wrc L++ys).length:=by rw [wrc_len]; omega
       have hrn:=B_.copies (P:=Try.prog) (dT:=29) (sT:=29) (ty:=3) Try.underlying29 (fun _=>by kernel_rfl) (slp (some ⟨g,0,none⟩) cap i) (some ⟨vb,0,none⟩) ((i+V.length+(L.length-j))-i) (cap-i) V.length vc V.length (i*2) (by simp only [Nat.min_def]; split <;> omega) (wrc V) (wrc_len _) (fun _=>slp_g (by omega)) (fun _=>⟨_,rfl,wrc_cell V_ fun j_ u_ hu_=>by rw [Nat.zero_add]; exact get_left hu_⟩) hlp (wrc_one _)
       refine xaL _ (copyOp17 _ _ 29 29 _ _ _ rfl rfl rfl hrn) ?_; clear hrn; replace B_:=B_.put hlp; replace V_:=V_.apart (g:=g) (by omega) (ov (wrc L++ys) (i*2) (wrc V)).toArray; replace GR:=grown_trans GR (grown_set _ g (ov (wrc L++ys) (i*2) (wrc V)).toArray); generalize w3.setRow g (ov (wrc L++ys) (i*2) (wrc V)).toArray=w8 at B_ V_ GR ⊢; clear hlp; refine xT ?_
       go_upto_region 18 with fail; refine wp_region_held_drew (S:=fun _=>True) (by kernel_rfl) trivial ?_; intro _; replace B_:=B_.drew; replace V_:=V_.drew; replace GR:=grown_trans GR (grown_drew' _ _); generalize w8.drew=w9 at B_ V_ GR ⊢; refine xrH 0 98 rfl (.slice (some ⟨g,0,none⟩) (i+V.length+(L.length-j)) cap) (fun _ _=>(by kernel_rfl)) trivial ?_
       refine xrH 1 99 rfl (.int .i64 ((i:Nat):Int)) (fun _ _=>(by kernel_rfl)) trivial ?_; refine xrH 2 100 rfl (.slice (some ⟨vb,0,none⟩) V.length vc) (fun _ _=>(by kernel_rfl)) trivial ?_; refine xrH 3 101 rfl (.int .i64 ((V.length:Nat):Int)) (fun _ _=>lenS _ 29 49 (some ⟨vb,0,none⟩) V.length vc rfl Try.underlying29 rfl _) trivial ?_
       refine xrH 4 102 rfl (.int .i64 ((i+V.length:Nat):Int)) (fun _ _=>addI .i64 _ _ _ _ _ _ _ rfl rfl rfl (by rw [xw6]; omega) _) trivial ?_
       refine xrH 5 103 rfl (.slice (slp (some ⟨g,0,none⟩) cap (i+V.length)) ((i+V.length+(L.length-j))-(i+V.length)) (cap-(i+V.length))) (fun _ _=>cutOp _ _ _ _ _ _ rfl rfl rfl (sl_l (P:=Try.prog) (t:=29) (by kernel_rfl) (fun _=>by kernel_rfl) (some ⟨g,0,none⟩) (i+V.length+(L.length-j)) cap (i+V.length) (by omega) _)) trivial ?_
       refine xrH 6 104 rfl (.slice (some ⟨g,0,none⟩) L.length cap) (fun _ _=>(by kernel_rfl)) trivial ?_; refine xrH 7 105 rfl (.int .i64 ((j:Nat):Int)) (fun _ _=>(by kernel_rfl)) trivial ?_
       refine xrH 8 106 rfl (.slice (slp (some ⟨g,0,none⟩) cap j) (L.length-j) (cap-j)) (fun _ _=>cutOp _ _ _ _ _ _ rfl rfl rfl (sl_l (P:=Try.prog) (t:=29) (by kernel_rfl) (fun _=>by kernel_rfl) (some ⟨g,0,none⟩) L.length cap j (by omega) _)) trivial ?_
       have hlp:(i+V.length)*2+(wrc (L.drop j)).length≤(ov (wrc L++ys) (i*2) (wrc V)).length:=by rw [dp_len (by omega)]; rw [ov_len (by rw [hvl]; omega)]; omega
       have hrn:=B_.copies (P:=Try.prog) (dT:=29) (sT:=29) (ty:=3) Try.underlying29 (fun _=>by kernel_rfl) (slp (some ⟨g,0,none⟩) cap (i+V.length)) (slp (some ⟨g,0,none⟩) cap j) ((i+V.length+(L.length-j))-(i+V.length)) (cap-(i+V.length)) (L.length-j) (cap-j) (L.length-j) ((i+V.length)*2) (by simp only [Nat.min_def]; split <;> omega) (wrc (L.drop j)) (dp_len (by omega)) (fun _=>slp_g (by omega)) (fun h0_=>⟨_,slp_g (by omega),wrc_cell B_ (fun k_ u_ hu_=>by rw [ov_get (by omega),if_neg (by omega),if_neg (by omega)]; exact dp_read (by omega) k_ u_ hu_)⟩) hlp (wrc_one _)
       refine onlyH (i:=9) (some 107) rfl _ (by kernel_rfl) rfl rfl (copyOp17 _ _ 29 29 _ _ _ rfl rfl rfl hrn) trivial ?_; simp only [aP,lI,l0,lS]; clear hrn; replace B_:=B_.put hlp; replace V_:=V_.apart (g:=g) (by omega) (ov (ov (wrc L++ys) (i*2) (wrc V)) ((i+V.length)*2) (wrc (L.drop j))).toArray
       replace GR:=grown_trans GR (grown_set _ g (ov (ov (wrc L++ys) (i*2) (wrc V)) ((i+V.length)*2) (wrc (L.drop j))).toArray); generalize w9.setRow g (ov (ov (wrc L++ys) (i*2) (wrc V)) ((i+V.length)*2) (wrc (L.drop j))).toArray=w10 at B_ V_ GR ⊢; clear hlp
       refine wpAnyH_done (by kernel_rfl) ?_ _
       first | show Exit.then _ _ _ _ _ | show Exit.inBlock _ _ _ _ _
       have hol:=ov_len (cs:=ov (wrc L++ys) (i*2) (wrc V)) (o:=(i+V.length)*2) (vs:=wrc (L.drop j)) (by rw [ov_len (by rw [hvl]; omega),dp_len hj]; omega)
       rw [ov_len (cs:=wrc L++ys) (by rw [hvl]; omega)] at hol
       have hpr:=fin_easy (L:=L) (V:=V) (i:=i) (j:=j) (ys:=ys) (by omega) (by omega) (by omega); go_upto_region 19 with fail; refine wp_region_list ?_; refine xpL (.slice (some ⟨g,0,none⟩) L.length cap) ?_; refine xpL (.int .i64 ((i+V.length+(L.length-j):Nat):Int)) ?_
       refine readL (.slice (slp (some ⟨g,0,none⟩) cap (i+V.length+(L.length-j))) (L.length-(i+V.length+(L.length-j))) (cap-(i+V.length+(L.length-j)))) rfl (cutOp _ _ _ _ _ _ rfl rfl rfl (sl_l (P:=Try.prog) (t:=29) (by kernel_rfl) (fun _=>by kernel_rfl) (some ⟨g,0,none⟩) L.length cap (i+V.length+(L.length-j)) (by omega) _)) ?_; simp only [aP,lI,l0,lS]
       obtain ⟨vz,hvz,hrn⟩:=B_.clears (P:=Try.prog) (t:=29) (ty:=0) Try.underlying29 (fun _=>by kernel_rfl) (slp (some ⟨g,0,none⟩) cap (i+V.length+(L.length-j))) (L.length-(i+V.length+(L.length-j))) (cap-(i+V.length+(L.length-j))) ((i+V.length+(L.length-j))*2) (fun _=>slp_g (by omega)) ((by rw [hol]; omega))
       have hlp:(i+V.length+(L.length-j))*2+vz.length≤(ov (ov (wrc L++ys) (i*2) (wrc V)) ((i+V.length)*2) (wrc (L.drop j))).length:=by rw [hvz]; exact (by rw [hol]; omega)
       refine actL _ rfl (clearOp17 _ 29 _ _ rfl rfl hrn) ?_; simp only [Act.put]; clear hrn; have hpr:=pre_ov hpr hlp (by rw [wrc_len]; simp only [List.length_append,List.length_take,List.length_drop]; omega); replace B_:=B_.put hlp
       replace V_:=V_.apart (g:=g) (by omega) (ov (ov (ov (wrc L++ys) (i*2) (wrc V)) ((i+V.length)*2) (wrc (L.drop j))) ((i+V.length+(L.length-j))*2) vz).toArray; replace GR:=grown_trans GR (grown_set _ g (ov (ov (ov (wrc L++ys) (i*2) (wrc V)) ((i+V.length)*2) (wrc (L.drop j))) ((i+V.length+(L.length-j))*2) vz).toArray)
       generalize w10.setRow g (ov (ov (ov (wrc L++ys) (i*2) (wrc V)) ((i+V.length)*2) (wrc (L.drop j))) ((i+V.length+(L.length-j))*2) vz).toArray=w11 at B_ V_ GR ⊢; clear hlp; refine xT ?_; go_upto_region 20 with fail; refine wp_region_list ?_; refine xpL (.slice (some ⟨g,0,none⟩) (i+V.length+(L.length-j)) cap) ?_
       refine xpL (.slice (some ⟨g,0,none⟩) (i+V.length+(L.length-j)) cap) ?_; refine xT ?_; have HS:=show Hid _ from (Rep17.of (w:=w) (sp:=some ⟨g,0,none⟩) B_ hpr (k:=(i+V.length+(L.length-j))) (by simp only [List.length_append,List.length_take,List.length_drop]; omega) (by simp only [List.length_append,List.length_take,List.length_drop]; omega) GR); clear B_ V_ GR
       go_wp2; go_ret
       exact HS.out
     · go_upto_region 16 with fail
       refine wp_region_list ?_; refine xpL (.int .i64 ((i:Nat):Int)) ?_; refine xpL (.slice (some ⟨vb,0,none⟩) V.length vc) ?_; refine xaL (.int .i64 ((V.length:Nat):Int)) (lenS _ 29 49 (some ⟨vb,0,none⟩) V.length vc rfl Try.underlying29 rfl _) ?_; refine xaL (.int .i64 ((i+V.length:Nat):Int)) (addI .i64 _ _ _ _ _ _ _ rfl rfl rfl (by rw [xw6]; omega) _) ?_
       refine xpL (.int .i64 ((j:Nat):Int)) ?_; refine xaL (.bool false) (leqI .i64 _ _ _ _ _ _ rfl rfl rfl false (decide_eq_false (by omega)) _) ?_; refine xT ?_; go_upto_region 21 with fail; refine wp_region_list ?_; refine xpL (.slice (some ⟨g,0,none⟩) (i+V.length+(L.length-j)) cap) ?_; refine xpL (.int .i64 ((i:Nat):Int)) ?_
       refine xpL (.slice (some ⟨vb,0,none⟩) V.length vc) ?_; refine xaL (.int .i64 ((V.length:Nat):Int)) (lenS _ 29 49 (some ⟨vb,0,none⟩) V.length vc rfl Try.underlying29 rfl _) ?_; refine xaL (.int .i64 ((i+V.length:Nat):Int)) (addI .i64 _ _ _ _ _ _ _ rfl rfl rfl (by rw [xw6]; omega) _) ?_
       refine readL (.slice (slp (some ⟨g,0,none⟩) cap (i+V.length)) ((i+V.length+(L.length-j))-(i+V.length)) (cap-(i+V.length))) rfl (cutOp _ _ _ _ _ _ rfl rfl rfl (sl_l (P:=Try.prog) (t:=29) (by kernel_rfl) (fun _=>by kernel_rfl) (some ⟨g,0,none⟩) (i+V.length+(L.length-j)) cap (i+V.length) (by omega) _)) ?_; simp only [aP,lI,l0,lS]
       refine xpL (.slice (some ⟨vb,0,none⟩) V.length vc) ?_
       rw [slp_g (show cap≠i+V.length by omega)]
       refine xaL (.bool false) (callX17 60 _ _ _ _ _ _ rfl rfl rfl (hr:=B_.overlaps Try.underlying29 (fun _=>by kernel_rfl) V_ (by omega) (by omega) ((i+V.length)*2) (0) ((i+V.length+(L.length-j))-(i+V.length)) (cap-(i+V.length)) V.length vc)) ?_; refine xpL (.bool true) ?_; refine xT ?_; go_upto_region 22 with fail
       refine wp_region_held_drew (S:=fun _=>True) (by kernel_rfl) trivial ?_; intro _; replace B_:=B_.drew; replace V_:=V_.drew; replace GR:=grown_trans GR (grown_drew' _ _); generalize w3.drew=w12 at B_ V_ GR ⊢; refine xrH 0 121 rfl (.slice (some ⟨g,0,none⟩) (i+V.length+(L.length-j)) cap) (fun _ _=>(by kernel_rfl)) trivial ?_
       refine xrH 1 122 rfl (.int .i64 ((i:Nat):Int)) (fun _ _=>(by kernel_rfl)) trivial ?_; refine xrH 2 123 rfl (.slice (some ⟨vb,0,none⟩) V.length vc) (fun _ _=>(by kernel_rfl)) trivial ?_; refine xrH 3 124 rfl (.int .i64 ((V.length:Nat):Int)) (fun _ _=>lenS _ 29 49 (some ⟨vb,0,none⟩) V.length vc rfl Try.underlying29 rfl _) trivial ?_
       refine xrH 4 125 rfl (.int .i64 ((i+V.length:Nat):Int)) (fun _ _=>addI .i64 _ _ _ _ _ _ _ rfl rfl rfl (by rw [xw6]; omega) _) trivial ?_
       refine xrH 5 126 rfl (.slice (slp (some ⟨g,0,none⟩) cap (i+V.length)) ((i+V.length+(L.length-j))-(i+V.length)) (cap-(i+V.length))) (fun _ _=>cutOp _ _ _ _ _ _ rfl rfl rfl (sl_l (P:=Try.prog) (t:=29) (by kernel_rfl) (fun _=>by kernel_rfl) (some ⟨g,0,none⟩) (i+V.length+(L.length-j)) cap (i+V.length) (by omega) _)) trivial ?_
       refine xrH 6 127 rfl (.slice (some ⟨g,0,none⟩) L.length cap) (fun _ _=>(by kernel_rfl)) trivial ?_; refine xrH 7 128 rfl (.int .i64 ((j:Nat):Int)) (fun _ _=>(by kernel_rfl)) trivial ?_
       refine xrH 8 129 rfl (.slice (slp (some ⟨g,0,none⟩) cap j) (L.length-j) (cap-j)) (fun _ _=>cutOp _ _ _ _ _ _ rfl rfl rfl (sl_l (P:=Try.prog) (t:=29) (by kernel_rfl) (fun _=>by kernel_rfl) (some ⟨g,0,none⟩) L.length cap j (by omega) _)) trivial ?_
       have hlp:(i+V.length)*2+(wrc (L.drop j)).length≤(wrc L++ys).length:=by rw [dp_len (by omega)]; omega
       have hrn:=B_.copies (P:=Try.prog) (dT:=29) (sT:=29) (ty:=3) Try.underlying29 (fun _=>by kernel_rfl) (slp (some ⟨g,0,none⟩) cap (i+V.length)) (slp (some ⟨g,0,none⟩) cap j) ((i+V.length+(L.length-j))-(i+V.length)) (cap-(i+V.length)) (L.length-j) (cap-j) (L.length-j) ((i+V.length)*2) (by simp only [Nat.min_def]; split <;> omega) (wrc (L.drop j)) (dp_len (by omega)) (fun _=>slp_g (by omega)) (fun h0_=>⟨_,slp_g (by omega),wrc_cell B_ (dp_read (by omega))⟩) hlp (wrc_one _)
       refine onlyH (i:=9) (some 130) rfl _ (by kernel_rfl) rfl rfl (copyOp17 _ _ 29 29 _ _ _ rfl rfl rfl hrn) trivial ?_; simp only [aP,lI,l0,lS]; clear hrn; replace B_:=B_.put hlp; replace V_:=V_.apart (g:=g) (by omega) (ov (wrc L++ys) ((i+V.length)*2) (wrc (L.drop j))).toArray
       replace GR:=grown_trans GR (grown_set _ g (ov (wrc L++ys) ((i+V.length)*2) (wrc (L.drop j))).toArray); generalize w12.setRow g (ov (wrc L++ys) ((i+V.length)*2) (wrc (L.drop j))).toArray=w13 at B_ V_ GR ⊢; clear hlp
       refine wpAnyH_done (by kernel_rfl) ?_ _
       first | show Exit.then _ _ _ _ _ | show Exit.inBlock _ _ _ _ _
       go_upto_region 23 with fail; refine wp_region_list ?_; refine xpL (.slice (some ⟨g,0,none⟩) (i+V.length+(L.length-j)) cap) ?_; refine xpL (.int .i64 ((i:Nat):Int)) ?_
       refine readL (.slice (slp (some ⟨g,0,none⟩) cap i) ((i+V.length+(L.length-j))-i) (cap-i)) rfl (cutOp _ _ _ _ _ _ rfl rfl rfl (sl_l (P:=Try.prog) (t:=29) (by kernel_rfl) (fun _=>by kernel_rfl) (some ⟨g,0,none⟩) (i+V.length+(L.length-j)) cap i (by omega) _)) ?_; simp only [aP,lI,l0,lS]; refine xpL (.slice (some ⟨vb,0,none⟩) V.length vc) ?_
       have hlp:i*2+(wrc V).length≤(ov (wrc L++ys) ((i+V.length)*2) (wrc (L.drop j))).length:=by rw [wrc_len]; rw [ov_len (by rw [dp_len (by omega)]; omega)]; omega
       have hrn:=B_.copies (P:=Try.prog) (dT:=29) (sT:=29) (ty:=3) Try.underlying29 (fun _=>by kernel_rfl) (slp (some ⟨g,0,none⟩) cap i) (some ⟨vb,0,none⟩) ((i+V.length+(L.length-j))-i) (cap-i) V.length vc V.length (i*2) (by simp only [Nat.min_def]; split <;> omega) (wrc V) (wrc_len _) (fun _=>slp_g (by omega)) (fun _=>⟨_,rfl,wrc_cell V_ fun j_ u_ hu_=>by rw [Nat.zero_add]; exact get_left hu_⟩) hlp (wrc_one _)
       refine xaL _ (copyOp17 _ _ 29 29 _ _ _ rfl rfl rfl hrn) ?_; clear hrn; replace B_:=B_.put hlp; replace V_:=V_.apart (g:=g) (by omega) (ov (ov (wrc L++ys) ((i+V.length)*2) (wrc (L.drop j))) (i*2) (wrc V)).toArray; replace GR:=grown_trans GR (grown_set _ g (ov (ov (wrc L++ys) ((i+V.length)*2) (wrc (L.drop j))) (i*2) (wrc V)).toArray)
       generalize w13.setRow g (ov (ov (wrc L++ys) ((i+V.length)*2) (wrc (L.drop j))) (i*2) (wrc V)).toArray=w14 at B_ V_ GR ⊢; clear hlp; refine xT ?_; go_upto_region 24 with fail; refine wp_region_list ?_; refine xpL (.slice (some ⟨g,0,none⟩) (i+V.length+(L.length-j)) cap) ?_; refine xpL (.slice (some ⟨g,0,none⟩) (i+V.length+(L.length-j)) cap) ?_; refine xT ?_
       have hpr:=fin_hard (L:=L) (V:=V) (i:=i) (j:=j) (ys:=ys) (by omega) (by omega) (by omega); have HS:=show Hid _ from (Rep17.of (w:=w) (sp:=some ⟨g,0,none⟩) B_ hpr (k:=(i+V.length+(L.length-j))) (by simp only [List.length_append,List.length_take,List.length_drop]; omega) (by simp only [List.length_append,List.length_take,List.length_drop]; omega) GR)
       clear B_ V_ GR; go_wp2; go_ret
       exact HS.out
theorem vrep_any (w:World) (L V:Rgs17) (sp:Option Addr) (i j cap vb vc:Nat) (hij:i≤j) (hj:j≤L.length) (hcap:L.length≤cap) (hln:L.length<1000000) (hv:V.length≤2) (hv0:i=j→0<V.length) (O_:w.ownsRow 0 49 2 (.slice sp L.length cap) L.length (wrc L)) (V_:w.ownsRow 0 49 2 (.slice (some ⟨vb,0,none⟩) V.length vc) V.length (wrc V)) (hne:vb∉ob sp) :
 Calls Try.prog 56 #[.slice sp L.length cap,.int .i64 ((i:Nat):Int),.int .i64 ((j:Nat):Int),.slice (some ⟨vb,0,none⟩) V.length vc] w fun e w'=>Rep17 w sp (L.take i++(V++L.drop j)) e w':=by
 rcases Nat.lt_or_ge i j with h | h
 · obtain ⟨g,rfl⟩:=row_some16 O_ (by omega)
   obtain ⟨ys,B,hcap,_⟩:=Blk.of O_
   obtain ⟨vs,BV,hvc,_⟩:=Blk.of V_
   exact vrep_lt w L V i j g cap vb vc ys vs h hj hln hv B BV (fun e=>hne (by rw [e]; exact mS)) hcap hvc
 · obtain rfl:j=i:=by omega
   exact vrep_eq w L V sp j cap vb vc hj hcap hln hv (hv0 rfl) O_ V_ hne
theorem rct_no {L:Rgs17} {f t:Int} (h:rhi t≤rlo f):rct L f t=L∧rctN L f t=0:=by
 have e:rct L f t=L:=if_pos h
 refine ⟨e,?_⟩
 unfold rctN
 rw [e]
 omega
theorem rct_is {L:Rgs17} {f t:Int} (h:¬ rhi t≤rlo f):rct L f t=rcut L (rlo f) (rhi t):=if_neg h
theorem rad_no {L:Rgs17} {f t:Int} (h:rhi t≤rlo f):rad L f t=L∧radN L f t=0:=by
 have e:rad L f t=L:=if_pos h
 refine ⟨e,?_⟩
 unfold radN
 rw [e]
 omega
end Go.Proofs.Ytpdpfdelglgfnaa
